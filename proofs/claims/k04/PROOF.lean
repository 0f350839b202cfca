import PyProof.Rows.All
import Wide.All
import OpenK.AllK
import Wide.FinOn
import HandS.Base
import HandS.Call
import HandS.List
import HandS.Comp
import HandS.Ends
import HandS.Words
import HandS.WordsList
import HandS.Wide
import HandS.Codes
import HandS.Defaults
import HandS.Iter
import HandS.Walk
import HandS.IsInst
import HandS.TupAny
import HandS.Conv
import HandS.TryOnly
import PyProof.EnumMake
import PyProof.Rows.EnumRows
import HandS.Dict
import HandS.Small
import KE.KeyNested
import PyProof.Rows.TupTab
import HandS.More
import HandS.OwnEq
import PyProof.InstNe
import HandS.Property
import HandS.Deep
import KE.KStateDown
import HandS.Exc
import HandS.ExcInit
import HandS.ExcIs
import HandS.Head0
import HandS.Head1
import HandS.Head2
import HandS.HeadEnd
import HandS.HeadHook1
import HandS.HeadHook2
import PySem.Challenge.RW_pressedwords_k04_whole_canon_by_renaming
set_option Elab.async false
set_option linter.all false
set_option maxRecDepth 100000
set_option maxHeartbeats 2000000
/-! a list comprehension of any number of clauses -/
namespace Lcn
open PySem PySem.Spec PyProof.Rows L2
section
variable {elt tg iter tg1 iter1 : Expr} {ifs ifs1 : List Expr} {gens : List Comprehension} {scope : Scope} {pos : Pos} {d : Nat} {it acc : Value} {env : Env}
theorem turn_mid (hd : gens[d]? = some ⟨tg, iter, ifs, 0⟩) (hd1 : gens[d + 1]? = some ⟨tg1, iter1, ifs1, 0⟩) :
    compTurn (.ListComp elt gens scope pos) d it acc env = (do
      standAt iter.pos
      match ← pyNext it with
      | none => pure (.done .next)
      | some v =>
        letOwnedTupleGo tg it v
        assign tg env v
        let mut ok := true
        for c in ifs do
          if ok then ok ← isTrue c env (eval c env)
        if ok then
          let x ← eval iter1 env
          standAt iter1.pos
          let x ← foldedSetIterable iter1 env x
          let _ ← runOwn (.compStart (.ListComp elt gens scope pos) (d + 1) (← holding [x] (pyIter x)) acc env) env
        again (.compLoop (.ListComp elt gens scope pos) d it acc env)) := by
  unfold compTurn
  simp only [hd, hd1]
  rfl
theorem turn_in (hd : gens[d]? = some ⟨tg, iter, ifs, 0⟩) (hd1 : gens[d + 1]? = none) :
    compTurn (.ListComp elt gens scope pos) d it acc env = (do
      standAt iter.pos
      match ← pyNext it with
      | none => pure (.done .next)
      | some v =>
        letOwnedTupleGo tg it v
        assign tg env v
        let mut ok := true
        for c in ifs do
          if ok then ok ← isTrue c env (eval c env)
        if ok then
          (do let _ ← call (.builtin "list.append") [acc, ← eval elt env])
        again (.compLoop (.ListComp elt gens scope pos) d it acc env)) := by
  unfold compTurn
  simp only [hd, hd1]
  rfl
variable {prog : Program} {w : World} {A : Around} {s : Shared} {R : Result → Shared → Prop}
abbrev F0 : Value → Shared → Prop := fun _ _ => False
/-- what stands behind a clause's tests, to Z: the next clause, whole; or the element, appended -/
def Body (prog : Program) (w : World) (A : Around) (elt : Expr) (gens : List Comprehension) (scope : Scope) (pos : Pos) (acc : Value) (env : Env) (d : Nat) (Z : Shared → Prop) (s : Shared) : Prop :=
  match gens[d]? with
  | some g' => g'.is_async = 0 ∧ (∀ x, foldedSetIterable g'.iter env x = pure x) ∧ wpAny (model prog w) A (eval g'.iter env) (fun x s₄ => wpAny (model prog w) A (pyIter x) (fun i s₅ =>
      codeAny (model prog w) A (.compStart (.ListComp elt gens scope pos) d i acc env) (fun r s' => match r with
        | .ok _ => Z s'
        | .error _ => False) s₅) F0 s₄) F0 s
  | none => wpAny (model prog w) A (eval elt env) (fun x s₄ => wpAny (model prog w) A (call (.builtin "list.append") [acc, x]) (fun _ s₅ => Z s₅) F0 s₄) F0 s
/-- the loop of the clause d, by a word I that falls -/
theorem loop_rule (hsync : ∀ g ∈ gens, g.is_async = 0) (hd : gens[d]? = some ⟨tg, iter, ifs, 0⟩) (I : Nat → Shared → Prop)
    (turn : ∀ n s, I n s → wpAny (model prog w) A (pyNext it) (fun r s₁ => match r with
      | none => R (.ok .next) s₁
      | some v => wpAny (model prog w) A (letOwnedTupleGo tg it v) (fun _ s₁' => wpAny (model prog w) A (assign tg env v) (fun _ s₂ =>
          wpAny (model prog w) A (forIn ifs true fun c r => if r = true then do let ok ← isTrue c env (eval c env); pure (ForInStep.yield ok) else pure (ForInStep.yield r)) (fun ok s₃ =>
            if ok = true then Body prog w A elt gens scope pos acc env (d + 1) (fun s' => ∃ m, m < n ∧ I m s') s₃ else ∃ m, m < n ∧ I m s₃) F0 s₂) F0 s₁') F0 s₁) F0 s)
    (n : Nat) (h : I n s) : codeAny (model prog w) A (.compLoop (.ListComp elt gens scope pos) d it acc env) R s := by
  refine codeAny_loop rfl I (fun n s hI => ?_) n h
  show wpAny _ A ((compTurn (.ListComp elt gens scope pos) d it acc env).onRaise _) _ _ s
  refine wpAny_noted ?_
  cases hn : gens[d + 1]? with
  | none =>
    rw [turn_in hd hn]
    refine wpAny_bind (wpAny_standAt (wpAny_bind (thnF (turn n s hI) fun r s₁ h₁ => ?_)))
    cases r with
    | none => exact wpAny_pure h₁
    | some v =>
      refine wpAny_bind (thnF h₁ fun _ s₁' h₁' => wpAny_bind (thnF h₁' fun _ s₂ h₂ => wpAny_bind (thnF h₂ fun ok s₃ h₃ => ?_)))
      cases ok with
      | false => exact wpAny_pure ⟨rfl, h₃⟩
      | true =>
        have h₃ : Body prog w A elt gens scope pos acc env (d + 1) (fun s' => ∃ m, m < n ∧ I m s') s₃ := h₃
        unfold Body at h₃
        rw [hn] at h₃
        exact wpAny_bind (wpAny_bind (thnF h₃ fun x s₄ h₄ => wpAny_bind (thnF h₄ fun _ s₅ h₅ => wpAny_pure (wpAny_pure ⟨rfl, h₅⟩))))
  | some g' =>
    obtain ⟨tg1, iter1, ifs1, asy⟩ := g'
    by_cases ha : asy = 0
    · subst ha
      rw [turn_mid hd hn]
      refine wpAny_bind (wpAny_standAt (wpAny_bind (thnF (turn n s hI) fun r s₁ h₁ => ?_)))
      cases r with
      | none => exact wpAny_pure h₁
      | some v =>
        refine wpAny_bind (thnF h₁ fun _ s₁' h₁' => wpAny_bind (thnF h₁' fun _ s₂ h₂ => wpAny_bind (thnF h₂ fun ok s₃ h₃ => ?_)))
        cases ok with
        | false => exact wpAny_pure ⟨rfl, h₃⟩
        | true =>
          have h₃ : Body prog w A elt gens scope pos acc env (d + 1) (fun s' => ∃ m, m < n ∧ I m s') s₃ := h₃
          unfold Body at h₃
          rw [hn] at h₃
          obtain ⟨_, hs, h₃⟩ := h₃
          refine wpAny_bind (thnF h₃ fun x s₄ h₄ => ?_)
          refine wpAny_bind (wpAny_standAt (wpAny_bind (wpAny_of_eq (hs x) (wpAny_bind (wpAny_holding (thnF h₄ fun i1 s₅ h₅ => ?_))))))
          refine wpAny_bind (wpAny_runOwn ?_)
          rw [Around.mark_none]
          refine codeAny_mono h₅ fun r s' hr => ?_
          cases r with
          | ok f =>
            first
              | exact wpAny_pure ⟨rfl, hr⟩
              | exact wpAny_bind (wpAny_pure (wpAny_pure ⟨rfl, hr⟩))
          | error e => exact hr.elim
    · exact absurd (hsync _ (List.mem_of_getElem? hn)) ha
/-- a clause's start: its source is asked for its iterator once more, or not -/
theorem start_rule (hd : gens[d]? = some ⟨tg, iter, ifs, 0⟩) (h0 : codeAny (model prog w) A (.compLoop (.ListComp elt gens scope pos) d it acc env) R s)
    (h : wpAny (model prog w) A (pyIter it) (fun it' s' => codeAny (model prog w) A (.compLoop (.ListComp elt gens scope pos) d it' acc env) R s') (notedBy (model prog w) A env fun x s' => R (.error x) s') s) :
    codeAny (model prog w) A (.compStart (.ListComp elt gens scope pos) d it acc env) R s := by
  refine codeAny_of_tree ?_
  show wpAny _ _ ((compStart (.ListComp elt gens scope pos) d it acc env).onRaise _) _ _ s
  refine wpAny_notedAt ?_
  unfold compStart
  have e1 : (clausesOf (.ListComp elt gens scope pos))[d]? = some ⟨tg, iter, ifs, 0⟩ := hd
  rw [e1]
  show wpAny _ _ (ask >>= _) _ _ s
  refine wpAny_bind (wpAny_askSetting (wpAny_ite ?_))
  split
  · first
      | exact wpAny_bind (wpAny_pure (wpAny_pure (And.intro rfl h0)))
      | exact wpAny_pure (And.intro rfl h0)
  · first
      | exact wpAny_bind (wpAny_rule (wpAny_bind (wpAny_standAt (wpAny_bind (wpAny_mono h (fun it' s' h' => wpAny_pure (And.intro rfl h')) fun _ _ x => x)))))
      | (refine wpAny_bind (wpAny_rule ?_); show wpAny _ _ (standAt iter.pos >>= _) _ _ s; exact wpAny_bind (wpAny_standAt (wpAny_bind (wpAny_mono h (fun it' s' h' => wpAny_pure (And.intro rfl h')) fun _ _ x => x))))
end
section
variable {X : Cx} {elt : Expr} {gens : List Comprehension} {scope : Scope} {pos : Pos}
/-- what a block's rest is to reach, the list being built at D -/
abbrev TB := Addr → L2.St → Hp → (Hp → Prop) → Prop
/-- the element, appended -/
def tEnd (te : TE) : TB := fun D σ H Nx => te σ H fun y H' => ∃ acc, H' D = some (.lst acc) ∧ acc.length < sizeLine ∧ Nx (upd H' D (.lst (acc ++ [y])))
/-- a clause's turns, from H on, till Z -/
def tTurns (g : TG) (tt : TT) (t1 : TB) (vs : List Nat) (J : It) (D : Addr) (σ : L2.St) (Z : Hp → Prop) (H : Hp) : Prop :=
  ∃ W : Nat → Nat → Hp → Prop, (∃ m, W 0 m H) ∧ ∀ i m H, W i m H → (J.stop i H ∧ Z H) ∨
    (J.go i H ∧ ∃ Nx : Hp → Prop, (∀ H', Nx H' → ∃ m', m' < m ∧ W (i + 1) m' H') ∧ ∀ x H', J.yld i H x H' → g x (wipe σ vs) H' fun σ2 H2 => wipe σ2 vs = wipe σ vs ∧ tt σ2 H2 fun b H3 => if b = true then t1 D σ2 H3 Nx else Nx H3)
/-- a clause behind another -/
def tCl (wi : TI) (g : TG) (tt : TT) (t1 : TB) (vs : List Nat) : TB := fun D σ H Nx => wi σ H fun J H1 => tTurns g tt t1 vs J D σ Nx H1
/-- the whole -/
def tLcN (wi : TI) (g : TG) (tt : TT) (t1 : TB) (vs : List Nat) : TE := fun σ H Q => wi σ H fun J H1 => ∀ D, H1 D = none → tTurns g tt t1 vs J D σ (fun H' => Q (.ref D) H') (upd H1 D (.lst []))
/-- slots that know, but for vs, what the others know -/
def Kn (vs : List Nat) (σ σ' : L2.St) : Prop := σ'.length = σ.length ∧ ∀ (j : Nat) v, (wipe σ vs)[j]? = some (some v) → σ'[j]? = some (some v)
structure PB (X : Cx) (elt : Expr) (gens : List Comprehension) (scope : Scope) (pos : Pos) (d : Nat) (vs : List Nat) (t : TB) : Prop where
  run : ∀ (D : Addr) (pins : List (Addr × Obj)) (s : Shared) (σ : L2.St) (H : Hp) (Nx : Hp → Prop) (Z : Shared → Prop), Inv X pins σ H s → t D σ H Nx →
    (∀ s' σ' H', Inv X pins σ' H' s' → Kn vs σ σ' → Nx H' → Z s') → Body X.prog X.w X.A elt gens scope pos (.ref D) X.env d Z s
theorem pb_end {d : Nat} {te : TE} (hx : X.xe = fun _ _ => False) (hd : gens[d]? = none) (he : PE X elt te) : PB X elt gens scope pos d [] (tEnd te) := by
  refine ⟨fun D pins s σ H Nx Z I h hZ => ?_⟩
  unfold Body
  rw [hd]
  have r := he.run pins s σ H _ I h
  rw [hx] at r
  refine thnF r fun z s1 ⟨yv, H1, I1, r1, acc, hD, hz, nx⟩ => ?_
  exact app_ok I1 hD hz r1 fun s2 I2 => hZ s2 σ _ I2 ⟨rfl, fun j v e => e⟩ nx
variable {tg iter : Expr} {ifs : List Expr} {d : Nat} {g : TG} {tt : TT} {t1 : TB} {vs vs1 : List Nat} {J : It} {fp : List Addr} {it : Addr} {tn : Nat → Heap → Prop} {pins : List (Addr × Obj)} {s : Shared} {σ : L2.St} {H : Hp} {D : Addr} {S : Hp → Prop} {R : Result → Shared → Prop}
theorem loop_ok (hx : X.xe = fun _ _ => False) (hc : X.calm = true) (hsync : ∀ g ∈ gens, g.is_async = 0) (hd : gens[d]? = some ⟨tg, iter, ifs, 0⟩) (pg : PG X tg g) (pt : PTs X ifs tt)
    (hb : PB X elt gens scope pos (d + 1) vs1 t1) (hv : ∀ i ∈ vs1, i ∈ vs) (T : Turn X.prog X.w X.K tg J fp it tn)
    (stat : ∀ {σ' : L2.St} {H' : Hp} {s' : Shared}, Inv X pins σ' H' s' → (∀ b ∈ fp, H' b = none) → ∀ b ∈ fp, FpOk X pins H' b)
    (I : Inv X pins (wipe σ vs) H s) (st : tn 0 s.heap) (nf : ∀ b ∈ fp, H b = none) (h : tTurns g tt t1 vs J D σ S H)
    (hR : ∀ s' H', Inv X pins (wipe σ vs) H' s' → S H' → R (.ok .next) s') :
    codeAny (model X.prog X.w) X.A (.compLoop (.ListComp elt gens scope pos) d (.ref it) (.ref D) X.env) R s := by
  obtain ⟨W, ⟨m0, w0⟩, turn⟩ := h
  refine loop_rule hsync hd (fun n s' => ∃ i H', Inv X pins (wipe σ vs) H' s' ∧ tn i s'.heap ∧ (∀ b ∈ fp, H' b = none) ∧ W i n H') ?_ m0 ⟨0, H, I, st, nf, w0⟩
  rintro n sa ⟨i, Ha, Ia, sta, na, wa⟩
  rcases turn i n Ha wa with ⟨stop, z⟩ | ⟨go, Nx, hNx, step⟩
  · refine thnF (T.done X rfl rfl rfl hc i pins sa _ Ha (fun _ _ => False) Ia (stat Ia na) sta stop) fun r sb ⟨hr, Ib⟩ => ?_
    subst hr
    exact hR sb Ha Ib z
  · refine thnF (T.item X rfl rfl rfl hc i pins sa _ Ha (fun _ _ => False) Ia (stat Ia na) sta go) fun r sb ⟨u, hr, hb'⟩ => ?_
    subst hr
    refine thnF hb' fun _ sc ⟨x, Hc, Ic, rc, yc, stc, nc⟩ => ?_
    have Ip := Ic.pinned (stat Ic nc) (T.obj _ _ stc)
    have r1 := pg.run _ sc _ Hc x u _ Ip rc (step x Hc yc)
    rw [hx] at r1
    refine thnF r1 fun _ sd ⟨σd, Hd, Id, hw, qd⟩ => ?_
    have r2 := pt.run _ sd σd Hd _ Id qd
    rw [hx] at r2
    refine thnF r2 fun b se ⟨He, Ie, qe⟩ => ?_
    have fin : ∀ {σf : L2.St} {s' : Shared} {H' : Hp}, Inv X (pins ++ pinsAt fp sc.heap) σf H' s' → Kn vs1 σd σf → Nx H' → ∃ m, m < n ∧ ∃ i H', Inv X pins (wipe σ vs) H' s' ∧ tn i s'.heap ∧ (∀ b ∈ fp, H' b = none) ∧ W i m H' := fun {σf s' H'} I' kn nx => by
      obtain ⟨m', hm, w'⟩ := hNx H' nx
      have pin' : ∀ b ∈ fp, ∀ o, sc.heap.get? b = some o → s'.heap.get? b = some o ∧ H' b = none := fun b hb o e =>
        let z := I'.pin (b, o) (List.mem_append_right _ (List.mem_append_right _ (mem_pinsAt hb e)))
        ⟨z.1, z.2.1⟩
      refine ⟨m', hm, i + 1, H', I'.unpinned.weak ?_ (fun j v e => ?_), T.keep _ _ _ stc fun b hb o e => (pin' b hb o e).1, fun b hb => ?_, w'⟩
      · rw [kn.1, ← wipe_length σd vs, hw]
      · rw [← hw] at e
        obtain ⟨e1, e2⟩ := wipe_some e
        exact kn.2 j v (by rw [wipe_out fun z => e2 (hv j z)]; exact e1)
      · obtain ⟨o, e, _⟩ := T.obj _ _ stc b hb
        exact (pin' b hb o e).2
    cases b with
    | false =>
      simp only [Bool.false_eq_true, if_false] at qe ⊢
      exact fin Ie ⟨rfl, fun j v e => (wipe_some e).1⟩ qe
    | true =>
      simp only [if_true] at qe ⊢
      exact hb.run D _ se σd He Nx _ Ie qe fun s' σ' H' I' kn nx => fin I' kn nx
/-- one clause more -/
theorem pb_cl {wi : TI} (hx : X.xe = fun _ _ => False) (hc : X.calm = true) (hsync : ∀ g ∈ gens, g.is_async = 0) (hd : gens[d]? = some ⟨tg, iter, ifs, 0⟩) (hi : PI X tg iter wi) (pg : PG X tg g) (pt : PTs X ifs tt)
    (hb : PB X elt gens scope pos (d + 1) vs1 t1) (hv : ∀ i ∈ vs1, i ∈ vs) (hs : ∀ env x, foldedSetIterable iter env x = pure x := by intro _ _; rfl) :
    PB X elt gens scope pos d vs (tCl wi g tt t1 vs) := by
  refine ⟨fun D pins s σ H Nx Z I h hZ => ?_⟩
  unfold Body
  rw [hd]
  refine ⟨rfl, hs _, ?_⟩
  have r := hi.run pins s σ H _ I h
  rw [hx] at r
  refine thnF r fun xv s1 h1 => thnF h1 fun itv s2 ⟨it, fp, tn, J, H2, e, I2, T, st, f, q⟩ => ?_
  subst e
  have loop := loop_ok (R := fun r s' => match r with
    | .ok _ => Z s'
    | .error _ => False) hx hc hsync hd pg pt hb hv T (fun _ hn b hb => ⟨hn b hb, (f b hb).2⟩) (I2.weak (wipe_length _ _) fun j v e => (wipe_some e).1) st (fun b hb => (f b hb).1) q
    fun s' H' I' z => hZ s' _ H' I' ⟨wipe_length _ _, fun j v e => e⟩ z
  exact start_rule hd loop (T.self X.A 0 _ _ _ st loop)
end
section
variable {X : Cx} {elt : Expr} {more : List Comprehension} {scope : Scope} {pos : Pos} {tg iter : Expr} {ifs : List Expr} {g : TG} {tt : TT} {t1 : TB} {vs1 : List Nat} {wi : TI} {own : List (Str × Nat)}
/-- [elt for tg in iter if .. for .. ..] as a value: any number of clauses -/
theorem pe_lcn (hc : X.calm = true) (hN : X.N.Nodup) (hi : PI X tg iter wi) (ok : BlkOk X.N X.env.scope scope own) (hsync : ∀ g ∈ (⟨tg, iter, ifs, 0⟩ :: more : List Comprehension), g.is_async = 0)
    (hg : ∀ (s : Shared) (H : Hp) (C : Addr) (cl : List (Str × Addr)) (fp : List Addr), PG (X.blk s H scope (compEnvC scope cl C X.env) fp) tg g)
    (ht : ∀ (s : Shared) (H : Hp) (C : Addr) (cl : List (Str × Addr)) (fp : List Addr), PTs (X.blk s H scope (compEnvC scope cl C X.env) fp) ifs tt)
    (hb : ∀ (s : Shared) (H : Hp) (C : Addr) (cl : List (Str × Addr)) (fp : List Addr), PB (X.blk s H scope (compEnvC scope cl C X.env) fp) elt (⟨tg, iter, ifs, 0⟩ :: more) scope pos 1 vs1 t1)
    (hv : ∀ i ∈ vs1, i ∈ own.map (·.2)) (hs : ∀ x, foldedSetIterable iter X.env x = pure x := by intro _; rfl) :
    PE X (.ListComp elt (⟨tg, iter, ifs, 0⟩ :: more) scope pos) (tLcN wi g tt t1 (own.map (·.2))) := by
  refine ⟨fun pins s σ H Q I h => ?_⟩
  rw [eval_ListComp]
  have seen : ∀ y ∈ scope.names, y.2 = .free → ∃ c, X.env.cells.lookup y.1 = some c := fun y hy e => (ok.free y hy e).elim (fun k => I.ok.has _ (.inl k)) fun k => I.ok.has _ (.inr k)
  refine wpAny_comprehension_free (use := none) (gs := more) rfl hs (closure_ok seen) ok.kind (fun y hy e => by rw [ok.uniq y hy, e])
    (thn (hi.run pins s σ H _ I h) fun xv s1 h1 => thn h1 fun itv s2 ⟨it, fp, tn, J, H2, e, I2, T, st2, f2, q⟩ => ?_)
  subst e
  refine wpAny_newObj_type (newEnv_comp ?_) (by show 0 ≤ sizeLine; decide)
  have fresh : H2 s2.heap.objs.size = none := I2.hok.fresh (Nat.le_refl _)
  have qD := q _ fresh
  generalize hD : s2.heap.objs.size = D at fresh qD
  generalize hs3 : ({ s2 with heap := s2.heap.push { cls := .type "list", data := .seq ([] : List Value).toArray } } : Shared) = s3
  have up : s3.heap = s2.heap.push { cls := .type "list", data := .seq ([] : List Value).toArray } := by rw [← hs3]
  generalize hH3 : upd H2 D (.lst []) = H3 at qD
  have I3 : Inv X pins σ H3 s3 := by
    rw [← hH3, ← hs3]
    exact I2.laid (t' := s2.toks) (fun b o e => Heap.get?_push_of_some _ e) (Nat.le_of_eq hD) ⟨Nat.zero_le _, [], 0, .nil, by rw [← hD]; exact Heap.get?_push_size _ rfl⟩
  have f3 : ∀ b ∈ fp, FpOk X pins H3 b ∧ b < s3.heap.objs.size := fun b hb => by
    obtain ⟨o, e, _⟩ := T.obj _ _ st2 b hb
    have lt := Heap.lt_size e
    refine ⟨⟨?_, (f2 b hb).2⟩, by rw [up, Heap.size_push]; exact Nat.lt_succ_of_lt lt⟩
    rw [← hH3, upd_ne (by rw [← hD]; exact Nat.ne_of_lt lt)]
    exact (f2 b hb).1
  have I4 := block_start I3 ok hN f3
  have hg := hg s3 H3 s3.heap.objs.size (cellsFrom (s3.heap.objs.size + 1) scope.names (cloFrom X.env.cells scope.names [])) fp
  have ht := ht s3 H3 s3.heap.objs.size (cellsFrom (s3.heap.objs.size + 1) scope.names (cloFrom X.env.cells scope.names [])) fp
  have hb := hb s3 H3 s3.heap.objs.size (cellsFrom (s3.heap.objs.size + 1) scope.names (cloFrom X.env.cells scope.names [])) fp
  generalize hce : compEnvC scope (cellsFrom (s3.heap.objs.size + 1) scope.names (cloFrom X.env.cells scope.names [])) s3.heap.objs.size X.env = ce at I4 hg ht hb
  have cL : ce.locals = s3.heap.objs.size := by subst hce; rfl
  generalize hs4 : ({ s3 with heap := pushCells (s3.heap.push { cls := .type "dict", data := .dict #[] }) scope.names } : Shared) = s4 at I4
  have st4 : tn 0 s4.heap := T.keep _ _ _ st2 fun b _ o e => by
    rw [← hs4]
    exact pushCells_keeps _ _ _ _ (Heap.get?_push_of_some _ (by rw [up]; exact Heap.get?_push_of_some _ e))
  have loop := loop_ok (X := X.blk s3 H3 scope ce fp) (it := it) (pos := pos) (R := compPost (model X.prog X.w) X.A X.xe none (EP X pins σ Q) (.ref D) s3.heap.objs.size) rfl hc hsync rfl hg ht hb hv T
    (fun I' hn b hb => ⟨hn b hb, (I'.ok.exf b hb).1, I'.ok.exfs b hb, .inl hb, fun x c e => (I'.ok.exf b hb).2 x c e, fun p hp => absurd (show p ∈ ([] : List (Addr × Obj)) ++ [] from hp) (by simp)⟩)
    I4 st4 (fun b hb => (f3 b hb).1.1) qD fun s5 H5 I5 z => by
      have I6 : Inv X pins σ H5 s5 := I3.call' (ch := fp) I5.os I5.base I5.hok I5.bare fun b hb => ⟨(f3 b hb).1.2.2.2.1, (f3 b hb).1.2.1, (f3 b hb).1.2.2.2.2.1, (f3 b hb).1.2.2.2.2.2⟩
      have nC : H5 s3.heap.objs.size = none := cL ▸ (I5.free : H5 ce.locals = none)
      obtain ⟨m, hn, _⟩ := I5.loc
      obtain ⟨g0, g1, g2, g3, g4, g5⟩ := I3.fpOk (Nat.le_refl _) nC
      refine ⟨m, cL ▸ (show s5.heap.Ns ce.locals m from hn), fun h'' sb => ?_⟩
      exact ⟨.ref D, H5, I6.turned (t' := s5.toks) (fun b o hb e => (sb.2 b hb).trans e) g0 g1 g3 g4 g5, rfl, z⟩
  subst hs3 hs4 hce hD
  exact codeAny_compStart_list loop (T.self X.A 0 _ _ _ st4 loop)
end
end Lcn
set_option maxHeartbeats 4000000
/-! sequences that are lists or tuples; comprehensions told by what they give -/
namespace Sq
open PySem PySem.Spec PyProof.Rows L2 Lcn
/-- a list or a tuple stands -/
def Sqn (K : PySem.W.Frag) (H : Hp) (a : Addr) (xs : List V) : Prop := SqL K H a xs ∨ SqT K H a xs
theorem SqT.same {K : PySem.W.Frag} {H H' : Hp} {a : Addr} {xs : List V} (e : Same H H') (h : SqT K H a xs) : SqT K H' a xs := by
  rcases h with (h | ⟨o, h⟩) | h
  · exact .inl (.inl (e _ _ h))
  · exact .inl (.inr ⟨o, e _ _ h⟩)
  · exact .inr h
theorem Sqn.same {K : PySem.W.Frag} {H H' : Hp} {a : Addr} {xs : List V} (e : Same H H') (h : Sqn K H a xs) : Sqn K H' a xs := h.imp e.seq (SqT.same e)
theorem same_upd {H H' : Hp} {p : Addr} {o : HO} (e : Same H H') (h : H p = none) : Same H (upd H' p o) := fun b u x => by
  rw [upd_ne (ne_of_none x h)]
  exact e b u x
theorem same_new {H : Hp} {p : Addr} {o : HO} (h : H p = none) : Same H (upd H p o) := same_upd (Same.refl H) h
/-! ### what is no list stays -/
def nol : HO → Bool
  | .lst _ => false
  | _ => true
def KT (H H' : Hp) : Prop := ∀ b o, nol o = true → H b = some o → H' b = some o
theorem KT.refl (H : Hp) : KT H H := fun _ _ _ h => h
theorem KT.trans {H H1 H2 : Hp} (a : KT H H1) (b : KT H1 H2) : KT H H2 := fun c o n h => b c o n (a c o n h)
theorem KT.of {H H' : Hp} (e : Same H H') : KT H H' := fun b o _ h => e b o h
theorem KT.tup {K : PySem.W.Frag} {H H' : Hp} {a : Addr} {xs : List V} (e : KT H H') (h : SqT K H a xs) : SqT K H' a xs := by
  rcases h with (h | ⟨o, h⟩) | h
  · exact .inl (.inl (e _ _ rfl h))
  · exact .inl (.inr ⟨o, e _ _ rfl h⟩)
  · exact .inr h
/-- a list's place written anew -/
theorem KT.lst {H : Hp} {D : Addr} {xs ys : List V} (h : H D = some (.lst xs)) : KT H (upd H D (.lst ys)) := fun b o n e => by
  by_cases hb : b = D
  · subst hb
    rw [h] at e
    cases e
    cases n
  · rw [upd_ne hb]
    exact e
theorem KT.new {H : Hp} {p : Addr} {o : HO} (h : H p = none) : KT H (upd H p o) := KT.of (same_new h)
/-! ### a frame: all stays but what M lets change, and M's own promise G goes on -/
structure Fr (M : Addr → Prop) (G : Hp → Prop) (H H' : Hp) : Prop where
  keep : ∀ b o, ¬ M b → H b = some o → H' b = some o
  kt : KT H H'
  on : G H → G H'
section
variable {M : Addr → Prop} {G : Hp → Prop}
theorem Fr.refl (H : Hp) : Fr M G H H := ⟨fun _ _ _ h => h, KT.refl H, fun g => g⟩
theorem Fr.trans {H H1 H2 : Hp} (a : Fr M G H H1) (b : Fr M G H1 H2) : Fr M G H H2 := ⟨fun c o n h => b.keep c o n (a.keep c o n h), a.kt.trans b.kt, fun g => b.on (a.on g)⟩
end
/-- G hangs on what stands at A alone, and A is there; M lies in A -/
structure Gd (A M : Addr → Prop) (G : Hp → Prop) : Prop where
  dep : ∀ H H', (∀ b o, A b → H b = some o → H' b = some o) → G H → G H'
  dom : ∀ H b, G H → A b → ∃ o, H b = some o
  sub : ∀ b, M b → A b
/-- nothing may change -/
abbrev F0 : Hp → Hp → Prop := Fr (fun _ => False) (fun _ => True)
theorem gd0 : Gd (fun _ => False) (fun _ => False) (fun _ => True) := ⟨fun _ _ _ g => g, fun _ _ _ z => z.elim, fun _ z => z⟩
theorem F0.of {H H' : Hp} (e : Same H H') : F0 H H' := ⟨fun b o _ h => e b o h, KT.of e, fun g => g⟩
theorem F0.same {H H' : Hp} (e : F0 H H') : Same H H' := fun b o h => e.keep b o (fun z => z) h
section
variable {A M : Addr → Prop} {G : Hp → Prop}
theorem Fr.of (u : Gd A M G) {H H' : Hp} (e : Same H H') : Fr M G H H' := ⟨fun b o _ h => e b o h, KT.of e, u.dep H H' fun b o _ h => e b o h⟩
theorem Gd.nA (u : Gd A M G) {H : Hp} {D : Addr} (g : G H) (h : H D = none) : ¬ A D := fun m => by
  obtain ⟨o, h'⟩ := u.dom H D g m
  rw [h] at h'
  cases h'
theorem Fr.free (u : Gd A M G) {H H' : Hp} (e : Fr M G H H') (g : G H) {D : Addr} (h : H' D = none) : H D = none := by
  cases q : H D with
  | none => rfl
  | some o =>
    rw [e.keep D o (fun m => u.nA (e.on g) h (u.sub D m)) q] at h
    cases h
theorem Gd.out (u : Gd A M G) {H : Hp} {D : Addr} {o : HO} (nA : ¬ A D) (g : G H) : G (upd H D o) := u.dep H _ (fun b ob ha h => by
  rw [upd_ne (fun z => nA (by rw [← z]; exact ha))]
  exact h) g
end
/-! ### a comprehension over one walk that keeps all -/
/-- n turns, turn i with x, X i x; the heap stays -/
def YIs (X : Nat → V → Prop) : Nat → Hp → V → Hp → Prop := fun i H x H' => H' = H ∧ X i x
/-- at D a list of n things stands, R of each -/
def Got (D : Addr) (n : Nat) (R : Hp → Nat → V → Prop) (H' : Hp) : Prop := ∃ ys, H' D = some (.lst ys) ∧ ys.length = n ∧ ∀ i y, ys[i]? = some y → R H' i y
def Stb (R : Hp → Nat → V → Prop) : Prop := ∀ H H' i v, KT H H' → R H i v → R H' i v
theorem got_snoc {D : Addr} {n : Nat} {R : Hp → Nat → V → Prop} {H : Hp} {ys : List V} {y : V} (st : Stb R) (h : H D = some (.lst ys)) (hn : ys.length = n) (hR : ∀ i y, ys[i]? = some y → R H i y) (hy : R H n y) : Got D (n + 1) R (upd H D (.lst (ys ++ [y]))) := by
  have k : KT H (upd H D (.lst (ys ++ [y]))) := KT.lst h
  refine ⟨ys ++ [y], upd_same, by rw [List.length_append, hn]; rfl, fun i z hz => ?_⟩
  rcases Nat.lt_or_ge i ys.length with lt | ge
  · rw [List.getElem?_append_left lt] at hz
    exact st _ _ _ _ k (hR i z hz)
  · rw [List.getElem?_append_right ge] at hz
    cases e : i - ys.length with
    | zero =>
      rw [e] at hz
      cases hz
      have : i = n := by omega
      rw [this]
      exact st _ _ _ _ k hy
    | succ j =>
      rw [e] at hz
      cases hz
theorem lc_fr {A M : Addr → Prop} {G : Hp → Prop} {J : It} {n : Nat} {Gw : Hp → Prop} {Xt : Nat → V → Prop} (w : Walk J n Gw (YIs Xt)) (hn : n < sizeLine) {g : TG} {te : TE} {vs : List Nat} {σ : L2.St} {H1 : Hp} {D : Addr} {Qd : Hp → Prop} {R : Hp → Nat → V → Prop} (st : Stb R) (u : Gd A M G)
    (hD : H1 D = none) (hG : G H1) (hGw : ∀ H', Fr M G H1 H' → Gw H')
    (hs : ∀ i x H' (Q : VK), i < n → Xt i x → Fr M G H1 H' → (∀ y H4, Fr M G H' H4 → R H4 i y → Q y H4) → g x (wipe σ vs) H' fun σ2 H2 => wipe σ2 vs = wipe σ vs ∧ te σ2 H2 Q)
    (hd : ∀ H', Fr M G H1 H' → Got D n R H' → Qd H') :
    ∃ W : Nat → Nat → Hp → Prop, (∃ m, W 0 m (upd H1 D (.lst []))) ∧ ∀ i m H, W i m H →
      (J.stop i H ∧ Qd H) ∨ (J.go i H ∧ ∃ Nx : Hp → Prop, (∀ H', Nx H' → ∃ m', m' < m ∧ W (i + 1) m' H') ∧ ∀ x H', J.yld i H x H' → g x (wipe σ vs) H' fun σ2 H2 => wipe σ2 vs = wipe σ vs ∧ tYes σ2 H2 fun b H3 =>
        if b = true then te σ2 H3 fun y H4 => ∃ acc, H4 D = some (.lst acc) ∧ acc.length < sizeLine ∧ Nx (upd H4 D (.lst (acc ++ [y]))) else Nx H3) := by
  have nA : ¬ A D := u.nA hG hD
  have nD : ¬ M D := fun m => nA (u.sub D m)
  refine lc_it w (fun i H => Fr M G H1 H ∧ Got D i R H) ⟨Fr.of u (same_new hD), [], upd_same, rfl, fun i y h => by cases i <;> cases h⟩ (fun i H _ p => hGw H p.1) (fun i x H H' hi p y => ?_) (fun H p => hd H p.1 p.2)
  obtain ⟨e, hx⟩ := y
  subst e
  obtain ⟨fr, ys, hDl, hl, hR⟩ := p
  refine hs i x H' _ hi hx fr fun y H4 f4 hy => ?_
  have d4 := f4.keep D _ nD hDl
  refine ⟨ys, d4, by omega, ⟨fun b o nm h => ?_, fun b o no h => ?_, fun gg => ?_⟩, got_snoc st d4 hl (fun i y h => st _ _ _ _ f4.kt (hR i y h)) hy⟩
  · rw [upd_ne (ne_of_none h hD)]
    exact f4.keep b o nm (fr.keep b o nm h)
  · rw [upd_ne (ne_of_none h hD)]
    exact f4.kt b o no (fr.kt b o no h)
  · exact u.out nA (f4.on (fr.on gg))
/-! ### a list or a tuple, walked -/
@[irreducible] def iSeq (K : PySem.W.Frag) (tl : TE) : TI := fun σ H R => tl σ H fun x H1 => ∃ a xs, x = .ref a ∧ ((SqL K H1 a xs ∧ R (Itl K a) H1) ∨ (SqT K H1 a xs ∧ R (Itt K a) H1))
theorem pi_seq {X : Cx} {tg l : Expr} {tl : TE} (hl : PE X l tl) : PI X tg l (iSeq X.K tl) := by
  refine ⟨fun pins s σ H R I h => ?_⟩
  unfold iSeq at h
  refine thn (hl.run pins s σ H _ I h) fun v s1 ⟨x, H1, I1, r1, a, xs, e, q⟩ => ?_
  subst e
  cases r1
  have here : ∀ b ∈ [s1.heap.objs.size], FpOk X pins H1 b := fun b hb => by
    have e : b = s1.heap.objs.size := by simpa using hb
    rw [e]
    exact I1.fpOk (Nat.le_refl _) (I1.hok.fresh (Nat.le_refl _))
  rcases q with ⟨hq, q⟩ | ⟨hq, q⟩
  · obtain ⟨its, rv, p, hz⟩ := I1.list hq
    exact wpAny_pyIter_list p.isList ⟨s1.heap.objs.size, [s1.heap.objs.size], _, _, H1, rfl, I1.kept (t' := s1.toks) fun b o e => Heap.get?_push_of_some _ e, turn_list a _, ⟨_, Heap.get?_push_size _ rfl, rfl, rfl⟩, here, q⟩
  · obtain ⟨its, rv, p, hz⟩ := I1.tuple hq
    exact wpAny_pyIter_tuple (show s1.heap.IsTuple a its.toArray from p) ⟨s1.heap.objs.size, [s1.heap.objs.size], _, _, H1, rfl, I1.kept (t' := s1.toks) fun b o e => Heap.get?_push_of_some _ e, turn_tuple a _, ⟨_, Heap.get?_push_size _ rfl, rfl, rfl⟩, here, q⟩
theorem seq_rd {K : PySem.W.Frag} {tl : TE} {σ : L2.St} {H H0 H1 : Hp} {R : It → Hp → Prop} {a : Addr} {xs : List V} (e0 : Same H0 H1) (hl : ∀ Q : VK, Q (.ref a) H1 → tl σ H Q) (hs : Sqn K H0 a xs)
    (q : ∀ (J : It) (Gw : Hp → Prop), Walk J xs.length Gw (YIs fun i x => xs[i]? = some x) → (∀ H', (∀ o, H0 a = some o → H' a = some o) → Gw H') → R J H1) : iSeq K tl σ H R := by
  unfold iSeq
  refine hl _ ⟨a, xs, rfl, hs.imp (fun h => ⟨e0.seq h, q _ _ walk_list fun H' e => ?_⟩) (fun h => ⟨SqT.same e0 h, q _ _ walk_tup fun H' e => ?_⟩)⟩
  · rcases h with (h | ⟨o, h⟩) | h
    · exact .inl (.inl (e _ h))
    · exact .inl (.inr ⟨o, e _ h⟩)
    · exact .inr h
  · rcases h with (h | ⟨o, h⟩) | h
    · exact .inl (.inl (e _ h))
    · exact .inl (.inr ⟨o, e _ h⟩)
    · exact .inr h
/-! ### xs.extend(t), t a tuple -/
def rExtT (K : PySem.W.Frag) : V → List V → Hp → VK → Prop := fun x vs H Q => ∃ l b xs zs, x = .ref l ∧ vs = [.ref b] ∧ H l = some (.lst xs) ∧ SqT K H b zs ∧ xs.length + zs.length ≤ sizeLine ∧ Q .non (upd H l (.lst (xs ++ zs)))
/-! ### tuple(x) -/
@[irreducible] def rTupOf (K : PySem.W.Frag) (xs : List V) (H : Hp) (Q : VK) : Prop := ∃ p ys, xs = [.ref p] ∧ ((SqL K H p ys ∧ ∀ l, H l = none → Q (.ref l) (upd H l (.tup ys))) ∨ (SqT K H p ys ∧ Q (.ref p) H))
theorem call_tupR {X : Cx} : CallR X (.type "tuple") (rTupOf X.K) := fun pins s σ H xs us Q I r h => by
  unfold rTupOf at h
  exact call_tuple_of pins s σ H xs us Q I r h
theorem rd_tup {K : PySem.W.Frag} {H : Hp} {a : Addr} {xs : List V} {Q : VK} (hs : Sqn K H a xs) (q : ∀ b H', Same H H' → SqT K H' b xs → Q (.ref b) H') : rTupOf K [.ref a] H Q := by
  unfold rTupOf
  exact ⟨a, xs, rfl, hs.imp (fun h => ⟨h, fun l hl => q l _ (same_new hl) (SqT.of upd_same)⟩) (fun h => ⟨h, q a H (Same.refl H) h⟩)⟩
/-! ### t[i:j], t a tuple -/
@[irreducible] def rSlR (K : PySem.W.Frag) (x : V) (lo hi : Option Int) (H : Hp) (Q : VK) : Prop := rSlA K x lo hi H Q
theorem sl_tupR {X : Cx} : SlR X (rSlR X.K) := by
  have e : rSlR X.K = rSlA X.K := by
    funext x lo hi H Q
    unfold rSlR
    rfl
  rw [e]
  exact sl_tupA
theorem rd_sl {K : PySem.W.Frag} {H : Hp} {a : Addr} {xs : List V} {lo hi : Option Int} {Q : VK} (ha : SqT K H a xs) (q : ∀ c H', Same H H' → SqT K H' c (cutV xs lo hi) → Q (.ref c) H') : rSlR K (.ref a) lo hi H Q := by
  unfold rSlR
  refine ⟨a, xs, rfl, ha, fun e => ?_, fun _ p hp => q p _ (same_new hp) (SqT.of upd_same)⟩
  refine q a H (Same.refl H) ?_
  have : cutV xs lo hi = xs := by
    unfold cutV
    rw [e.1, e.2]
    simp
  rw [this]
  exact ha
/-! ### rules for within a block: the written part named -/
section
variable {X : Cx} {K : PySem.W.Frag} (hK : X.K = K)
include hK
theorem ix_tupK : IxR X (rIxT K) := hK ▸ ix_tup
theorem ix_listK : IxR X (rIxL K) := hK ▸ ix_list
theorem ix_seqK : IxR X (rIx K) := hK ▸ ix_seq
theorem sl_tupRK : SlR X (rSlR K) := hK ▸ sl_tupR
theorem op_catAK : OpR X (binaryOp .Add) (rCatA K) := hK ▸ op_catA
theorem op_in_seqK : OpR X (compareOp .In) (rIn K false) := hK ▸ op_in_seq
theorem call_len_seqK : CallR X (.builtin "len") (fun xs H Q => ∃ p ys, xs = [.ref p] ∧ (SqL K H p ys ∨ SqT K H p ys) ∧ Q (.int ys.length) H) := hK ▸ call_len_seq
theorem call_tuple_ofK : CallR X (.type "tuple") (fun xs H Q => ∃ p ys, xs = [.ref p] ∧ ((SqL K H p ys ∧ ∀ l, H l = none → Q (.ref l) (upd H l (.tup ys))) ∨ (SqT K H p ys ∧ Q (.ref p) H))) := hK ▸ call_tuple_of
theorem call_tupRK : CallR X (.type "tuple") (rTupOf K) := hK ▸ call_tupR
theorem call_isiK : CallR X (.builtin "isinstance") (rIsi K) := hK ▸ call_isi
theorem call_isiTK : CallR X (.builtin "isinstance") (rIsiT K) := hK ▸ call_isiT
theorem cr_allK (hc : X.calm = true := by rfl) : CallR X (.builtin "all") (rAll K) := hK ▸ cr_all hc
theorem pi_seqK {tg l : Expr} {tl : TE} (hl : PE X l tl) : PI X tg l (iSeq K tl) := hK ▸ pi_seq hl
theorem pi_tupK {tg l : Expr} {tl : TE} (hl : PE X l tl) : PI X tg l (iTup K tl) := hK ▸ pi_tup hl
theorem pi_listK {tg l : Expr} {tl : TE} (hl : PE X l tl) : PI X tg l (iList K tl) := hK ▸ pi_list hl
theorem pg_tupK (hc : X.calm = true) {es : List Expr} {k : Nat} {pos : Pos} {t : TGs} {n : Nat} (h : PGs X es t) (hn : (assignEach es X.env).length = n := by rfl) (hst : (assignEach es X.env).findIdx? (·.1) = none := by rfl) : PG X (.Tuple es k pos) (gTup K n t) := hK ▸ pg_tup hc h hn hst
end
theorem ext_tup (l : Addr) (items : Array Value) (n : Nat) (b : Addr) (items2 : Array Value) (n2 : Nat) (dct : Option Addr) (sl : Array (Option Value)) (hs0 : ¬(!items.isEmpty && Builtin.List.listTooLong (items.size + items2.size)) = true) (hs1 : items.size ≤ sizeLine) (hs2 : items.size + items2.size ≤ sizeLine + 1) :
    Meets (Builtin.«list.extend» ⟨[.ref l, .ref b], []⟩) (fun _ R s => s.heap.get? l = some { cls := .type "list", dict := none, data := .seq items n, slots := #[] } ∧ s.heap.get? b = some ⟨.type "tuple", dct, .seq items2 n2, sl⟩ ∧ R (.ok (.ret Value.none)) { s with heap := s.heap.update l (Obj.mapSeq fun x => x ++ items2), toks := s.toks }) :=
  .of_wp fun prog w A R s h => by
    obtain ⟨hp, g, d, tk, os⟩ := s
    obtain ⟨hl, hb, h⟩ := h
    have f2 := AutoSeq1.sub_tuple_tuple
    have f4 := AutoSeq1.sub_tuple_list
    have f3 := AutoSeq1.sub_list_list
    have f5 := AutoSeq1.sub_list_tuple
    have hz' : (items ++ items2).size ≤ sizeLine + 1 := by rw [Array.size_append]; exact hs2
    wp_walk using (wpAny_updateSeq hl rfl (hz := hs1) (_hz' := hz')), AutoSeq1.wpAny_loadPart' hl, AutoSeq1.wpAny_loadPart' hb
    exact ⟨_, rfl, h⟩
theorem mt_extT {X : Cx} : MtM X "list.extend" (rExtT X.K) := by
  intro pins s σ H x vs v us Q I rx rv h
  obtain ⟨l, b, xs, zs, rfl, rfl, hH, hB, hz, q⟩ := h
  cases rx
  obtain ⟨u, rfl, ru⟩ := rv.one
  cases ru
  obtain ⟨z, its, n, r, hl, e⟩ := I.lstM hH
  obtain ⟨its2, r2, ⟨⟨oc, od, dt, os⟩, e2, c2, n2, d2⟩, z2⟩ := I.tuple hB
  dsimp only at c2 d2
  subst c2 d2
  have l1 := r.length
  have l2 := r2.length
  have hsz : its.toArray.size + its2.toArray.size ≤ sizeLine := by
    rw [List.size_toArray, List.size_toArray]
    omega
  have hlong : ¬ (!its.toArray.isEmpty && Builtin.List.listTooLong (its.toArray.size + its2.toArray.size)) = true := by
    rw [notLongL hsz, Bool.and_false]
    exact Bool.false_ne_true
  refine call_meets PySem.F.slot_list_extend ⟨_, e, rfl⟩ PySem.F.entry_list_extend (PySem.F.args_list_extend_2 _ _) (ext_tup l its.toArray n b its2.toArray n2 od os hlong (by rw [List.size_toArray]; omega) (by omega)) ⟨e, e2, ?_⟩
  refine ⟨.non, _, I.lset (its' := its ++ its2) hH e (by simp) (r.append r2) ?_, rfl, q⟩
  rw [List.length_append]
  omega
theorem walk_at_list {K : PySem.W.Frag} {a : Addr} {xs : List V} : Walk (Itl K a) xs.length (fun H => SqL K H a xs) (YIs fun i x => xs[i]? = some x) := walk_list
theorem walk_at_tup {K : PySem.W.Frag} {a : Addr} {xs : List V} : Walk (Itt K a) xs.length (fun H => SqT K H a xs) (YIs fun i x => xs[i]? = some x) := walk_tup
theorem walk_at_range {lo : Int} {n : Nat} : Walk (Itr lo n) n (fun _ => True) (YIs fun i x => x = .int (lo + i)) := walk_range
end Sq
set_option maxHeartbeats 4000000
namespace My
open PySem L2
def topS (i : Nat) : Stmt := PySem.Challenge.pw_pressedwords_k04_whole_canon_by_renaming.main.body.getD i (.Pass ⟨0, 0, 0, 0⟩)
abbrev s_BadBook_init : Stmt := inClass (topS 2) 0
abbrev s_is_whole : Stmt := topS 4
abbrev s_is_sequence : Stmt := topS 5
abbrev s_is_couple : Stmt := topS 6
abbrev s_is_state : Stmt := topS 7
abbrev s_is_deed : Stmt := topS 8
abbrev s_is_goals : Stmt := topS 9
abbrev s_is_ends : Stmt := topS 10
abbrev s_is_side : Stmt := topS 11
abbrev s_is_row : Stmt := topS 12
abbrev s_sign_stands : Stmt := topS 13
abbrev s_Book_init : Stmt := inClass (topS 14) 0
abbrev s_Book_key : Stmt := inClass (topS 14) 1
abbrev s_Book_eq : Stmt := inClass (topS 14) 2
abbrev s_Canon_init : Stmt := inClass (topS 16) 0
abbrev s_Canon_eq : Stmt := inClass (topS 16) 1
abbrev s_canon : Stmt := topS 17
abbrev s_canon_of : Stmt := topS 18
abbrev s_unlike_rows : Stmt := topS 19
abbrev s_first_places : Stmt := topS 20
abbrev s_plain_ends : Stmt := topS 21
abbrev s__law_source : Stmt := topS 23
abbrev s__law_take : Stmt := topS 24
abbrev s__law_moves : Stmt := topS 25
abbrev s__law_deed : Stmt := topS 26
abbrev s__law_side : Stmt := topS 27
abbrev s__law_plain_rows : Stmt := topS 28
abbrev s__law_strip : Stmt := topS 29
abbrev s__law_tidy : Stmt := topS 30
abbrev s__law_canon : Stmt := topS 31
abbrev s__law_lots : Stmt := topS 32
abbrev s__law_end_states : Stmt := topS 33
abbrev s__law_tidy_rows : Stmt := topS 34
abbrev s__law_shuffled : Stmt := topS 35
abbrev s__law_renamed : Stmt := topS 36
abbrev s__law_led : Stmt := topS 37
abbrev s__law_is_canon : Stmt := topS 38
abbrev s_law : Stmt := topS 39
/-- a def of the module, where it stands -/
structure Dn (K : PySem.W.Frag) (mg : Str → Option Value) (x : Str) (st : Stmt) (ps : List Str) where
  f : Addr
  fd : FuncData
  F : FunD K x x (defArgs st) (defBody st) (defScope st) [] [] f fd
  m : mg x = some (.ref f)
  b : Binds K fd ps []
/-- the built-in names that the module leaves alone -/
structure TB (mg : Str → Option Value) : Prop where
  len : mg "len" = none
  int : mg "int" = none
  bool : mg "bool" = none
  list_ : mg "list" = none
  tuple_ : mg "tuple" = none
  isinstance : mg "isinstance" = none
  all_ : mg "all" = none
  range : mg "range" = none
  min_ : mg "min" = none
  enumerate : mg "enumerate" = none
  zip : mg "zip" = none
  any_ : mg "any" = none
  sum_ : mg "sum" = none
  max_ : mg "max" = none
  sorted : mg "sorted" = none
  dict : mg "dict" = none
  repr : mg "repr" = none
  str_ : mg "str" = none
  set_ : mg "set" = none
section
variable {P : Program} {w : World} {K : PySem.W.Frag} {mg : Str → Option Value} {base : Heap}
theorem ok0 {x qual : Str} {params : Arguments} {body : List Stmt} {scope : Scope} {dvs : List V} {kws : List (Str × V)} {f : Addr} {fd : FuncData} {N ps : List Str} {k : Nat} {sp : Sp} (F : FunD K x qual params body scope dvs kws f fd) (S : FnScope N ps scope) (len : ∀ vs H Q E, sp vs H Q E → vs.length = ps.length)
    (hbody : ∀ (cdv : Value) (A : Around) (outer : List Env) (s : Shared) (H : Hp) (vs : List V) (Q : VK) (E : XK), Room k (A.deeper (PyProof.Rows.envOfC qual scope s.heap.objs.size f cdv)) → sp vs H Q E →
      ∃ t, PSs (cxOf CX0 P w K mg base N qual scope f cdv A outer s H E).nox body t ∧ t { nx := fun _ H' => Q .non H', rt := Q } (start N vs) H) : FnOk P w K mg base CX0 (k + 1) f fd ps sp := by
  refine F.ok S len fun cdv A outer s H vs Q E hr hsp => ?_
  obtain ⟨t, h, q⟩ := hbody cdv A outer s H vs Q E hr hsp
  exact ⟨t, h.nox, q⟩
end
end My
set_option maxHeartbeats 4000000
/-! a, b, .. = a list or a tuple of that length -/
namespace Sq
open PySem PySem.Spec PyProof.Rows L2 Lcn
def gSeq (K : PySem.W.Frag) (n : Nat) (t : TGs) : TG := fun v σ H Q => ∃ a xs, v = .ref a ∧ Sqn K H a xs ∧ xs.length = n ∧ t xs σ H Q
theorem pg_seq {X : Cx} {pos : Pos} {es : List Expr} {k : Nat} {t : TGs} {n : Nat} (hc : X.calm = true) (h : PGs X es t)
    (hn : (assignEach es X.env).length = n := by rfl) (hst : (assignEach es X.env).findIdx? (·.1) = none := by rfl) : PG X (.Tuple es k pos) (gSeq X.K n t) := by
  refine ⟨fun pins s σ H v u Q I r hw => ?_⟩
  obtain ⟨a, xs, e1, hq, hl, hw⟩ := hw
  rcases hq with hq | hq
  · exact (pg_lst (pos := pos) (k := k) hc h hn hst).run pins s σ H v u Q I r ⟨a, xs, e1, hq, hl, hw⟩
  · exact (pg_tup (pos := pos) (k := k) hc h hn hst).run pins s σ H v u Q I r ⟨a, xs, e1, hq, hl, hw⟩
theorem pg_seqK {X : Cx} {K : PySem.W.Frag} {pos : Pos} (hK : X.K = K) {es : List Expr} {k : Nat} {t : TGs} {n : Nat} (hc : X.calm = true) (h : PGs X es t)
    (hn : (assignEach es X.env).length = n := by rfl) (hst : (assignEach es X.env).findIdx? (·.1) = none := by rfl) : PG X (.Tuple es k pos) (gSeq K n t) := hK ▸ pg_seq hc h hn hst
theorem pe_fldK {X : Cx} {K : PySem.W.Frag} (hK : X.K = K) {e : Expr} {f : Str} {pos : Pos} {ta : TE} (he : PE X e ta) (hab : attributeBase e f X.env (eval e X.env) = eval e X.env) : PE X (.Attribute e f pos) (tFld K ta f) := hK ▸ pe_fld he hab
theorem mt_indexK {X : Cx} {K : PySem.W.Frag} (hK : X.K = K) : MtR X "list.index" (rIndex K) := hK ▸ mt_index
theorem pe_bmK {X : Cx} {K : PySem.W.Frag} (hK : X.K = K) {o e : Expr} {es : List Expr} {to : TE} {t : TA} {name : Str} {apos cpos : Pos} {T id : String} {r : V → List V → Hp → VK → Prop} (pa : PlainAttrs T) (slot : Slot T name id) (hty : typeOf (.builtin id) = pure (.type "method_descriptor")) (hm : MtR X id r) (ho : PE X o to) (ha : PA X (e :: es) t)
    (hbase : attributeBase o name X.env (eval o X.env) = eval o X.env := by rfl)
    (hfew : ((backTo cpos (starEach (e :: es) X.env)).all (fun x => !x.1) && (backToKw cpos (keywordEach [] X.env)).all (fun x => x.1.isSome)
      && decide ((e :: es).length + ([] : List Keyword).length + (if ([] : List Keyword).isEmpty then 0 else 1) < 30)) = true := by rfl)
    (hline : (apos.endLine == cpos.line) = true := by rfl) (hs : starEach (e :: es) X.env = (false, eval e X.env) :: starEach es X.env := by rfl) (hplain : (backTo cpos (starEach es X.env)).any (·.1) = false := by rfl) :
    PE X (.Call (.Attribute o name apos) (e :: es) [] cpos) (tBM K T r to t) := hK ▸ pe_bm pa slot hty hm ho ha hbase hfew hline hs hplain
end Sq
set_option maxHeartbeats 4000000
namespace My
open PySem PySem.Spec PyProof.Rows L2 Lcn Sq
/-! ### books: what is whole, what is a sequence .. -/
def IntsS (K : PySem.W.Frag) (H : Hp) (v : V) (ns : List Int) : Prop := ∃ a, v = .ref a ∧ Sqn K H a (ns.map V.int)
def RowS (K : PySem.W.Frag) (H : Hp) (v : V) (r : List Int × List Int) : Prop := ∃ a x y, v = .ref a ∧ Sqn K H a [x, y] ∧ IntsS K H x r.1 ∧ IntsS K H y r.2
def EndS (K : PySem.W.Frag) (H : Hp) (v : V) (e : Int × List Int) : Prop := ∃ a y, v = .ref a ∧ Sqn K H a [.int e.1, y] ∧ IntsS K H y e.2
/-- a list or tuple of zs, each as R says -/
def SeqS {α : Type} (K : PySem.W.Frag) (R : Hp → V → α → Prop) (H : Hp) (v : V) (zs : List α) : Prop := ∃ a xs, v = .ref a ∧ Sqn K H a xs ∧ xs.length = zs.length ∧ ∀ (i : Nat) (x : V) (z : α), xs[i]? = some x → zs[i]? = some z → R H x z
section
variable {K : PySem.W.Frag} {H H' : Hp}
theorem IntsS.same (e : Same H H') {v : V} {ns : List Int} (h : IntsS K H v ns) : IntsS K H' v ns := by
  obtain ⟨a, r, s⟩ := h
  exact ⟨a, r, s.same e⟩
theorem RowS.same (e : Same H H') {v : V} {r : List Int × List Int} (h : RowS K H v r) : RowS K H' v r := by
  obtain ⟨a, x, y, r, s, h1, h2⟩ := h
  exact ⟨a, x, y, r, s.same e, h1.same e, h2.same e⟩
theorem EndS.same (e : Same H H') {v : V} {r : Int × List Int} (h : EndS K H v r) : EndS K H' v r := by
  obtain ⟨a, y, r, s, h1⟩ := h
  exact ⟨a, y, r, s.same e, h1.same e⟩
theorem SeqS.same {α : Type} {R : Hp → V → α → Prop} (m : ∀ v z, R H v z → R H' v z) (e : Same H H') {v : V} {zs : List α} (h : SeqS K R H v zs) : SeqS K R H' v zs := by
  obtain ⟨a, xs, r, s, l, f⟩ := h
  exact ⟨a, xs, r, s.same e, l, fun i x z h1 h2 => m x z (f i x z h1 h2)⟩
theorem ty_seq {a : Addr} {xs : List V} (h : Sqn K H a xs) : (∃ t, (t = "list" ∨ t = "tuple") ∧ TyX K H (.ref a) (.type t)) := by
  rcases h with h | h
  · rcases h with (h | ⟨o, h⟩) | ⟨o, its, n, h1, h2, _⟩
    · exact ⟨_, .inl rfl, .base (.lst h)⟩
    · exact ⟨_, .inl rfl, .base (.frz h)⟩
    · exact ⟨_, .inl rfl, .kList h1 h2⟩
  · rcases h with (h | ⟨o, h⟩) | ⟨o, its, n, h1, h2, _⟩
    · exact ⟨_, .inr rfl, .base (.tup h)⟩
    · exact ⟨_, .inr rfl, .fTuple h⟩
    · exact ⟨_, .inr rfl, .kTuple h1 h2⟩
theorem kit_seq {t : String} (h : t = "list" ∨ t = "tuple") : PySem.W.kitAny K (.type t) [.type "list", .type "tuple"] = some true := by
  rcases h with rfl | rfl
  · exact kitAny_cons (b := true) (kit_ty (by decide +kernel)) (fun z => nomatch z) (fun _ => rfl)
  · exact kitAny_cons (b := false) (kit_ty (by decide +kernel)) (fun _ => kitAny_cons (b := true) (kit_ty (by decide +kernel)) (fun z => nomatch z) (fun _ => rfl)) (fun z => nomatch z)
theorem stb_true : Stb fun _ _ v => v = .bl true := fun _ _ _ _ _ h => h
/-- all([..]) where each is True -/
theorem all_got {D : Addr} {n : Nat} (h : Got D n (fun _ _ v => v = .bl true) H) : SqL K H D ((List.replicate n true).map V.bl) ∧ (List.replicate n true).all id = true := by
  obtain ⟨ys, h1, h2, h3⟩ := h
  have e : ys = (List.replicate n true).map V.bl := by
    refine List.ext_getElem? fun i => ?_
    rw [List.getElem?_map]
    rcases Nat.lt_or_ge i n with lt | ge
    · obtain ⟨y, hy⟩ : ∃ y, ys[i]? = some y := ⟨ys[i], by simp [h2, lt]⟩
      rw [hy, h3 i y hy]
      simp [List.getElem?_replicate, lt]
    · rw [List.getElem?_eq_none (by omega), List.getElem?_eq_none (by simpa using ge)]
      rfl
  rw [← e]
  exact ⟨SqL.of h1, by simp⟩
end
/-- a promise: True, where ok holds -/
theorem big20 : (2 : Nat) ^ 20 < sizeLine := by decide
theorem ix_sqn {K : PySem.W.Frag} {H : Hp} {a : Addr} {xs : List V} {i : Int} {v : V} {Q : VK} (h : Sqn K H a xs) (hv : atI xs i = some v) (q : Q v H) : rIx K (.ref a) (.int i) H Q :=
  h.elim (fun h => .inl ⟨a, xs, i, v, rfl, rfl, h, hv, q⟩) (fun h => .inr (.inl ⟨a, xs, i, v, rfl, rfl, h, hv, q⟩))
theorem map_at {ns : List Int} {i : Nat} {x : V} (h : (ns.map V.int)[i]? = some x) : ∃ z, ns[i]? = some z ∧ x = .int z := by
  rw [List.getElem?_map] at h
  obtain ⟨z, h1, h2⟩ := Option.map_eq_some_iff.mp h
  exact ⟨z, h1, h2.symm⟩
theorem lenI {ns : List Int} (h : ns.length < 2 ^ 20) : (ns.map V.int).length < sizeLine := by
  rw [List.length_map]
  exact Nat.lt_trans h big20
/-- a promise: True, where ok holds -/
def spB (ok : Hp → List V → Prop) : Sp := fun vs H Q _ => ok H vs ∧ ∀ H', Same H H' → Q (.bl true) H'
def sp_is_whole : Sp := spB fun _ vs => ∃ i, vs = [.int i]
def sp_is_sequence (K : PySem.W.Frag) : Sp := spB fun H vs => ∃ a xs, vs = [.ref a] ∧ Sqn K H a xs
def sp_is_couple (K : PySem.W.Frag) : Sp := spB fun H vs => ∃ a x y, vs = [.ref a] ∧ Sqn K H a [x, y]
def InR (n : Int) (i : Int) : Prop := 0 ≤ i ∧ i < n
def sp_is_state : Sp := spB fun _ vs => ∃ i n, vs = [.int i, .int n] ∧ InR n i
def sp_is_deed (K : PySem.W.Frag) : Sp := spB fun H vs => ∃ v ns n, vs = [v, .int n] ∧ IntsS K H v ns ∧ (ns.length : Int) = n ∧ ns.length < 2 ^ 20 ∧ ∀ i ∈ ns, InR n i
def Asc (ns : List Int) : Prop := ∀ (j : Nat) (a b : Int), ns[j]? = some a → ns[j + 1]? = some b → a < b
def sp_is_goals (K : PySem.W.Frag) : Sp := spB fun H vs => ∃ v ns n, vs = [v, .int n] ∧ IntsS K H v ns ∧ ns.length < 2 ^ 20 ∧ (∀ i ∈ ns, InR n i) ∧ Asc ns
def sp_is_ends (K : PySem.W.Frag) : Sp := spB fun H vs => ∃ v e n, vs = [v, .int n] ∧ EndS K H v e ∧ e.2.length < 2 ^ 20 ∧ InR n e.1 ∧ (∀ i ∈ e.2, InR n i) ∧ Asc e.2
def sp_is_side (K : PySem.W.Frag) : Sp := spB fun H vs => ∃ v ns, vs = [v] ∧ IntsS K H v ns ∧ ns.length < 2 ^ 20
def sp_is_row (K : PySem.W.Frag) : Sp := spB fun H vs => ∃ v r, vs = [v] ∧ RowS K H v r ∧ r.1.length < 2 ^ 20 ∧ r.2.length < 2 ^ 20
def Stands (l u : Int) (s : Int) : Prop := s < l ∧ -1 - s < u
def sp_sign_stands : Sp := spB fun _ vs => ∃ s l u, vs = [.int s, .int l, .int u] ∧ Stands l u s
theorem sc_is_whole : FnScope ["thing"] ["thing"] (defScope s_is_whole) := ⟨rfl, rfl, rfl, by decide +kernel, rfl, by decide +kernel, by decide +kernel⟩
section
variable {P : Program} {w : World} {K : PySem.W.Frag} {mg : Str → Option Value} {base : Heap}
theorem ok_is_whole (D_is_whole : Dn K mg "is_whole" s_is_whole ["thing"]) (T : TB mg) : FnOk P w K mg base CX0 1 D_is_whole.f D_is_whole.fd ["thing"] sp_is_whole := by
  refine ok0 D_is_whole.F sc_is_whole (fun vs H Q E h => ?_) (fun cdv A outer s H vs Q E hr h => ?_)
  · obtain ⟨⟨i, rfl⟩, k⟩ := h
    rfl
  · obtain ⟨⟨i, rfl⟩, k⟩ := h
    refine ⟨_, (pss_one (ps_ret (pe_and (pe_callB call_isi (by rfl) T.isinstance (by decide +kernel) (pa_cons (pv 0) (pa_cons (pe_bltn (v := .ty "int") (by rfl) T.int (by decide +kernel) rfl) pa_nil))) (pe_one (pe_not (pe_callB call_isi (by rfl) T.isinstance (by decide +kernel) (pa_cons (pv 0) (pa_cons (pe_bltn (v := .ty "bool") (by rfl) T.bool (by decide +kernel) rfl) pa_nil)))))))), ?_⟩
    refine ⟨_, rfl, _, _, _, _, true, rfl, .ty _, .base (.int _), kit_ty (by decide +kernel), _, rfl, iteT ?_⟩
    exact ⟨_, rfl, _, _, _, _, false, rfl, .ty _, .base (.int _), kit_ty (by decide +kernel), _, rfl, k H (Same.refl H)⟩
end
theorem sc_is_sequence : FnScope ["thing"] ["thing"] (defScope s_is_sequence) := ⟨rfl, rfl, rfl, by decide +kernel, rfl, by decide +kernel, by decide +kernel⟩
section
variable {P : Program} {w : World} {K : PySem.W.Frag} {mg : Str → Option Value} {base : Heap}
theorem ok_is_sequence (D_is_sequence : Dn K mg "is_sequence" s_is_sequence ["thing"]) (T : TB mg) : FnOk P w K mg base CX0 1 D_is_sequence.f D_is_sequence.fd ["thing"] (sp_is_sequence K) := by
  refine ok0 D_is_sequence.F sc_is_sequence (fun vs H Q E h => ?_) (fun cdv A outer s H vs Q E hr h => ?_)
  · obtain ⟨⟨a, xs, rfl, hs⟩, k⟩ := h
    rfl
  · obtain ⟨⟨a, xs, rfl, hs⟩, k⟩ := h
    refine ⟨_, (pss_one (ps_ret (pe_callB call_isiT (by rfl) T.isinstance (by decide +kernel) (pa_cons (pv 0) (pa_cons (pe_tup (pa_cons (pe_bltn (v := .ty "list") (by rfl) T.list_ (by decide +kernel) rfl) (pa_cons (pe_bltn (v := .ty "tuple") (by rfl) T.tuple_ (by decide +kernel) rfl) pa_nil))) pa_nil))))), ?_⟩
    obtain ⟨t, ht, ty⟩ := ty_seq hs
    refine ⟨_, rfl, (by show 2 ≤ sizeLine; decide), fun p hp => ?_⟩
    obtain ⟨t, ht, ty⟩ := ty_seq (hs.same (same_new (o := .tup [.ty "list", .ty "tuple"]) hp))
    exact ⟨_, p, _, _, _, true, rfl, upd_same, .cons (.ty _) (.cons (.ty _) .nil), ty, kit_seq ht, k _ (same_new hp)⟩
end
theorem sc_is_couple : FnScope ["thing"] ["thing"] (defScope s_is_couple) := ⟨rfl, rfl, rfl, by decide +kernel, rfl, by decide +kernel, by decide +kernel⟩
section
variable {P : Program} {w : World} {K : PySem.W.Frag} {mg : Str → Option Value} {base : Heap}
theorem ok_is_couple (D_is_couple : Dn K mg "is_couple" s_is_couple ["thing"]) (D_is_sequence : Dn K mg "is_sequence" s_is_sequence ["thing"]) (G_is_sequence : FnOk P w K mg base CX0 1 D_is_sequence.f D_is_sequence.fd ["thing"] (sp_is_sequence K)) (T : TB mg) : FnOk P w K mg base CX0 2 D_is_couple.f D_is_couple.fd ["thing"] (sp_is_couple K) := by
  refine ok0 D_is_couple.F sc_is_couple (fun vs H Q E h => ?_) (fun cdv A outer s H vs Q E hr h => ?_)
  · obtain ⟨⟨a, x, y, rfl, hs⟩, k⟩ := h
    rfl
  · obtain ⟨⟨a, x, y, rfl, hs⟩, k⟩ := h
    refine ⟨_, (pss_one (ps_ret (pe_and (pe_call G_is_sequence (hr.mono (by decide)) (by rfl) D_is_sequence.m D_is_sequence.F.kp D_is_sequence.b .nil pass0 (pa_cons (pv 0) pa_nil)) (pe_one (pe_cmpR op_eq (pe_callB call_len_seq (by rfl) T.len PySem.boot_len (pa_cons (pv 0) pa_nil)) pe_int (nomark _)))))), ?_⟩
    refine ⟨_, rfl, ⟨a, _, rfl, hs⟩, fun H1 s1 => ⟨_, rfl, iteT ?_⟩⟩
    exact ⟨_, rfl, a, _, rfl, hs.same s1, rfl, k _ s1⟩
end
theorem sc_is_state : FnScope ["thing", "states"] ["thing", "states"] (defScope s_is_state) := ⟨rfl, rfl, rfl, by decide +kernel, rfl, by decide +kernel, by decide +kernel⟩
section
variable {P : Program} {w : World} {K : PySem.W.Frag} {mg : Str → Option Value} {base : Heap}
theorem ok_is_state (D_is_state : Dn K mg "is_state" s_is_state ["thing", "states"]) (D_is_whole : Dn K mg "is_whole" s_is_whole ["thing"]) (G_is_whole : FnOk P w K mg base CX0 1 D_is_whole.f D_is_whole.fd ["thing"] (sp_is_whole)) (T : TB mg) : FnOk P w K mg base CX0 2 D_is_state.f D_is_state.fd ["thing", "states"] sp_is_state := by
  refine ok0 D_is_state.F sc_is_state (fun vs H Q E h => ?_) (fun cdv A outer s H vs Q E hr h => ?_)
  · obtain ⟨⟨i, n, rfl, h0, h1⟩, k⟩ := h
    rfl
  · obtain ⟨⟨i, n, rfl, h0, h1⟩, k⟩ := h
    refine ⟨_, (pss_one (ps_ret (pe_and (pe_call G_is_whole (hr.mono (by decide)) (by rfl) D_is_whole.m D_is_whole.F.kp D_is_whole.b .nil pass0 (pa_cons (pv 0) pa_nil)) (pe_one (pe_chain op_le op_lt pe_int (pv 0) (pv 1)))))), ?_⟩
    refine ⟨_, rfl, ⟨i, rfl⟩, fun H1 s1 => ⟨_, rfl, iteT ?_⟩⟩
    refine ⟨_, rfl, _, _, rfl, rfl, _, rfl, ?_⟩
    rw [if_pos (decide_eq_true h0)]
    refine ⟨_, rfl, _, _, rfl, rfl, ?_⟩
    show Q (.bl (decide (i < n))) H1
    rw [decide_eq_true h1]
    exact k _ s1
end
theorem sc_is_deed : FnScope ["thing", "states", "state"] ["thing", "states"] (defScope s_is_deed) := ⟨rfl, rfl, rfl, by decide +kernel, rfl, by decide +kernel, by decide +kernel⟩
section
variable {P : Program} {w : World} {K : PySem.W.Frag} {mg : Str → Option Value} {base : Heap}
theorem ok_is_deed (D_is_deed : Dn K mg "is_deed" s_is_deed ["thing", "states"]) (D_is_state : Dn K mg "is_state" s_is_state ["thing", "states"]) (G_is_state : FnOk P w K mg base CX0 2 D_is_state.f D_is_state.fd ["thing", "states"] (sp_is_state)) (D_is_sequence : Dn K mg "is_sequence" s_is_sequence ["thing"]) (G_is_sequence : FnOk P w K mg base CX0 1 D_is_sequence.f D_is_sequence.fd ["thing"] (sp_is_sequence K)) (T : TB mg) : FnOk P w K mg base CX0 3 D_is_deed.f D_is_deed.fd ["thing", "states"] (sp_is_deed K) := by
  refine ok0 D_is_deed.F sc_is_deed (fun vs H Q E h => ?_) (fun cdv A outer s H vs Q E hr h => ?_)
  · obtain ⟨⟨v, ns, n, rfl, hv, hl, hz, hi⟩, k⟩ := h
    rfl
  · obtain ⟨⟨v, ns, n, rfl, hv, hl, hz, hi⟩, k⟩ := h
    refine ⟨_, (pss_one (ps_ret (pe_and (pe_call G_is_sequence (hr.mono (by decide)) (by rfl) D_is_sequence.m D_is_sequence.F.kp D_is_sequence.b .nil pass0 (pa_cons (pv 0) pa_nil)) (pe_and (pe_cmpR op_eq (pe_callB call_len_seq (by rfl) T.len PySem.boot_len (pa_cons (pv 0) pa_nil)) (pv 1) (nomark _)) (pe_one (pe_callB (cr_all rfl) (by rfl) T.all_ (by decide +kernel) (pa_cons (pe_lc (own := [(("state" : Str), 2)]) rfl sc_is_deed.nd (pi_seq (pv 0)) (blkOk_by (own := [(("state" : Str), 2)]) (N := ["thing", "states", "state"]) (sc := defScope s_is_deed) (by decide +kernel)) (fun _ _ _ _ _ => (pg_name (i := 2) sc_is_deed.nd rfl (Or.inl rfl))) (fun _ _ _ _ _ => pts_nil) (fun _ _ _ _ _ => (pe_call G_is_state (hr.mono (by decide)) (by rfl) D_is_state.m D_is_state.F.kp D_is_state.b .nil pass0 (pa_cons (pv 2) (pa_cons (pv 1) pa_nil))))) pa_nil))))))), ?_⟩
    obtain ⟨a, rfl, hs⟩ := hv
    refine ⟨_, rfl, ⟨a, _, rfl, hs⟩, fun H1 s1 => ⟨_, rfl, iteT ?_⟩⟩
    have hs1 := hs.same s1
    refine ⟨_, rfl, a, _, rfl, hs1, _, rfl, rfl, ?_⟩
    refine ⟨true, ?_, iteT ?_⟩
    · rw [List.length_map, hl]
      exact congrArg V.bl (decide_eq_true rfl)
    refine seq_rd s1 (fun _ q => ⟨_, rfl, q⟩) hs fun J Gw w gw D hD => ?_
    refine lc_fr w (lenI hz) stb_true gd0 hD trivial (fun H' e => gw H' fun o h => F0.same e _ o (s1 _ o h)) (fun i x H' Q' hi' hx e q => ?_) (fun H' e got => ?_)
    · obtain ⟨z, hz', rfl⟩ := map_at hx
      exact ⟨rfl, _, rfl, _, rfl, ⟨z, n, rfl, hi z (List.mem_of_getElem? hz')⟩, fun H2 s2 => q _ H2 (F0.of s2) rfl⟩
    · obtain ⟨g1, g2⟩ := all_got (K := K) got
      refine ⟨D, _, rfl, g1, ?_⟩
      rw [g2]
      exact k _ (s1.trans (F0.same e))
end
theorem sc_is_goals : FnScope ["thing", "states", "at", "state"] ["thing", "states"] (defScope s_is_goals) := ⟨rfl, rfl, rfl, by decide +kernel, rfl, by decide +kernel, by decide +kernel⟩
section
variable {P : Program} {w : World} {K : PySem.W.Frag} {mg : Str → Option Value} {base : Heap}
theorem ok_is_goals (D_is_goals : Dn K mg "is_goals" s_is_goals ["thing", "states"]) (D_is_state : Dn K mg "is_state" s_is_state ["thing", "states"]) (G_is_state : FnOk P w K mg base CX0 2 D_is_state.f D_is_state.fd ["thing", "states"] (sp_is_state)) (D_is_sequence : Dn K mg "is_sequence" s_is_sequence ["thing"]) (G_is_sequence : FnOk P w K mg base CX0 1 D_is_sequence.f D_is_sequence.fd ["thing"] (sp_is_sequence K)) (T : TB mg) : FnOk P w K mg base CX0 3 D_is_goals.f D_is_goals.fd ["thing", "states"] (sp_is_goals K) := by
  refine ok0 D_is_goals.F sc_is_goals (fun vs H Q E h => ?_) (fun cdv A outer s H vs Q E hr h => ?_)
  · obtain ⟨⟨v, ns, n, rfl, hv, hz, hi, asc⟩, k⟩ := h
    rfl
  · obtain ⟨⟨v, ns, n, rfl, hv, hz, hi, asc⟩, k⟩ := h
    refine ⟨_, (pss_cons (ps_if (PW.pt (pw_or (pt_not (pt_val (pe_call G_is_sequence (hr.mono (by decide)) (by rfl) D_is_sequence.m D_is_sequence.F.kp D_is_sequence.b .nil pass0 (pa_cons (pv 0) pa_nil)))) (pw_or1 (pt_not (pt_val (pe_callB (cr_all rfl) (by rfl) T.all_ (by decide +kernel) (pa_cons (pe_lc (own := [(("state" : Str), 3)]) rfl sc_is_goals.nd (pi_seq (pv 0)) (blkOk_by (own := [(("state" : Str), 3)]) (N := ["thing", "states", "at", "state"]) (sc := defScope s_is_goals) (by decide +kernel)) (fun _ _ _ _ _ => (pg_name (i := 3) sc_is_goals.nd rfl (Or.inl rfl))) (fun _ _ _ _ _ => pts_nil) (fun _ _ _ _ _ => (pe_call G_is_state (hr.mono (by decide)) (by rfl) D_is_state.m D_is_state.F.kp D_is_state.b .nil pass0 (pa_cons (pv 3) (pa_cons (pv 1) pa_nil))))) pa_nil))))))) (pss_one (ps_ret pe_bl)) pss_nil)
  (pss_one (ps_ret (pe_callB (cr_all rfl) (by rfl) T.all_ (by decide +kernel) (pa_cons (pe_lc (own := [(("at" : Str), 2)]) rfl sc_is_goals.nd (pi_range2 (by rfl) T.range (pa_cons pe_int (pa_cons (pe_callB call_len_seq (by rfl) T.len PySem.boot_len (pa_cons (pv 0) pa_nil)) pa_nil))) (blkOk_by (own := [(("at" : Str), 2)]) (N := ["thing", "states", "at", "state"]) (sc := defScope s_is_goals) (by decide +kernel)) (fun _ _ _ _ _ => (pg_name (i := 2) sc_is_goals.nd rfl (Or.inl rfl))) (fun _ _ _ _ _ => pts_nil) (fun _ _ _ _ _ => (pe_cmpR op_lt (pe_ix (ix_seqK (K := K) rfl) (pv 0) (pe_op op_sub (pv 2) pe_int) (fun _ _ => rfl)) (pe_ix (ix_seqK (K := K) rfl) (pv 0) (pv 2) (fun _ _ => rfl)) (nomark _)))) pa_nil))))), ?_⟩
    obtain ⟨a, rfl, hs⟩ := hv
    refine ⟨_, rfl, ⟨a, _, rfl, hs⟩, fun H1 s1 => ⟨_, rfl, iteF ?_⟩⟩
    have hs1 := hs.same s1
    refine seq_rd s1 (fun _ q => ⟨_, rfl, q⟩) hs fun J Gw w gw D hD => ?_
    refine lc_fr w (lenI hz) stb_true gd0 hD trivial (fun H' e => gw H' fun o h => F0.same e _ o (s1 _ o h)) (fun i x H' Q' hi' hx e q => ?_) (fun H' e got => ?_)
    · obtain ⟨z, hz', rfl⟩ := map_at hx
      exact ⟨rfl, _, rfl, _, rfl, ⟨z, n, rfl, hi z (List.mem_of_getElem? hz')⟩, fun H2 s2 => q _ H2 (F0.of s2) rfl⟩
    · obtain ⟨g1, g2⟩ := all_got (K := K) got
      refine ⟨D, _, rfl, g1, ?_⟩
      rw [g2]
      refine ⟨_, rfl, iteF ?_⟩
      have s2 := s1.trans (F0.same e)
      have hs2 := hs.same s2
      have zz : sizeLine < 2 ^ 62 := by decide
      refine ⟨_, rfl, a, _, rfl, hs2, 1, _, rfl, ⟨by decide, by decide, by omega, ?_⟩, fun D2 hD2 => ?_⟩
      · have := lenI hz
        omega
      refine lc_fr walk_at_range ?_ stb_true gd0 hD2 trivial (fun H' e => trivial) (fun i x H'' Q' hi' hx e2 q => ?_) (fun H'' e2 got2 => ?_)
      · have := lenI hz
        omega
      · subst hx
        have hs3 := hs2.same (F0.same e2)
        have hi2 : i + 1 < ns.length := by
          rw [List.length_map] at hi'
          omega
        have e1 : (1 : Int) + (i : Int) - 1 = (i : Nat) := by omega
        have e2 : (1 : Int) + (i : Int) = ((i + 1 : Nat) : Int) := by omega
        have a1 : (ns.map V.int)[i]? = some (.int ns[i]) := by simp [List.getElem?_map, Nat.lt_of_succ_lt hi2]
        have a2 : (ns.map V.int)[i + 1]? = some (.int ns[i + 1]) := by simp [List.getElem?_map, hi2]
        refine ⟨rfl, _, rfl, _, rfl, _, _, rfl, rfl, ix_sqn hs3 (by rw [e1]; exact atI_nat a1) ⟨_, rfl, _, rfl, ix_sqn hs3 (by rw [e2]; exact atI_nat a2) ⟨_, _, rfl, rfl, ?_⟩⟩⟩
        have lt := asc i _ _ (List.getElem?_eq_getElem (Nat.lt_of_succ_lt hi2)) (List.getElem?_eq_getElem hi2)
        exact q _ _ (Fr.refl _) (congrArg V.bl (decide_eq_true lt))
      · obtain ⟨g3, g4⟩ := all_got (K := K) got2
        refine ⟨D2, _, rfl, g3, ?_⟩
        rw [g4]
        exact k _ (s2.trans (F0.same e2))
end
theorem sc_is_ends : FnScope ["thing", "states"] ["thing", "states"] (defScope s_is_ends) := ⟨rfl, rfl, rfl, by decide +kernel, rfl, by decide +kernel, by decide +kernel⟩
section
variable {P : Program} {w : World} {K : PySem.W.Frag} {mg : Str → Option Value} {base : Heap}
theorem ok_is_ends (D_is_ends : Dn K mg "is_ends" s_is_ends ["thing", "states"]) (D_is_goals : Dn K mg "is_goals" s_is_goals ["thing", "states"]) (G_is_goals : FnOk P w K mg base CX0 3 D_is_goals.f D_is_goals.fd ["thing", "states"] (sp_is_goals K)) (D_is_state : Dn K mg "is_state" s_is_state ["thing", "states"]) (G_is_state : FnOk P w K mg base CX0 2 D_is_state.f D_is_state.fd ["thing", "states"] (sp_is_state)) (D_is_couple : Dn K mg "is_couple" s_is_couple ["thing"]) (G_is_couple : FnOk P w K mg base CX0 2 D_is_couple.f D_is_couple.fd ["thing"] (sp_is_couple K)) (T : TB mg) : FnOk P w K mg base CX0 4 D_is_ends.f D_is_ends.fd ["thing", "states"] (sp_is_ends K) := by
  refine ok0 D_is_ends.F sc_is_ends (fun vs H Q E h => ?_) (fun cdv A outer s H vs Q E hr h => ?_)
  · obtain ⟨⟨v, en, n, rfl, hv, hz, h0, hi, asc⟩, k⟩ := h
    rfl
  · obtain ⟨⟨v, en, n, rfl, hv, hz, h0, hi, asc⟩, k⟩ := h
    refine ⟨_, (pss_one (ps_ret (pe_and (pe_call G_is_couple (hr.mono (by decide)) (by rfl) D_is_couple.m D_is_couple.F.kp D_is_couple.b .nil pass0 (pa_cons (pv 0) pa_nil)) (pe_and (pe_call G_is_state (hr.mono (by decide)) (by rfl) D_is_state.m D_is_state.F.kp D_is_state.b .nil pass0 (pa_cons (pe_ix ix_seq (pv 0) pe_int (fun _ _ => rfl)) (pa_cons (pv 1) pa_nil))) (pe_one (pe_call G_is_goals (hr.mono (by decide)) (by rfl) D_is_goals.m D_is_goals.F.kp D_is_goals.b .nil pass0 (pa_cons (pe_ix ix_seq (pv 0) pe_int (fun _ _ => rfl)) (pa_cons (pv 1) pa_nil)))))))), ?_⟩
    obtain ⟨a, y, rfl, hs, hy⟩ := hv
    refine ⟨_, rfl, ⟨a, _, _, rfl, hs⟩, fun H1 s1 => ⟨_, rfl, iteT ?_⟩⟩
    refine ⟨_, rfl, ix_sqn (hs.same s1) rfl ⟨_, rfl, ⟨_, _, rfl, h0⟩, fun H2 s2 => ⟨_, rfl, iteT ?_⟩⟩⟩
    have s2 := s1.trans s2
    exact ⟨_, rfl, ix_sqn (hs.same s2) rfl ⟨_, rfl, ⟨_, _, _, rfl, hy.same s2, hz, hi, asc⟩, fun H3 s3 => k _ (s2.trans s3)⟩⟩
end
theorem sc_is_side : FnScope ["thing", "sign"] ["thing"] (defScope s_is_side) := ⟨rfl, rfl, rfl, by decide +kernel, rfl, by decide +kernel, by decide +kernel⟩
section
variable {P : Program} {w : World} {K : PySem.W.Frag} {mg : Str → Option Value} {base : Heap}
theorem ok_is_side (D_is_side : Dn K mg "is_side" s_is_side ["thing"]) (D_is_whole : Dn K mg "is_whole" s_is_whole ["thing"]) (G_is_whole : FnOk P w K mg base CX0 1 D_is_whole.f D_is_whole.fd ["thing"] (sp_is_whole)) (D_is_sequence : Dn K mg "is_sequence" s_is_sequence ["thing"]) (G_is_sequence : FnOk P w K mg base CX0 1 D_is_sequence.f D_is_sequence.fd ["thing"] (sp_is_sequence K)) (T : TB mg) : FnOk P w K mg base CX0 2 D_is_side.f D_is_side.fd ["thing"] (sp_is_side K) := by
  refine ok0 D_is_side.F sc_is_side (fun vs H Q E h => ?_) (fun cdv A outer s H vs Q E hr h => ?_)
  · obtain ⟨⟨v, ns, rfl, hv, hz⟩, k⟩ := h
    rfl
  · obtain ⟨⟨v, ns, rfl, hv, hz⟩, k⟩ := h
    refine ⟨_, (pss_one (ps_ret (pe_and (pe_call G_is_sequence (hr.mono (by decide)) (by rfl) D_is_sequence.m D_is_sequence.F.kp D_is_sequence.b .nil pass0 (pa_cons (pv 0) pa_nil)) (pe_one (pe_callB (cr_all rfl) (by rfl) T.all_ (by decide +kernel) (pa_cons (pe_lc (own := [(("sign" : Str), 1)]) rfl sc_is_side.nd (pi_seq (pv 0)) (blkOk_by (own := [(("sign" : Str), 1)]) (N := ["thing", "sign"]) (sc := defScope s_is_side) (by decide +kernel)) (fun _ _ _ _ _ => (pg_name (i := 1) sc_is_side.nd rfl (Or.inl rfl))) (fun _ _ _ _ _ => pts_nil) (fun _ _ _ _ _ => (pe_call G_is_whole (hr.mono (by decide)) (by rfl) D_is_whole.m D_is_whole.F.kp D_is_whole.b .nil pass0 (pa_cons (pv 1) pa_nil)))) pa_nil)))))), ?_⟩
    obtain ⟨a, rfl, hs⟩ := hv
    refine ⟨_, rfl, ⟨a, _, rfl, hs⟩, fun H1 s1 => ⟨_, rfl, iteT ?_⟩⟩
    have hs1 := hs.same s1
    refine seq_rd s1 (fun _ q => ⟨_, rfl, q⟩) hs fun J Gw w gw D hD => ?_
    refine lc_fr w (lenI hz) stb_true gd0 hD trivial (fun H' e => gw H' fun o h => F0.same e _ o (s1 _ o h)) (fun i x H' Q' hi' hx e q => ?_) (fun H' e got => ?_)
    · obtain ⟨z, hz', rfl⟩ := map_at hx
      exact ⟨rfl, _, rfl, ⟨z, rfl⟩, fun H2 s2 => q _ H2 (F0.of s2) rfl⟩
    · obtain ⟨g1, g2⟩ := all_got (K := K) got
      refine ⟨D, _, rfl, g1, ?_⟩
      rw [g2]
      exact k _ (s1.trans (F0.same e))
end
theorem sc_is_row : FnScope ["thing"] ["thing"] (defScope s_is_row) := ⟨rfl, rfl, rfl, by decide +kernel, rfl, by decide +kernel, by decide +kernel⟩
section
variable {P : Program} {w : World} {K : PySem.W.Frag} {mg : Str → Option Value} {base : Heap}
theorem ok_is_row (D_is_row : Dn K mg "is_row" s_is_row ["thing"]) (D_is_side : Dn K mg "is_side" s_is_side ["thing"]) (G_is_side : FnOk P w K mg base CX0 2 D_is_side.f D_is_side.fd ["thing"] (sp_is_side K)) (D_is_couple : Dn K mg "is_couple" s_is_couple ["thing"]) (G_is_couple : FnOk P w K mg base CX0 2 D_is_couple.f D_is_couple.fd ["thing"] (sp_is_couple K)) (T : TB mg) : FnOk P w K mg base CX0 3 D_is_row.f D_is_row.fd ["thing"] (sp_is_row K) := by
  refine ok0 D_is_row.F sc_is_row (fun vs H Q E h => ?_) (fun cdv A outer s H vs Q E hr h => ?_)
  · obtain ⟨⟨v, r, rfl, hv, h1, h2⟩, k⟩ := h
    rfl
  · obtain ⟨⟨v, r, rfl, hv, h1, h2⟩, k⟩ := h
    refine ⟨_, (pss_one (ps_ret (pe_and (pe_call G_is_couple (hr.mono (by decide)) (by rfl) D_is_couple.m D_is_couple.F.kp D_is_couple.b .nil pass0 (pa_cons (pv 0) pa_nil)) (pe_and (pe_call G_is_side (hr.mono (by decide)) (by rfl) D_is_side.m D_is_side.F.kp D_is_side.b .nil pass0 (pa_cons (pe_ix ix_seq (pv 0) pe_int (fun _ _ => rfl)) pa_nil)) (pe_one (pe_call G_is_side (hr.mono (by decide)) (by rfl) D_is_side.m D_is_side.F.kp D_is_side.b .nil pass0 (pa_cons (pe_ix ix_seq (pv 0) pe_int (fun _ _ => rfl)) pa_nil))))))), ?_⟩
    obtain ⟨a, x, y, rfl, hs, hx, hy⟩ := hv
    refine ⟨_, rfl, ⟨a, _, _, rfl, hs⟩, fun H1 s1 => ⟨_, rfl, iteT ?_⟩⟩
    refine ⟨_, rfl, ix_sqn (hs.same s1) rfl ⟨⟨_, _, rfl, hx.same s1, h1⟩, fun H2 s2 => ⟨_, rfl, iteT ?_⟩⟩⟩
    have s2 := s1.trans s2
    exact ⟨_, rfl, ix_sqn (hs.same s2) rfl ⟨⟨_, _, rfl, hy.same s2, h2⟩, fun H3 s3 => k _ (s2.trans s3)⟩⟩
end
theorem sc_sign_stands : FnScope ["sign", "letters", "unknowns"] ["sign", "letters", "unknowns"] (defScope s_sign_stands) := ⟨rfl, rfl, rfl, by decide +kernel, rfl, by decide +kernel, by decide +kernel⟩
section
variable {P : Program} {w : World} {K : PySem.W.Frag} {mg : Str → Option Value} {base : Heap}
theorem ok_sign_stands (D_sign_stands : Dn K mg "sign_stands" s_sign_stands ["sign", "letters", "unknowns"]) (T : TB mg) : FnOk P w K mg base CX0 1 D_sign_stands.f D_sign_stands.fd ["sign", "letters", "unknowns"] sp_sign_stands := by
  refine ok0 D_sign_stands.F sc_sign_stands (fun vs H Q E h => ?_) (fun cdv A outer s H vs Q E hr h => ?_)
  · obtain ⟨⟨i, l, u, rfl, h0, h1⟩, k⟩ := h
    rfl
  · obtain ⟨⟨i, l, u, rfl, h0, h1⟩, k⟩ := h
    refine ⟨_, (pss_one (ps_ret (pe_ifExp (pt_cmpR op_ge (pv 0) pe_int (nomark _)) (pe_cmpR op_lt (pv 0) (pv 1) (nomark _)) (pe_cmpR op_lt (pe_op op_sub (pe_un un_neg pe_int) (pv 0)) (pv 2) (nomark _))))), ?_⟩
    refine ⟨_, rfl, _, _, rfl, rfl, _, rfl, ?_⟩
    refine ite2 (fun _ => ?_) (fun _ => ?_)
    · refine ⟨_, rfl, _, rfl, _, _, rfl, rfl, ?_⟩
      show Q (.bl (decide (i < l))) H
      rw [decide_eq_true h0]
      exact k _ (Same.refl H)
    · refine ⟨_, rfl, _, rfl, _, _, rfl, rfl, _, rfl, _, _, rfl, rfl, ?_⟩
      show Q (.bl (decide (-1 - i < u))) H
      rw [decide_eq_true h1]
      exact k _ (Same.refl H)
end
end My
set_option maxHeartbeats 4000000
namespace My
open PySem PySem.Spec PyProof.Rows L2 Lcn Sq
/-! ### the clauses of a block, turn by turn -/
theorem turns_it {J : It} {n : Nat} {Gw : Hp → Prop} {Xt : Nat → V → Prop} (w : Walk J n Gw (YIs Xt)) {g : TG} {tt : TT} {t1 : Lcn.TB} {vs : List Nat} {D : Addr} {σ : L2.St} {Z : Hp → Prop} {H : Hp} (Pv : Nat → Hp → Prop) (h0 : Pv 0 H) (hG : ∀ i H, i ≤ n → Pv i H → Gw H)
    (hs : ∀ i x H, i < n → Xt i x → Pv i H → g x (wipe σ vs) H fun σ2 H2 => wipe σ2 vs = wipe σ vs ∧ tt σ2 H2 fun b H3 => if b = true then t1 D σ2 H3 (Pv (i + 1)) else Pv (i + 1) H3) (hd : ∀ H, Pv n H → Z H) : tTurns g tt t1 vs J D σ Z H := by
  refine ⟨fun i m H => m = n - i ∧ i ≤ n ∧ Pv i H, ⟨n, by simp, Nat.zero_le _, h0⟩, ?_⟩
  rintro i m H ⟨rfl, hi, p⟩
  have q := hG i H hi p
  by_cases hlt : i < n
  · refine .inr ⟨w.goes i H hlt q, Pv (i + 1), fun H' p' => ⟨n - (i + 1), by omega, rfl, hlt, p'⟩, fun x H' y => ?_⟩
    obtain ⟨e, hx⟩ := w.yields i H x H' hlt q y
    subst e
    exact hs i x H' hlt hx p
  · have e : i = n := by omega
    subst e
    exact .inl ⟨w.stops H q, hd H p⟩
theorem turns_yes {J : It} {n : Nat} {Gw : Hp → Prop} {Xt : Nat → V → Prop} (w : Walk J n Gw (YIs Xt)) {g : TG} {t1 : Lcn.TB} {vs : List Nat} {D : Addr} {σ : L2.St} {Z : Hp → Prop} {H : Hp} (Pv : Nat → Hp → Prop) (h0 : Pv 0 H) (hG : ∀ i H, i ≤ n → Pv i H → Gw H)
    (hs : ∀ i x H, i < n → Xt i x → Pv i H → g x (wipe σ vs) H fun σ2 H2 => wipe σ2 vs = wipe σ vs ∧ t1 D σ2 H2 (Pv (i + 1))) (hd : ∀ H, Pv n H → Z H) : tTurns g tYes t1 vs J D σ Z H :=
  turns_it w Pv h0 hG (fun i x H hi hx p => hs i x H hi hx p) hd
/-! ### what stays where no sequence changes -/
def sq : HO → Bool
  | .lst _ => true
  | .tup _ => true
  | .frz _ _ => true
  | _ => false
def NI (H H' : Hp) : Prop := ∀ b o, sq o = true → H b = some o → H' b = some o
def Bt (p : Addr) (H H' : Hp) : Prop := ∀ b o, b ≠ p → H b = some o → H' b = some o
theorem NI.of {H H' : Hp} (e : Same H H') : NI H H' := fun b o _ h => e b o h
theorem NI.trans {H H1 H2 : Hp} (a : NI H H1) (b : NI H1 H2) : NI H H2 := fun c o n h => b c o n (a c o n h)
theorem NI.bt {p : Addr} {o : HO} {H H' : Hp} (h : H p = some o) (n : sq o = false) (e : Bt p H H') : NI H H' := fun b u m x => e b u (fun z => by
  rw [z, h] at x
  cases x
  rw [n] at m
  cases m) x
section
variable {K : PySem.W.Frag} {H H' : Hp}
theorem Sqn.ni (e : NI H H') {a : Addr} {xs : List V} (h : Sqn K H a xs) : Sqn K H' a xs := by
  rcases h with h | h
  · rcases h with (h | ⟨o, h⟩) | h
    · exact .inl (.inl (.inl (e _ _ rfl h)))
    · exact .inl (.inl (.inr ⟨o, e _ _ rfl h⟩))
    · exact .inl (.inr h)
  · rcases h with (h | ⟨o, h⟩) | h
    · exact .inr (.inl (.inl (e _ _ rfl h)))
    · exact .inr (.inl (.inr ⟨o, e _ _ rfl h⟩))
    · exact .inr (.inr h)
theorem SqT.ni (e : NI H H') {a : Addr} {xs : List V} (h : SqT K H a xs) : SqT K H' a xs := by
  rcases h with (h | ⟨o, h⟩) | h
  · exact .inl (.inl (e _ _ rfl h))
  · exact .inl (.inr ⟨o, e _ _ rfl h⟩)
  · exact .inr h
theorem IntsS.ni (e : NI H H') {v : V} {ns : List Int} (h : IntsS K H v ns) : IntsS K H' v ns := by
  obtain ⟨a, r, s⟩ := h
  exact ⟨a, r, Sqn.ni e s⟩
/-- a row that is a tuple; its sides any sequences -/
def RowP (K : PySem.W.Frag) (H : Hp) (v : V) (r : List Int × List Int) : Prop := ∃ a x y, v = .ref a ∧ SqT K H a [x, y] ∧ IntsS K H x r.1 ∧ IntsS K H y r.2
def EndP (K : PySem.W.Frag) (H : Hp) (v : V) (e : Int × List Int) : Prop := ∃ a y, v = .ref a ∧ SqT K H a [.int e.1, y] ∧ IntsS K H y e.2
theorem RowS.ni (e : NI H H') {v : V} {r : List Int × List Int} (h : RowS K H v r) : RowS K H' v r := by
  obtain ⟨a, x, y, r, s, h1, h2⟩ := h
  exact ⟨a, x, y, r, Sqn.ni e s, h1.ni e, h2.ni e⟩
theorem RowP.ni (e : NI H H') {v : V} {r : List Int × List Int} (h : RowP K H v r) : RowP K H' v r := by
  obtain ⟨a, x, y, r, s, h1, h2⟩ := h
  exact ⟨a, x, y, r, SqT.ni e s, h1.ni e, h2.ni e⟩
theorem EndP.ni (e : NI H H') {v : V} {r : Int × List Int} (h : EndP K H v r) : EndP K H' v r := by
  obtain ⟨a, y, r, s, h1⟩ := h
  exact ⟨a, y, r, SqT.ni e s, h1.ni e⟩
theorem RowP.s {v : V} {r : List Int × List Int} (h : RowP K H v r) : RowS K H v r := by
  obtain ⟨a, x, y, r, s, h1, h2⟩ := h
  exact ⟨a, x, y, r, .inr s, h1, h2⟩
theorem EndP.s {v : V} {r : Int × List Int} (h : EndP K H v r) : EndS K H v r := by
  obtain ⟨a, y, r, s, h1⟩ := h
  exact ⟨a, y, r, .inr s, h1⟩
theorem SeqS.ni {α : Type} {R : Hp → V → α → Prop} (m : ∀ v z, R H v z → R H' v z) (e : NI H H') {v : V} {zs : List α} (h : SeqS K R H v zs) : SeqS K R H' v zs := by
  obtain ⟨a, xs, r, s, l, f⟩ := h
  exact ⟨a, xs, r, Sqn.ni e s, l, fun i x z h1 h2 => m x z (f i x z h1 h2)⟩
/-! ### tuples all through -/
def IntsT (K : PySem.W.Frag) (H : Hp) (v : V) (ns : List Int) : Prop := ∃ a, v = .ref a ∧ SqT K H a (ns.map V.int)
def RowT (K : PySem.W.Frag) (H : Hp) (v : V) (r : List Int × List Int) : Prop := ∃ a x y, v = .ref a ∧ SqT K H a [x, y] ∧ IntsT K H x r.1 ∧ IntsT K H y r.2
def EndT (K : PySem.W.Frag) (H : Hp) (v : V) (e : Int × List Int) : Prop := ∃ a y, v = .ref a ∧ SqT K H a [.int e.1, y] ∧ IntsT K H y e.2
def SeqT {α : Type} (K : PySem.W.Frag) (R : Hp → V → α → Prop) (H : Hp) (v : V) (zs : List α) : Prop := ∃ a xs, v = .ref a ∧ SqT K H a xs ∧ xs.length = zs.length ∧ ∀ (i : Nat) (x : V) (z : α), xs[i]? = some x → zs[i]? = some z → R H x z
theorem IntsT.kt (e : KT H H') {v : V} {ns : List Int} (h : IntsT K H v ns) : IntsT K H' v ns := by
  obtain ⟨a, r, s⟩ := h
  exact ⟨a, r, e.tup s⟩
theorem RowT.kt (e : KT H H') {v : V} {r : List Int × List Int} (h : RowT K H v r) : RowT K H' v r := by
  obtain ⟨a, x, y, r, s, h1, h2⟩ := h
  exact ⟨a, x, y, r, e.tup s, h1.kt e, h2.kt e⟩
theorem EndT.kt (e : KT H H') {v : V} {r : Int × List Int} (h : EndT K H v r) : EndT K H' v r := by
  obtain ⟨a, y, r, s, h1⟩ := h
  exact ⟨a, y, r, e.tup s, h1.kt e⟩
theorem SeqT.kt {α : Type} {R : Hp → V → α → Prop} (m : ∀ v z, R H v z → R H' v z) (e : KT H H') {v : V} {zs : List α} (h : SeqT K R H v zs) : SeqT K R H' v zs := by
  obtain ⟨a, xs, r, s, l, f⟩ := h
  exact ⟨a, xs, r, e.tup s, l, fun i x z h1 h2 => m x z (f i x z h1 h2)⟩
theorem IntsT.ni (e : NI H H') {v : V} {ns : List Int} (h : IntsT K H v ns) : IntsT K H' v ns := by
  obtain ⟨a, r, s⟩ := h
  exact ⟨a, r, SqT.ni e s⟩
theorem RowT.ni (e : NI H H') {v : V} {r : List Int × List Int} (h : RowT K H v r) : RowT K H' v r := by
  obtain ⟨a, x, y, r, s, h1, h2⟩ := h
  exact ⟨a, x, y, r, SqT.ni e s, h1.ni e, h2.ni e⟩
theorem EndT.ni (e : NI H H') {v : V} {r : Int × List Int} (h : EndT K H v r) : EndT K H' v r := by
  obtain ⟨a, y, r, s, h1⟩ := h
  exact ⟨a, y, r, SqT.ni e s, h1.ni e⟩
theorem SeqT.ni {α : Type} {R : Hp → V → α → Prop} (m : ∀ v z, R H v z → R H' v z) (e : NI H H') {v : V} {zs : List α} (h : SeqT K R H v zs) : SeqT K R H' v zs := by
  obtain ⟨a, xs, r, s, l, f⟩ := h
  exact ⟨a, xs, r, SqT.ni e s, l, fun i x z h1 h2 => m x z (f i x z h1 h2)⟩
theorem IntsT.s {v : V} {ns : List Int} (h : IntsT K H v ns) : IntsS K H v ns := by
  obtain ⟨a, r, s⟩ := h
  exact ⟨a, r, .inr s⟩
theorem RowT.p {v : V} {r : List Int × List Int} (h : RowT K H v r) : RowP K H v r := by
  obtain ⟨a, x, y, r, s, h1, h2⟩ := h
  exact ⟨a, x, y, r, s, h1.s, h2.s⟩
theorem EndT.p {v : V} {r : Int × List Int} (h : EndT K H v r) : EndP K H v r := by
  obtain ⟨a, y, r, s, h1⟩ := h
  exact ⟨a, y, r, s, h1.s⟩
theorem SeqT.s {α : Type} {R S : Hp → V → α → Prop} (m : ∀ v z, R H v z → S H v z) {v : V} {zs : List α} (h : SeqT K R H v zs) : SeqS K S H v zs := by
  obtain ⟨a, xs, r, s, l, f⟩ := h
  exact ⟨a, xs, r, .inr s, l, fun i x z h1 h2 => m x z (f i x z h1 h2)⟩
/-- tuple([..]) of what a comprehension gave -/
theorem rd_got {α : Type} {zs : List α} {R : Hp → V → α → Prop} (m : ∀ H H' v z, KT H H' → R H v z → R H' v z) {D : Addr} {Q : VK} (h : Got D zs.length (fun H i y => ∀ z, zs[i]? = some z → R H y z) H) (q : ∀ v H', Same H H' → SeqT K R H' v zs → Q v H') :
    rTupOf K [.ref D] H Q := by
  obtain ⟨ys, h1, h2, h3⟩ := h
  unfold rTupOf
  exact ⟨D, ys, rfl, .inl ⟨SqL.of h1, fun l hl => q _ _ (same_new hl) ⟨l, ys, rfl, SqT.of upd_same, h2, fun i x z hx hz => m _ _ _ _ (KT.new hl) (h3 i x hx z hz)⟩⟩⟩
/-- each item's truth, from a walk over what stands -/
theorem seq_at {α : Type} {zs : List α} {xs : List V} {i : Nat} {x : V} (l : xs.length = zs.length) (h : xs[i]? = some x) : ∃ z, zs[i]? = some z := by
  have := (List.getElem?_eq_some_iff.mp h).1
  exact ⟨zs[i], by simp [← l, this]⟩
end
/-! ### the book -/
structure BookOk (R : List (List Int × List Int)) (D : List (List Int)) (E : List (Int × List Int)) (n : Int) : Prop where
  n1 : 1 ≤ n
  d : ∀ d ∈ D, (d.length : Int) = n ∧ d.length < 1000 ∧ ∀ i ∈ d, InR n i
  e : ∀ e ∈ E, InR n e.1 ∧ e.2.length < 1000 ∧ (∀ i ∈ e.2, InR n i) ∧ Asc e.2
  r : ∀ r ∈ R, r.1.length < 1000 ∧ r.2.length < 1000 ∧ (∀ s ∈ r.1, Stands D.length E.length s) ∧ ∀ s ∈ r.2, Stands D.length E.length s
  rl : R.length < 1000
  dl : D.length < 1000
  el : E.length < 1000
structure BookC (K : PySem.W.Frag) (mg : Str → Option Value) where
  C : Addr
  f : Addr
  fd : FuncData
  F : FunD K "__init__" "Book.__init__" (defArgs s_Book_init) (defBody s_Book_init) (defScope s_Book_init) [.int 1] [] f fd
  m : mg "Book" = some (.ref C)
  M : Mk K C f
  cl : Cls K C
  b : Binds K fd ["self", "rows", "deeds", "ends", "states"] []
  n1 : NoAttr K C "rows"
  n2 : NoAttr K C "deeds"
  n3 : NoAttr K C "ends"
  n4 : NoAttr K C "states"
def bookF (r d e : V) (n : Int) : List (Str × V) := [("rows", r), ("deeds", d), ("ends", e), ("states", .int n)]
/-- a book's attributes -/
structure BookAt (K : PySem.W.Frag) (H : Hp) (R : List (List Int × List Int)) (D : List (List Int)) (E : List (Int × List Int)) (r d e : V) : Prop where
  r : SeqT K (RowT K) H r R
  d : SeqT K (IntsT K) H d D
  e : SeqT K (EndT K) H e E
def sp_Book_init (K : PySem.W.Frag) (C : Addr) : Sp := fun vs H Q _ => ∃ (self : Addr) (rows deeds ends : V) (n : Int) (dx : Addr) (R : List (List Int × List Int)) (D : List (List Int)) (E : List (Int × List Int)), vs = [.ref self, rows, deeds, ends, .int n] ∧ H self = some (.ins C dx []) ∧
  SeqS K (RowS K) H rows R ∧ SeqS K (IntsS K) H deeds D ∧ SeqS K (EndP K) H ends E ∧ BookOk R D E n ∧
  ∀ (r d e : V) (H' : Hp), Bt self H H' → H' self = some (.ins C dx (bookF r d e n)) → BookAt K H' R D E r d e → Q .non H'
theorem k1000 {n : Nat} (h : n < 1000) : n < sizeLine := Nat.lt_trans h (by decide)
theorem k20 {n : Nat} (h : n < 1000) : n < 2 ^ 20 := Nat.lt_trans h (by decide)
theorem stb_seq {α : Type} {zs : List α} {R : Hp → V → α → Prop} (m : ∀ H H' v z, KT H H' → R H v z → R H' v z) : Stb (fun H i y => ∀ z, zs[i]? = some z → R H y z) := fun H H' i v k h z hz => m H H' v z k (h z hz)
theorem sc_Book_init : FnScope ["self", "rows", "deeds", "ends", "states", "deed", "row", "side", "sign", "left", "right", "start", "goals", "one"] ["self", "rows", "deeds", "ends", "states"] (defScope s_Book_init) := ⟨rfl, rfl, rfl, by decide +kernel, rfl, by decide +kernel, by decide +kernel⟩
section
variable {P : Program} {w : World} {K : PySem.W.Frag} {mg : Str → Option Value} {base : Heap}
theorem ok_Book_init (B : BookC K mg) (D_sign_stands : Dn K mg "sign_stands" s_sign_stands ["sign", "letters", "unknowns"]) (G_sign_stands : FnOk P w K mg base CX0 1 D_sign_stands.f D_sign_stands.fd ["sign", "letters", "unknowns"] (sp_sign_stands)) (D_is_row : Dn K mg "is_row" s_is_row ["thing"]) (G_is_row : FnOk P w K mg base CX0 3 D_is_row.f D_is_row.fd ["thing"] (sp_is_row K)) (D_is_sequence : Dn K mg "is_sequence" s_is_sequence ["thing"]) (G_is_sequence : FnOk P w K mg base CX0 1 D_is_sequence.f D_is_sequence.fd ["thing"] (sp_is_sequence K)) (D_is_ends : Dn K mg "is_ends" s_is_ends ["thing", "states"]) (G_is_ends : FnOk P w K mg base CX0 4 D_is_ends.f D_is_ends.fd ["thing", "states"] (sp_is_ends K)) (D_is_deed : Dn K mg "is_deed" s_is_deed ["thing", "states"]) (G_is_deed : FnOk P w K mg base CX0 3 D_is_deed.f D_is_deed.fd ["thing", "states"] (sp_is_deed K)) (D_is_whole : Dn K mg "is_whole" s_is_whole ["thing"]) (G_is_whole : FnOk P w K mg base CX0 1 D_is_whole.f D_is_whole.fd ["thing"] (sp_is_whole)) (T : TB mg) : FnOk P w K mg base CX0 5 B.f B.fd ["self", "rows", "deeds", "ends", "states"] (sp_Book_init K B.C) := by
  refine ok0 B.F sc_Book_init (fun vs H Q E h => ?_) (fun cdv A outer s H vs Q E hr h => ?_)
  · obtain ⟨self, rows, deeds, ends, n, dx, R, D, E', rfl, _⟩ := h
    rfl
  · obtain ⟨self, rows, deeds, ends, n, dx, R, D, E', rfl, hS, hR, hD, hE, ok, k⟩ := h
    refine ⟨_, (pss_cons (ps_if (PW.pt (pw_or (pt_not (pt_val (pe_call G_is_whole (hr.mono (by decide)) (by rfl) D_is_whole.m D_is_whole.F.kp D_is_whole.b .nil pass0 (pa_cons (pv 4) pa_nil)))) (pw_or1 (pt_cmpR op_lt (pv 4) pe_int (nomark _))))) (pss_one ps_never) pss_nil)
  (pss_cons (ps_if (PW.pt (pw_or (pt_not (pt_val (pe_call G_is_sequence (hr.mono (by decide)) (by rfl) D_is_sequence.m D_is_sequence.F.kp D_is_sequence.b .nil pass0 (pa_cons (pv 2) pa_nil)))) (pw_or1 (pt_not (pt_val (pe_callB (cr_all rfl) (by rfl) T.all_ (by decide +kernel) (pa_cons (pe_lc (own := [(("deed" : Str), 5)]) rfl sc_Book_init.nd (pi_seq (pv 2)) (blkOk_by (own := [(("deed" : Str), 5)]) (N := ["self", "rows", "deeds", "ends", "states", "deed", "row", "side", "sign", "left", "right", "start", "goals", "one"]) (sc := defScope s_Book_init) (by decide +kernel)) (fun _ _ _ _ _ => (pg_name (i := 5) sc_Book_init.nd rfl (Or.inl rfl))) (fun _ _ _ _ _ => pts_nil) (fun _ _ _ _ _ => (pe_call G_is_deed (hr.mono (by decide)) (by rfl) D_is_deed.m D_is_deed.F.kp D_is_deed.b .nil pass0 (pa_cons (pv 5) (pa_cons (pv 4) pa_nil))))) pa_nil))))))) (pss_one ps_never) pss_nil)
  (pss_cons (ps_if (PW.pt (pw_or (pt_not (pt_val (pe_call G_is_sequence (hr.mono (by decide)) (by rfl) D_is_sequence.m D_is_sequence.F.kp D_is_sequence.b .nil pass0 (pa_cons (pv 3) pa_nil)))) (pw_or1 (pt_not (pt_val (pe_callB (cr_all rfl) (by rfl) T.all_ (by decide +kernel) (pa_cons (pe_lc (own := [(("one" : Str), 13)]) rfl sc_Book_init.nd (pi_seq (pv 3)) (blkOk_by (own := [(("one" : Str), 13)]) (N := ["self", "rows", "deeds", "ends", "states", "deed", "row", "side", "sign", "left", "right", "start", "goals", "one"]) (sc := defScope s_Book_init) (by decide +kernel)) (fun _ _ _ _ _ => (pg_name (i := 13) sc_Book_init.nd rfl (Or.inl rfl))) (fun _ _ _ _ _ => pts_nil) (fun _ _ _ _ _ => (pe_call G_is_ends (hr.mono (by decide)) (by rfl) D_is_ends.m D_is_ends.F.kp D_is_ends.b .nil pass0 (pa_cons (pv 13) (pa_cons (pv 4) pa_nil))))) pa_nil))))))) (pss_one ps_never) pss_nil)
  (pss_cons (ps_if (PW.pt (pw_or (pt_not (pt_val (pe_call G_is_sequence (hr.mono (by decide)) (by rfl) D_is_sequence.m D_is_sequence.F.kp D_is_sequence.b .nil pass0 (pa_cons (pv 1) pa_nil)))) (pw_or1 (pt_not (pt_val (pe_callB (cr_all rfl) (by rfl) T.all_ (by decide +kernel) (pa_cons (pe_lc (own := [(("row" : Str), 6)]) rfl sc_Book_init.nd (pi_seq (pv 1)) (blkOk_by (own := [(("row" : Str), 6)]) (N := ["self", "rows", "deeds", "ends", "states", "deed", "row", "side", "sign", "left", "right", "start", "goals", "one"]) (sc := defScope s_Book_init) (by decide +kernel)) (fun _ _ _ _ _ => (pg_name (i := 6) sc_Book_init.nd rfl (Or.inl rfl))) (fun _ _ _ _ _ => pts_nil) (fun _ _ _ _ _ => (pe_call G_is_row (hr.mono (by decide)) (by rfl) D_is_row.m D_is_row.F.kp D_is_row.b .nil pass0 (pa_cons (pv 6) pa_nil)))) pa_nil))))))) (pss_one ps_never) pss_nil)
  (pss_cons (ps_if (pt_not (pt_val (pe_callB (cr_all rfl) (by rfl) T.all_ (by decide +kernel) (pa_cons (pe_lcn (own := [(("row" : Str), 6), (("side" : Str), 7), (("sign" : Str), 8)]) rfl sc_Book_init.nd (pi_seq (pv 1)) (blkOk_by (own := [(("row" : Str), 6), (("side" : Str), 7), (("sign" : Str), 8)]) (N := ["self", "rows", "deeds", "ends", "states", "deed", "row", "side", "sign", "left", "right", "start", "goals", "one"]) (sc := defScope s_Book_init) (by decide +kernel)) (by decide) (fun _ _ _ _ _ => (pg_name (i := 6) sc_Book_init.nd rfl (Or.inl rfl))) (fun _ _ _ _ _ => pts_nil) (fun _ _ _ _ _ => (pb_cl (vs := [7, 8]) rfl rfl (by decide) rfl (pi_seqK (K := K) rfl (pv 6)) (pg_name (i := 7) sc_Book_init.nd rfl (Or.inl rfl)) pts_nil (pb_cl (vs := [8]) rfl rfl (by decide) rfl (pi_seqK (K := K) rfl (pv 7)) (pg_name (i := 8) sc_Book_init.nd rfl (Or.inl rfl)) pts_nil (pb_end rfl rfl (pe_call G_sign_stands (hr.mono (by decide)) (by rfl) D_sign_stands.m D_sign_stands.F.kp D_sign_stands.b .nil pass0 (pa_cons (pv 8) (pa_cons (pe_callB (call_len_seqK (K := K) rfl) (by rfl) T.len PySem.boot_len (pa_cons (pv 2) pa_nil)) (pa_cons (pe_callB (call_len_seqK (K := K) rfl) (by rfl) T.len PySem.boot_len (pa_cons (pv 3) pa_nil)) pa_nil))))) (by decide)) (by decide))) (by decide)) pa_nil)))) (pss_one ps_never) pss_nil)
  (pss_cons (ps_fld (pv 0) (pe_callTy call_tupR (by rfl) T.tuple_ (by decide +kernel) (pa_cons (pe_lc (own := [(("left" : Str), 9), (("right" : Str), 10)]) rfl sc_Book_init.nd (pi_seq (pv 1)) (blkOk_by (own := [(("left" : Str), 9), (("right" : Str), 10)]) (N := ["self", "rows", "deeds", "ends", "states", "deed", "row", "side", "sign", "left", "right", "start", "goals", "one"]) (sc := defScope s_Book_init) (by decide +kernel)) (fun _ _ _ _ _ => (pg_seqK (K := K) (n := 2) rfl rfl (pgs_cons (pg_name (i := 9) sc_Book_init.nd rfl (Or.inl rfl)) (pgs_cons (pg_name (i := 10) sc_Book_init.nd rfl (Or.inl rfl)) pgs_nil)))) (fun _ _ _ _ _ => pts_nil) (fun _ _ _ _ _ => (pe_tup (pa_cons (pe_callTy (call_tupRK (K := K) rfl) (by rfl) T.tuple_ (by decide +kernel) (pa_cons (pv 9) pa_nil)) (pa_cons (pe_callTy (call_tupRK (K := K) rfl) (by rfl) T.tuple_ (by decide +kernel) (pa_cons (pv 10) pa_nil)) pa_nil))))) pa_nil)) rfl)
  (pss_cons (ps_fld (pv 0) (pe_callTy call_tupR (by rfl) T.tuple_ (by decide +kernel) (pa_cons (pe_lc (own := [(("deed" : Str), 5)]) rfl sc_Book_init.nd (pi_seq (pv 2)) (blkOk_by (own := [(("deed" : Str), 5)]) (N := ["self", "rows", "deeds", "ends", "states", "deed", "row", "side", "sign", "left", "right", "start", "goals", "one"]) (sc := defScope s_Book_init) (by decide +kernel)) (fun _ _ _ _ _ => (pg_name (i := 5) sc_Book_init.nd rfl (Or.inl rfl))) (fun _ _ _ _ _ => pts_nil) (fun _ _ _ _ _ => (pe_callTy (call_tupRK (K := K) rfl) (by rfl) T.tuple_ (by decide +kernel) (pa_cons (pv 5) pa_nil)))) pa_nil)) rfl)
  (pss_cons (ps_fld (pv 0) (pe_callTy call_tupR (by rfl) T.tuple_ (by decide +kernel) (pa_cons (pe_lc (own := [(("start" : Str), 11), (("goals" : Str), 12)]) rfl sc_Book_init.nd (pi_seq (pv 3)) (blkOk_by (own := [(("start" : Str), 11), (("goals" : Str), 12)]) (N := ["self", "rows", "deeds", "ends", "states", "deed", "row", "side", "sign", "left", "right", "start", "goals", "one"]) (sc := defScope s_Book_init) (by decide +kernel)) (fun _ _ _ _ _ => (pg_tupK (K := K) (n := 2) rfl rfl (pgs_cons (pg_name (i := 11) sc_Book_init.nd rfl (Or.inl rfl)) (pgs_cons (pg_name (i := 12) sc_Book_init.nd rfl (Or.inl rfl)) pgs_nil)))) (fun _ _ _ _ _ => pts_nil) (fun _ _ _ _ _ => (pe_tup (pa_cons (pv 11) (pa_cons (pe_callTy (call_tupRK (K := K) rfl) (by rfl) T.tuple_ (by decide +kernel) (pa_cons (pv 12) pa_nil)) pa_nil))))) pa_nil)) rfl)
  (pss_one (ps_fld (pv 0) (pv 4) rfl)))))))))), ?_⟩
    obtain ⟨aR, xR, rfl, hsR, lR, fR⟩ := hR
    obtain ⟨aD, xD, rfl, hsD, lD, fD⟩ := hD
    obtain ⟨aE, xE, rfl, hsE, lE, fE⟩ := hE
    refine ⟨_, rfl, ⟨n, rfl⟩, fun H1 s1 => ⟨_, rfl, iteF ?_⟩⟩
    refine ⟨_, rfl, _, _, rfl, rfl, _, rfl, ?_⟩
    have n1 : decide (n < 1) = false := decide_eq_false (by have := ok.n1; omega)
    rw [n1]
    refine iteF ?_
    -- deeds
    refine ⟨_, rfl, ⟨aD, _, rfl, hsD.same s1⟩, fun H2 s2 => ⟨_, rfl, iteF ?_⟩⟩
    have s2 := s1.trans s2
    refine seq_rd s2 (fun _ q => ⟨_, rfl, q⟩) hsD fun J Gw w gw L hL => ?_
    refine lc_fr w (by rw [lD]; exact k1000 ok.dl) stb_true gd0 hL trivial (fun H' e => gw H' fun o h => F0.same e _ o (s2 _ o h)) (fun i x H' Q' hi hx e q => by
      obtain ⟨z, hz⟩ := seq_at lD hx
      obtain ⟨c1, c2, c3⟩ := ok.d z (List.mem_of_getElem? hz)
      exact ⟨rfl, _, rfl, _, rfl, ⟨_, z, n, rfl, (fD i x z hx hz).same (s2.trans (F0.same e)), c1, k20 c2, c3⟩, fun H3 s3 => q _ H3 (F0.of s3) rfl⟩) (fun H3 e got => ?_)
    obtain ⟨g1, g2⟩ := all_got (K := K) got
    refine ⟨L, _, rfl, g1, ?_⟩
    rw [g2]
    refine ⟨_, rfl, iteF ?_⟩
    have s3 := s2.trans (F0.same e)
    -- ends
    refine ⟨_, rfl, ⟨aE, _, rfl, hsE.same s3⟩, fun H4 s4 => ⟨_, rfl, iteF ?_⟩⟩
    have s4 := s3.trans s4
    refine seq_rd s4 (fun _ q => ⟨_, rfl, q⟩) hsE fun J Gw w gw L hL => ?_
    refine lc_fr w (by rw [lE]; exact k1000 ok.el) stb_true gd0 hL trivial (fun H' e => gw H' fun o h => F0.same e _ o (s4 _ o h)) (fun i x H' Q' hi hx e q => by
      obtain ⟨z, hz⟩ := seq_at lE hx
      obtain ⟨c1, c2, c3, c4⟩ := ok.e z (List.mem_of_getElem? hz)
      exact ⟨rfl, _, rfl, _, rfl, ⟨_, z, n, rfl, (fE i x z hx hz).s.same (s4.trans (F0.same e)), k20 c2, c1, c3, c4⟩, fun H3 s3 => q _ H3 (F0.of s3) rfl⟩) (fun H5 e got => ?_)
    obtain ⟨g1, g2⟩ := all_got (K := K) got
    refine ⟨L, _, rfl, g1, ?_⟩
    rw [g2]
    refine ⟨_, rfl, iteF ?_⟩
    have s5 := s4.trans (F0.same e)
    -- rows
    refine ⟨_, rfl, ⟨aR, _, rfl, hsR.same s5⟩, fun H6 s6 => ⟨_, rfl, iteF ?_⟩⟩
    have s6 := s5.trans s6
    refine seq_rd s6 (fun _ q => ⟨_, rfl, q⟩) hsR fun J Gw w gw L hL => ?_
    refine lc_fr w (by rw [lR]; exact k1000 ok.rl) stb_true gd0 hL trivial (fun H' e => gw H' fun o h => F0.same e _ o (s6 _ o h)) (fun i x H' Q' hi hx e q => by
      obtain ⟨z, hz⟩ := seq_at lR hx
      obtain ⟨c1, c2, c3⟩ := ok.r z (List.mem_of_getElem? hz)
      exact ⟨rfl, _, rfl, ⟨_, z, rfl, (fR i x z hx hz).same (s6.trans (F0.same e)), k20 c1, k20 c2⟩, fun H3 s3 => q _ H3 (F0.of s3) rfl⟩) (fun H7 e got => ?_)
    obtain ⟨g1, g2⟩ := all_got (K := K) got
    refine ⟨L, _, rfl, g1, ?_⟩
    rw [g2]
    refine ⟨_, rfl, iteF ?_⟩
    have s7 := s6.trans (F0.same e)
    -- signs
    refine seq_rd s7 (fun _ q => ⟨_, rfl, q⟩) hsR fun J Gw w gw L hL => ?_
    refine turns_yes w (fun i H' => Same H7 H' ∧ ∃ ys, H' L = some (.lst ys) ∧ ys.length ≤ i * 2000 ∧ ∀ y ∈ ys, y = .bl true) ⟨same_new hL, [], upd_same, by simp, by simp⟩ (fun i H' _ p => gw H' fun o h => p.1 _ o (s7 _ o h)) (fun i x H' hi hx p => by
      obtain ⟨z, hz⟩ := seq_at lR hx
      obtain ⟨c1, c2, c3, c4⟩ := ok.r z (List.mem_of_getElem? hz)
      obtain ⟨ar, x1, y1, rfl, hrow, hx1, hy1⟩ := fR i x z hx hz
      have hi1 : i < 1000 := by
        rw [lR] at hi
        exact Nat.lt_trans hi ok.rl
      refine ⟨rfl, ?_⟩
      refine seq_rd (s7.trans p.1) (fun _ q => ⟨_, rfl, q⟩) hrow fun J2 Gw2 w2 gw2 => ?_
      refine turns_yes w2 (fun j H'' => Same H7 H'' ∧ ∃ ys, H'' L = some (.lst ys) ∧ ys.length ≤ i * 2000 + j * 1000 ∧ ∀ y ∈ ys, y = .bl true) ⟨p.1, by simpa using p.2⟩ (fun j H'' _ p => gw2 H'' fun o h => p.1 _ o (s7 _ o h)) (fun j x2 H'' hj hx2 p2 => ?_) (fun H'' p2 => ?_)
      · obtain ⟨ns, h1, h2, h3⟩ : ∃ ns, IntsS K H x2 ns ∧ ns.length < 1000 ∧ ∀ s ∈ ns, Stands D.length E'.length s := by
          have hj2 : j < 2 := hj
          rcases (by omega : j = 0 ∨ j = 1) with rfl | rfl
          · cases hx2
            exact ⟨_, hx1, c1, c3⟩
          · cases hx2
            exact ⟨_, hy1, c2, c4⟩
        obtain ⟨as, rfl, hs⟩ := h1
        have hj2 : j < 2 := hj
        refine ⟨rfl, ?_⟩
        refine seq_rd (s7.trans p2.1) (fun _ q => ⟨_, rfl, q⟩) hs fun J3 Gw3 w3 gw3 => ?_
        refine turns_yes w3 (fun l H3 => Same H7 H3 ∧ ∃ ys, H3 L = some (.lst ys) ∧ ys.length ≤ i * 2000 + j * 1000 + l ∧ ∀ y ∈ ys, y = .bl true) ⟨p2.1, by simpa using p2.2⟩ (fun l H3 _ p => gw3 H3 fun o h => p.1 _ o (s7 _ o h)) (fun l x3 H3 hl hx3 p3 => ?_) (fun H3 p3 => ?_)
        · obtain ⟨s, hs', rfl⟩ := map_at hx3
          obtain ⟨q3, ys, q4, q5, q6⟩ := p3
          have s8 := s7.trans q3
          refine ⟨rfl, ?_⟩
          refine ⟨_, rfl, _, rfl, aD, xD, rfl, hsD.same s8, _, rfl, aE, xE, rfl, hsE.same s8, ⟨s, _, _, rfl, ?_⟩, fun H9 s9 => ?_⟩
          · rw [lD, lE]
            exact h3 s (List.mem_of_getElem? hs')
          · have hl1 : l < 1000 := by
              rw [List.length_map] at hl
              omega
            have big : i * 2000 + j * 1000 + l < sizeLine := by
              have : sizeLine = 16777216 := by decide
              omega
            refine ⟨ys, s9 _ _ q4, by omega, same_upd (q3.trans s9) hL, _, upd_same, by rw [List.length_append]; show ys.length + 1 ≤ _; omega, fun y hy => ?_⟩
            rcases List.mem_append.mp hy with hy | hy
            · exact q6 y hy
            · simpa using hy
        · obtain ⟨q3, ys, q4, q5, q6⟩ := p3
          rw [List.length_map] at q5
          exact ⟨q3, ys, q4, by omega, q6⟩
      · obtain ⟨q3, ys, q4, q5, q6⟩ := p2
        have q5 : ys.length ≤ i * 2000 + 2 * 1000 := q5
        exact ⟨q3, ys, q4, by omega, q6⟩) (fun H8 p => ?_)
    obtain ⟨t8, ys, y1, y2, y3⟩ := p
    obtain ⟨g1, g2⟩ := all_got (K := K) (H := H8) (D := L) (n := ys.length) ⟨ys, y1, rfl, fun i y h => y3 y (List.mem_of_getElem? h)⟩
    refine ⟨L, _, rfl, g1, ?_⟩
    rw [g2]
    refine ⟨_, rfl, iteF ?_⟩
    have s8 := s7.trans t8
    -- self.rows
    have hsf : H8 self = some (.ins B.C dx []) := s8 _ _ hS
    refine seq_rd s8 (fun _ q => ⟨_, rfl, q⟩) hsR fun J Gw w gw L hL => ?_
    refine lc_fr (R := fun H i y => ∀ z, R[i]? = some z → RowT K H y z) w (by rw [lR]; exact k1000 ok.rl) (stb_seq fun _ _ _ _ k h => h.kt k) gd0 hL trivial (fun H' e => gw H' fun o h => F0.same e _ o (s8 _ o h)) (fun i x H' Q' hi hx e q => by
      obtain ⟨z, hz⟩ := seq_at lR hx
      obtain ⟨ar, x1, y1, rfl, hrow, hx1, hy1⟩ := (fR i x z hx hz).ni (NI.of (s8.trans (F0.same e)))
      obtain ⟨a1, rfl, h1⟩ := hx1
      obtain ⟨a2, rfl, h2⟩ := hy1
      refine ⟨ar, _, rfl, hrow, rfl, _, _, rfl, _, _, rfl, rfl, rfl, ?_⟩
      refine ⟨_, rfl, rd_tup h1 fun b1 H1 e1 t1 => ⟨_, rfl, rd_tup (h2.same e1) fun b2 H2 e2 t2 => ⟨(by show 2 ≤ sizeLine; decide), fun p hp => ?_⟩⟩⟩
      refine q _ _ (F0.of ((e1.trans e2).trans (same_new hp))) fun z' hz' => ?_
      rw [hz] at hz'
      cases hz'
      have m : Same H2 (upd H2 p (.tup [.ref b1, .ref b2])) := same_new hp
      exact ⟨p, _, _, rfl, SqT.of upd_same, ⟨b1, rfl, SqT.same (e2.trans m) t1⟩, ⟨b2, rfl, SqT.same m t2⟩⟩) (fun H9 e got => ?_)
    rw [lR] at got
    refine rd_got (fun _ _ _ _ k h => h.kt k) got fun r H10 e10 hr1 => ?_
    have t10 := (F0.same e).trans e10
    refine ⟨_, rfl, self, B.C, dx, [], rfl, t10 _ _ hsf, B.cl, B.n1, (by decide), ?_⟩
    -- self.deeds
    have bt : Bt self H (upd H10 self (.ins B.C dx (putF "rows" r []))) := fun b o nb h => by
      rw [upd_ne nb]
      exact (s8.trans t10) b o h
    have hr2 : SeqT K (RowT K) (upd H10 self (.ins B.C dx (putF "rows" r []))) r R := hr1.ni (fun _ _ h => h.ni (NI.bt (t10 _ _ hsf) rfl fun b o nb h => by rw [upd_ne nb]; exact h)) (NI.bt (t10 _ _ hsf) rfl fun b o nb h => by rw [upd_ne nb]; exact h)
    have hsf2 : (upd H10 self (.ins B.C dx (putF "rows" r []))) self = some (.ins B.C dx (putF "rows" r [])) := upd_same
    generalize upd H10 self (.ins B.C dx (putF "rows" r [])) = HA at bt hr2 hsf2 ⊢
    have nA : NI H HA := NI.bt hS rfl bt
    refine seq_rd (H0 := HA) (Same.refl _) (fun _ q => ⟨_, rfl, q⟩) (Sqn.ni nA hsD) fun J Gw w gw L hL => ?_
    refine lc_fr (R := fun H i y => ∀ z, D[i]? = some z → IntsT K H y z) w (by rw [lD]; exact k1000 ok.dl) (stb_seq fun _ _ _ _ k h => h.kt k) gd0 hL trivial (fun H' e => gw H' fun o h => F0.same e _ o h) (fun i x H' Q' hi hx e q => by
      obtain ⟨z, hz⟩ := seq_at lD hx
      obtain ⟨a1, rfl, h1⟩ := (fD i x z hx hz).ni (nA.trans (NI.of (F0.same e)))
      refine ⟨rfl, _, rfl, rd_tup h1 fun b1 H1 e1 t1 => q _ _ (F0.of e1) fun z' hz' => ?_⟩
      rw [hz] at hz'
      cases hz'
      exact ⟨b1, rfl, t1⟩) (fun H9 e got => ?_)
    rw [lD] at got
    refine rd_got (fun _ _ _ _ k h => h.kt k) got fun d HB eB hd1 => ?_
    have tB := (F0.same e).trans eB
    refine ⟨_, rfl, self, B.C, dx, _, rfl, tB _ _ hsf2, B.cl, B.n2, (by show 1 < 1000; decide), ?_⟩
    -- self.ends
    have bt2 : Bt self HA (upd HB self (.ins B.C dx (putF "deeds" d (putF "rows" r [])))) := fun b o nb h => by
      rw [upd_ne nb]
      exact tB b o h
    have hd2 : SeqT K (IntsT K) (upd HB self (.ins B.C dx (putF "deeds" d (putF "rows" r [])))) d D := hd1.ni (fun _ _ h => h.ni (NI.bt (tB _ _ hsf2) rfl fun b o nb h => by rw [upd_ne nb]; exact h)) (NI.bt (tB _ _ hsf2) rfl fun b o nb h => by rw [upd_ne nb]; exact h)
    have hsf3 : (upd HB self (.ins B.C dx (putF "deeds" d (putF "rows" r [])))) self = some (.ins B.C dx (putF "deeds" d (putF "rows" r []))) := upd_same
    generalize upd HB self (.ins B.C dx (putF "deeds" d (putF "rows" r []))) = HC at bt2 hd2 hsf3 ⊢
    have nB : NI HA HC := NI.bt hsf2 rfl bt2
    refine seq_rd (H0 := HC) (Same.refl _) (fun _ q => ⟨_, rfl, q⟩) (Sqn.ni (nA.trans nB) hsE) fun J Gw w gw L hL => ?_
    refine lc_fr (R := fun H i y => ∀ z, E'[i]? = some z → EndT K H y z) w (by rw [lE]; exact k1000 ok.el) (stb_seq fun _ _ _ _ k h => h.kt k) gd0 hL trivial (fun H' e => gw H' fun o h => F0.same e _ o h) (fun i x H' Q' hi hx e q => by
      obtain ⟨z, hz⟩ := seq_at lE hx
      obtain ⟨ar, y1, rfl, hrow, hy1⟩ := (fE i x z hx hz).ni ((nA.trans nB).trans (NI.of (F0.same e)))
      obtain ⟨a2, rfl, h2⟩ := hy1
      refine ⟨ar, _, rfl, hrow, rfl, _, _, rfl, _, _, rfl, rfl, rfl, ?_⟩
      refine ⟨_, rfl, _, rfl, rd_tup h2 fun b2 H2 e2 t2 => ⟨(by show 2 ≤ sizeLine; decide), fun p hp => ?_⟩⟩
      refine q _ _ (F0.of (e2.trans (same_new hp))) fun z' hz' => ?_
      rw [hz] at hz'
      cases hz'
      exact ⟨p, _, rfl, SqT.of upd_same, ⟨b2, rfl, SqT.same (same_new hp) t2⟩⟩) (fun H9 e got => ?_)
    rw [lE] at got
    refine rd_got (fun _ _ _ _ k h => h.kt k) got fun en HD eD he1 => ?_
    have tD := (F0.same e).trans eD
    refine ⟨_, rfl, self, B.C, dx, _, rfl, tD _ _ hsf3, B.cl, B.n3, (by show 2 < 1000; decide), ?_⟩
    have bt3 : Bt self HC (upd HD self (.ins B.C dx (putF "ends" en (putF "deeds" d (putF "rows" r []))))) := fun b o nb h => by
      rw [upd_ne nb]
      exact tD b o h
    have he2 : SeqT K (EndT K) (upd HD self (.ins B.C dx (putF "ends" en (putF "deeds" d (putF "rows" r []))))) en E' := he1.ni (fun _ _ h => h.ni (NI.bt (tD _ _ hsf3) rfl fun b o nb h => by rw [upd_ne nb]; exact h)) (NI.bt (tD _ _ hsf3) rfl fun b o nb h => by rw [upd_ne nb]; exact h)
    have hsf4 : (upd HD self (.ins B.C dx (putF "ends" en (putF "deeds" d (putF "rows" r []))))) self = some (.ins B.C dx (putF "ends" en (putF "deeds" d (putF "rows" r [])))) := upd_same
    generalize upd HD self (.ins B.C dx (putF "ends" en (putF "deeds" d (putF "rows" r [])))) = HE at bt3 he2 hsf4 ⊢
    have nC : NI HC HE := NI.bt hsf3 rfl bt3
    -- self.states
    refine ⟨_, rfl, _, rfl, self, B.C, dx, _, rfl, hsf4, B.cl, B.n4, (by show 3 < 1000; decide), ?_⟩
    have bt4 : Bt self HE (upd HE self (.ins B.C dx (putF "states" (.int n) (putF "ends" en (putF "deeds" d (putF "rows" r [])))))) := fun b o nb h => by
      rw [upd_ne nb]
      exact h
    have nD : NI HE _ := NI.bt hsf4 rfl bt4
    refine k r d en _ (fun b o nb h => bt4 b o nb (bt3 b o nb (bt2 b o nb (bt b o nb h)))) upd_same ⟨?_, ?_, ?_⟩
    · exact hr2.ni (fun _ _ h => h.ni ((nB.trans nC).trans nD)) ((nB.trans nC).trans nD)
    · exact hd2.ni (fun _ _ h => h.ni (nC.trans nD)) (nC.trans nD)
    · exact he2.ni (fun _ _ h => h.ni nD) nD
end
end My
set_option maxHeartbeats 4000000
namespace My
open PySem L2
/-- a def of the module, without defaults -/
abbrev FnP (K : PySem.W.Frag) (x : Str) (st : Stmt) (f : Addr) (fd : FuncData) : Prop := FunD K x x (defArgs st) (defBody st) (defScope st) [] [] f fd
/-! ### the source of draws -/
/-- the numbers of a source are in order -/
structure SrcOk (p h m : Int) : Prop where
  p0 : 0 ≤ p
  h0 : 0 ≤ h
  m0 : 0 ≤ m
  m1 : m < 2147483647
def srcO (L : Addr) (p h m : Int) : HO := .lst [.ref L, .int p, .int h, .int m]
/-- at a a source stands, over the ints ns at L -/
structure SrcAt (H : Hp) (a L : Addr) (ns : List Int) (p h m : Int) : Prop where
  ok : SrcOk p h m
  at_ : H a = some (srcO L p h m)
  ls : H L = some (.lst (ns.map V.int))
  ne : L ≠ a
def Src (H : Hp) (a L : Addr) (ns : List Int) : Prop := ∃ p h m, SrcAt H a L ns p h m
/-- all that was tracked beside the source stands, and the source stands -/
structure Kp (a L : Addr) (ns : List Int) (H H' : Hp) : Prop where
  keep : ∀ b o, b ≠ a → H b = some o → H' b = some o
  src : Src H' a L ns
theorem Kp.refl {a L : Addr} {ns : List Int} {H : Hp} (s : Src H a L ns) : Kp a L ns H H := ⟨fun _ _ _ h => h, s⟩
theorem Kp.trans {a L : Addr} {ns : List Int} {H H1 H2 : Hp} (x : Kp a L ns H H1) (y : Kp a L ns H1 H2) : Kp a L ns H H2 := ⟨fun b o n h => y.keep b o n (x.keep b o n h), y.src⟩
theorem Src.ne {a L : Addr} {ns : List Int} {H : Hp} {p : Addr} (s : Src H a L ns) (h : H p = none) : a ≠ p := by
  obtain ⟨_, _, _, q⟩ := s
  exact ne_of_none q.at_ h
theorem Src.kept {a L : Addr} {ns : List Int} {H H' : Hp} (s : Src H a L ns) (k : ∀ b o, H b = some o → H' b = some o) : Src H' a L ns := by
  obtain ⟨p, h, m, q⟩ := s
  exact ⟨p, h, m, q.ok, k _ _ q.at_, k _ _ q.ls, q.ne⟩
theorem Kp.same {a L : Addr} {ns : List Int} {H H' : Hp} (s : Src H a L ns) (k : ∀ b o, H b = some o → H' b = some o) : Kp a L ns H H' := ⟨fun b o _ h => k b o h, s.kept k⟩
theorem same_newA {H : Hp} {p : Addr} {o : HO} (h : H p = none) : ∀ b u, H b = some u → upd H p o b = some u := fun b u e => by
  rw [upd_ne (ne_of_none e h)]
  exact e
theorem Kp.new {a L : Addr} {ns : List Int} {H : Hp} {p : Addr} {o : HO} (s : Src H a L ns) (h : H p = none) : Kp a L ns H (upd H p o) := Kp.same s (same_newA h)
theorem Kp.upd {a L : Addr} {ns : List Int} {H : Hp} {p h m p' h' m' : Int} (S : SrcAt H a L ns p h m) (ok : SrcOk p' h' m') : Kp a L ns H (upd H a (srcO L p' h' m')) :=
  ⟨fun b o n e => by rw [upd_ne n]; exact e, p', h', m', ok, upd_same, by rw [upd_ne S.ne]; exact S.ls, S.ne⟩
/-- a tuple stands -/
theorem Kp.tup {a L : Addr} {ns : List Int} {H H' : Hp} {t : Addr} {xs : List V} (s : Src H a L ns) (k : Kp a L ns H H') (h : H t = some (.tup xs)) : H' t = some (.tup xs) := by
  obtain ⟨p, hh, m, q⟩ := s
  exact k.keep t _ (ne_of h q.at_ (by intro z; cases z)) h
/-- the promise of _law_take: some number below many, and only the source has changed -/
def spTake : Sp := fun vs H Q _ => ∃ (a L : Addr) (ns : List Int) (many : Int), vs = [.ref a, .int many] ∧ Src H a L ns ∧ 0 < many ∧ many < 2 ^ 200 ∧
  ∀ (r : Int) (H' : Hp), 0 ≤ r → r < many → Kp a L ns H H' → Q (.int r) H'
structure TxtS (mg : Str → Option Value) : Prop where
  len : mg "len" = none
  int : mg "int" = none
  list : mg "list" = none
section
variable {P : Program} {w : World} {K : PySem.W.Frag} {mg : Str → Option Value} {base : Heap}
theorem scT : FnScope ["_law_source_here", "_law_many", "_law_cell", "_law_mixed", "_law_told"] ["_law_source_here", "_law_many"] (defScope s__law_take) :=
  ⟨rfl, rfl, rfl, by decide +kernel, rfl, by decide +kernel, by decide +kernel⟩
theorem at0 {a b c d : V} : atI [a, b, c, d] 0 = some a := rfl
theorem at1 {a b c d : V} : atI [a, b, c, d] 1 = some b := rfl
theorem at2 {a b c d : V} : atI [a, b, c, d] 2 = some c := rfl
theorem at3 {a b c d : V} : atI [a, b, c, d] 3 = some d := rfl
theorem atI_int {ns : List Int} {p : Int} (h0 : 0 ≤ p) (h1 : p < (ns.length : Int)) : ∃ z, atI (ns.map V.int) p = some (.int z) := by
  obtain ⟨j, rfl⟩ : ∃ j : Nat, p = (j : Int) := ⟨p.toNat, by omega⟩
  have hj : j < ns.length := by omega
  exact ⟨ns[j], atI_nat (by simp [List.getElem?_map, hj])⟩
theorem pow200 {x many : Int} (h0 : 0 < many) (h1 : many < 2 ^ 200) : CDivW x many := by
  refine wide_div (b := 200) h0 ?_ (by decide) (by decide)
  have e : ((2 : Int) ^ 200) = ((2 ^ 200 : Nat) : Int) := by norm_cast
  omega
theorem ok_take {f : Addr} {fd : FuncData} (F : FnP K "_law_take" s__law_take f fd) (T : TxtS mg) : FnOk P w K mg base CX0 1 f fd ["_law_source_here", "_law_many"] spTake := by
  refine ok0 F scT (fun vs H Q E h => ?_) (fun cdv A outer s H vs Q E hr h => ?_)
  · obtain ⟨a, L, ns, many, rfl, _⟩ := h
    rfl
  · obtain ⟨a, L, ns, many, rfl, ⟨p, hh, m, S⟩, hm0, hm1, k0⟩ := h
    have k : ∀ (r p' h' m' : Int), 0 ≤ r → r < many → SrcOk p' h' m' → Q (.int r) (upd H a (srcO L p' h' m')) := fun r p' h' m' r0 r1 ok => k0 r _ r0 r1 (Kp.upd S ok)
    have hA := S.at_
    have hL := S.ls
    have nLa := S.ne
    have hma := hm1
    refine ⟨_, C8.pss_cut (ps_if (pt_cmpR op_eq (pe_ix ix_list (pv 0) pe_int (fun _ _ => rfl)) pe_int (nomark _))
        (pss_cons (ps_set (i := 2) scT.nd rfl (Or.inl rfl) pe_int)
        (C8.pss_cut (ps_if (pt_cmpR op_lt (pe_ix ix_list (pv 0) pe_int (fun _ _ => rfl)) (pe_callB call_len_seq (by rfl) T.len PySem.boot_len (pa_cons (pe_ix ix_list (pv 0) pe_int (fun _ _ => rfl)) pa_nil)) (nomark _))
          (pss_one (ps_set (i := 2) scT.nd rfl (Or.inl rfl) (pe_ix ix_list (pe_ix ix_list (pv 0) pe_int (fun _ _ => rfl)) (pe_ix ix_list (pv 0) pe_int (fun _ _ => rfl)) (fun _ _ => rfl)))) pss_nil)
        (pss_cons (ps_asg (pe_op op_add (pe_ix ix_list (pv 0) pe_int (fun _ _ => rfl)) pe_int) (pg_sub (pv 0) pe_int set_list))
        (pss_one (ps_if (pt_cmpR op_ge (pv 2) (pe_op op_pow pe_int pe_int) (nomark _))
          (pss_one (ps_asg (pv 2) (pg_sub (pv 0) pe_int set_list)))
          (pss_cons (ps_set (i := 3) scT.nd rfl (Or.inl rfl) (pe_op op_mod (pe_callTy call_int1 (by rfl) T.int PyProof.Rows.boot_int (pa_cons (pe_op op_add (pe_op op_add (pe_op op_add (pe_op op_mul (pe_ix ix_list (pv 0) pe_int (fun _ _ => rfl)) pe_int) (pe_op op_mul (pe_op op_mod (pe_callTy call_int1 (by rfl) T.int PyProof.Rows.boot_int (pa_cons (pv 2) pa_nil)) pe_int) pe_int)) (pe_op op_mul (pe_ix ix_list (pv 0) pe_int (fun _ _ => rfl)) pe_int)) pe_int) pa_nil)) pe_int))
          (pss_cons (ps_set (i := 3) scT.nd rfl (Or.inl rfl) (pe_op op_mod (pe_callTy call_int1 (by rfl) T.int PyProof.Rows.boot_int (pa_cons (pe_op op_add (pe_op op_add (pe_op op_mul (pv 3) (pv 3)) (pe_op op_mul (pe_ix ix_list (pv 0) pe_int (fun _ _ => rfl)) pe_int)) pe_int) pa_nil)) pe_int))
          (pss_cons (ps_asg (pv 3) (pg_sub (pv 0) pe_int set_list))
          (pss_one (ps_ret (pe_op op_mod (pe_op op_fdiv (pv 3) pe_int) (pv 1))))))))))))
        pss_nil)
      (pss_cons (ps_set (i := 4) scT.nd rfl (Or.inl rfl) (pe_op op_mod (pe_callTy call_int1 (by rfl) T.int PyProof.Rows.boot_int (pa_cons (pe_ix ix_list (pv 0) pe_int (fun _ _ => rfl)) pa_nil)) (pv 1)))
      (pss_cons (ps_asg (pe_op op_fdivW (pe_ix ix_list (pv 0) pe_int (fun _ _ => rfl)) (pv 1)) (pg_sub (pv 0) pe_int set_list))
      (pss_one (ps_ret (pv 4))))), ?_⟩
    refine ⟨fun σ' H' => ∃ (σ2 σ3 σ4 : Option V) (p1 h1 m1 : Int), σ' = [some (.ref a), some (.int many), σ2, σ3, σ4] ∧ H' = upd H a (srcO L p1 h1 m1) ∧ SrcOk p1 h1 m1, ?_, ?_⟩
    · refine ⟨_, rfl, a, _, 2, _, rfl, rfl, SqL.of hA, rfl, rfl, _, rfl, ?_⟩
      refine ite2 (fun e0 => ?_) (fun e0 => ?_)
      · have h00 : hh = 0 := by simpa using e0
        refine ⟨fun σ' H' => ∃ c, σ' = [some (.ref a), some (.int many), some (.int c), none, none] ∧ H' = H, ?_, ?_⟩
        · refine ⟨_, rfl, a, _, 1, _, rfl, rfl, SqL.of hA, rfl, ?_⟩
          refine ⟨_, rfl, a, _, 0, _, rfl, rfl, SqL.of hA, rfl, L, _, rfl, .inl (SqL.of hL), _, _, rfl, rfl, _, rfl, ?_⟩
          refine ite2 (fun e1 => ?_) (fun e1 => ?_)
          · have hp : p < (ns.length : Int) := by
              have q := of_decide_eq_true e1
              rw [List.length_map] at q
              exact q
            obtain ⟨c, hc⟩ := atI_int S.ok.p0 hp
            exact ⟨_, rfl, a, _, 0, _, rfl, rfl, SqL.of hA, rfl, _, rfl, a, _, 1, _, rfl, rfl, SqL.of hA, rfl, L, _, p, _, rfl, rfl, SqL.of hL, hc, c, rfl, rfl⟩
          · exact ⟨0, rfl, rfl⟩
        · rintro σ' H' ⟨c, eσ, eH⟩
          rw [eσ, eH]
          refine ⟨_, rfl, a, _, 1, _, rfl, rfl, SqL.of hA, rfl, _, _, rfl, rfl, _, rfl, a, _, 1, 1, rfl, rfl, hA, rfl, ?_⟩
          have hB : upd H a (srcO L (p + 1) hh m) a = some (srcO L (p + 1) hh m) := upd_same
          refine ⟨_, rfl, _, _, rfl, rfl, ⟨by decide, by decide, by decide⟩, _, _, rfl, rfl, _, rfl, ?_⟩
          refine ite2 (fun e2 => ?_) (fun e2 => ?_)
          · have c18 : (10 : Int) ^ (18 : Nat) ≤ c := of_decide_eq_true e2
            refine ⟨_, rfl, _, rfl, a, _, 2, 2, rfl, rfl, hB, rfl, some (.int c), none, none, p + 1, c, m, rfl, ?_, ?_⟩
            · rw [upd_upd]
              rfl
            · exact ⟨by have := S.ok.p0; omega, by have : (0 : Int) ≤ 10 ^ (18 : Nat) := by decide
                                                   omega, S.ok.m0, S.ok.m1⟩
          · have bm : CMul m 69621 := .inr ⟨by decide, by decide⟩
            have bq : ∀ x : Int, CMul x 48271 := fun x => .inr ⟨by decide, by decide⟩
            have bp : ∀ x : Int, CMul x 7919 := fun x => .inr ⟨by decide, by decide⟩
            have bw : ∀ x : Int, CMul x 104729 := fun x => .inr ⟨by decide, by decide⟩
            -- mixed = int(..) % 2147483647
            refine ⟨_, rfl, a, _, 3, _, rfl, rfl, SqL.of hB, rfl, _, _, rfl, rfl, bm, ?_⟩
            refine ⟨_, rfl, .inl ⟨_, rfl, _, _, rfl, rfl, (by show (0 : Int) < 2147483629; decide), _, _, rfl, rfl, bq _, _, _, rfl, rfl, ?_⟩⟩
            refine ⟨_, rfl, a, _, 1, _, rfl, rfl, SqL.of hB, rfl, _, _, rfl, rfl, bp _, _, _, rfl, rfl, _, _, rfl, rfl, .inl ⟨_, rfl, _, _, rfl, rfl, (by show (0 : Int) < 2147483647; decide), ?_⟩⟩
            obtain ⟨x, hx⟩ : ∃ x, x = (m * 69621 + c % 2147483629 * 48271 + (p + 1) * 7919 + 1) % 2147483647 := ⟨_, rfl⟩
            have x0 : 0 ≤ x := by rw [hx]; exact Int.emod_nonneg _ (by decide)
            have x1 : x < 2147483647 := by rw [hx]; exact Int.emod_lt_of_pos _ (by decide)
            show tSeq _ _ _ [some (.ref a), some (.int many), some (.int c), some (.int ((m * 69621 + c % 2147483629 * 48271 + (p + 1) * 7919 + 1) % 2147483647)), none] _
            rw [← hx]
            refine ⟨_, rfl, _, rfl, _, _, rfl, rfl, .inl ⟨by omega, by omega⟩, ?_⟩
            refine ⟨_, rfl, a, _, 1, _, rfl, rfl, SqL.of hB, rfl, _, _, rfl, rfl, bw _, _, _, rfl, rfl, _, _, rfl, rfl, .inl ⟨_, rfl, _, _, rfl, rfl, (by show (0 : Int) < 2147483629; decide), ?_⟩⟩
            obtain ⟨y, hy⟩ : ∃ y, y = (x * x + (p + 1) * 104729 + 13) % 2147483629 := ⟨_, rfl⟩
            have y0 : 0 ≤ y := by rw [hy]; exact Int.emod_nonneg _ (by decide)
            have y1 : y < 2147483629 := by rw [hy]; exact Int.emod_lt_of_pos _ (by decide)
            show tSeq _ _ _ [some (.ref a), some (.int many), some (.int c), some (.int ((x * x + (p + 1) * 104729 + 13) % 2147483629)), none] _
            rw [← hy]
            refine ⟨_, rfl, _, rfl, a, _, 3, 3, rfl, rfl, hB, rfl, ?_⟩
            refine ⟨_, rfl, _, _, rfl, rfl, ⟨by decide, by decide⟩, _, rfl, _, _, rfl, rfl, hm0, ?_⟩
            rw [upd_upd]
            exact k _ (p + 1) hh y (Int.emod_nonneg _ (by omega)) (Int.emod_lt_of_pos _ hm0) ⟨by have := S.ok.p0; omega, S.ok.h0, y0, by omega⟩
      · refine ⟨none, none, none, p, hh, m, rfl, ?_, S.ok⟩
        funext b
        by_cases hb : b = a
        · rw [hb, upd_same, hA]
        · rw [upd_ne hb]
    · rintro σ' H' ⟨σ2, σ3, σ4, p1, h1, m1, eσ, eH, ok⟩
      rw [eσ, eH]
      have hA' : upd H a (srcO L p1 h1 m1) a = some (srcO L p1 h1 m1) := upd_same
      refine ⟨_, rfl, a, _, 2, _, rfl, rfl, SqL.of hA', rfl, .inl ⟨_, rfl, _, rfl, _, _, rfl, rfl, hm0, ?_⟩⟩
      refine ⟨_, rfl, a, _, 2, _, rfl, rfl, SqL.of hA', rfl, _, rfl, _, _, rfl, rfl, pow200 (x := h1) hm0 hm1, _, rfl, ?_⟩
      refine ⟨a, _, 2, 2, rfl, rfl, hA', rfl, ?_⟩
      refine ⟨_, rfl, ?_⟩
      rw [upd_upd]
      exact k _ _ _ _ (Int.emod_nonneg _ (by omega)) (Int.emod_lt_of_pos _ hm0) ⟨ok.p0, Int.ediv_nonneg ok.h0 (by omega), ok.m0, ok.m1⟩
/-! ### _law_source -/
def spSource (K : PySem.W.Frag) : Sp := fun vs H Q _ => ∃ (a : Addr) (ns : List Int), vs = [.ref a] ∧ SqL K H a (ns.map V.int) ∧ ∀ (p L : Addr) (H' : Hp), Same H H' → H p = none → Src H' p L ns → Q (.ref p) H'
theorem scSo : FnScope ["_law_script"] ["_law_script"] (defScope s__law_source) := ⟨rfl, rfl, rfl, by decide +kernel, rfl, by decide +kernel, by decide +kernel⟩
theorem ok_source {f : Addr} {fd : FuncData} (F : FnP K "_law_source" s__law_source f fd) (T : TxtS mg) : FnOk P w K mg base CX0 1 f fd ["_law_script"] (spSource K) := by
  refine ok0 F scSo (fun vs H Q E h => ?_) (fun cdv A outer s H vs Q E hr h => ?_)
  · obtain ⟨a, ns, rfl, _⟩ := h
    rfl
  · obtain ⟨a, ns, rfl, hS, k⟩ := h
    refine ⟨_, pss_one (ps_ret (pe_lst (pa_cons (pe_callTy call_list_of (by rfl) T.list (by decide +kernel) (pa_cons (pv 0) pa_nil)) (pa_cons pe_int (pa_cons pe_int (pa_cons pe_int pa_nil)))))), ?_⟩
    refine ⟨_, rfl, a, _, rfl, .inl hS, fun l hl => ⟨(by show 4 ≤ sizeLine; decide), fun p hp => ?_⟩⟩
    have nlp : l ≠ p := fun z => by
      rw [z, upd_same] at hp
      cases hp
    have hp0 : H p = none := by
      rw [upd_ne (Ne.symm nlp)] at hp
      exact hp
    refine k p l _ (fun b o e => ?_) hp0 ⟨0, 0, 1, ⟨by decide, by decide, by decide, by decide⟩, upd_same, ?_, nlp⟩
    · rw [upd_ne (ne_of_none e hp0), upd_ne (ne_of_none e hl)]
      exact e
    · rw [upd_ne nlp, upd_same]
end
end My
set_option maxHeartbeats 4000000
namespace My
open PySem PySem.Spec PyProof.Rows L2 Lcn Sq
/-! ### draws: the source alone changes -/
abbrev Fs (a L : Addr) (ns : List Int) : Hp → Hp → Prop := Sq.Fr (fun b => b = a) (fun H => Src H a L ns)
section
variable {K : PySem.W.Frag} {a L : Addr} {ns : List Int} {H H' : Hp}
theorem gdS : Gd (fun b => b = a ∨ b = L) (fun b => b = a) (fun H => Src H a L ns) := by
  refine ⟨fun H H' k s => ?_, fun H b s h => ?_, fun b h => .inl h⟩
  · obtain ⟨p, h, m, q⟩ := s
    exact ⟨p, h, m, q.ok, k _ _ (.inl rfl) q.at_, k _ _ (.inr rfl) q.ls, q.ne⟩
  · obtain ⟨p, hh, m, q⟩ := s
    rcases h with rfl | rfl
    · exact ⟨_, q.at_⟩
    · exact ⟨_, q.ls⟩
theorem fs_kp (s : Src H a L ns) (k : Kp a L ns H H') : Fs a L ns H H' := by
  refine ⟨k.keep, fun b o no h => k.keep b o (fun z => ?_) h, fun _ => k.src⟩
  obtain ⟨p, hh, m, q⟩ := s
  rw [z, q.at_] at h
  cases h
  cases no
theorem fs_same (e : Same H H') : Fs a L ns H H' := Sq.Fr.of gdS e
/-- what a comprehension gave: ints -/
theorem got_ints {D : Addr} {n : Nat} {P : Int → Prop} (h : Got D n (fun _ _ y => ∃ z, y = .int z ∧ P z) H) : ∃ zs : List Int, H D = some (.lst (zs.map V.int)) ∧ zs.length = n ∧ ∀ z ∈ zs, P z := by
  obtain ⟨ys, h1, h2, h3⟩ := h
  have : ∀ ys : List V, (∀ y ∈ ys, ∃ z, y = V.int z ∧ P z) → ∃ zs : List Int, ys = zs.map V.int ∧ zs.length = ys.length ∧ ∀ z ∈ zs, P z := by
    intro ys
    induction ys with
    | nil => exact fun _ => ⟨[], rfl, rfl, by simp⟩
    | cons y r ih =>
      intro h
      obtain ⟨z, rfl, pz⟩ := h y (List.mem_cons_self ..)
      obtain ⟨zs, e, l, p⟩ := ih fun x hx => h x (List.mem_cons_of_mem _ hx)
      refine ⟨z :: zs, by rw [e]; rfl, by rw [List.length_cons, List.length_cons, l], fun x hx => ?_⟩
      rcases List.mem_cons.mp hx with rfl | hx
      · exact pz
      · exact p x hx
  obtain ⟨zs, e, l, p⟩ := this ys fun y hy => by
    obtain ⟨i, hi⟩ := List.mem_iff_getElem?.mp hy
    exact h3 i y hi
  exact ⟨zs, by rw [h1, e], by omega, p⟩
/-- what a comprehension gave: of each one a thing -/
theorem got_pick {α : Type} {D : Addr} {n : Nat} {S : Hp → V → α → Prop} {P : α → Prop} (h : Got D n (fun H _ y => ∃ z, S H y z ∧ P z) H) : ∃ zs : List α, zs.length = n ∧ (∀ z ∈ zs, P z) ∧ Got D zs.length (fun H i y => ∀ z, zs[i]? = some z → S H y z) H := by
  obtain ⟨ys, h1, h2, h3⟩ := h
  have : ∀ ys : List V, (∀ y ∈ ys, ∃ z, S H y z ∧ P z) → ∃ zs : List α, zs.length = ys.length ∧ (∀ z ∈ zs, P z) ∧ ∀ (i : Nat) (y : V) (z : α), ys[i]? = some y → zs[i]? = some z → S H y z := by
    intro ys
    induction ys with
    | nil => exact fun _ => ⟨[], rfl, by simp, by simp⟩
    | cons y r ih =>
      intro h
      obtain ⟨z, sz, pz⟩ := h y (List.mem_cons_self ..)
      obtain ⟨zs, l, p, q⟩ := ih fun x hx => h x (List.mem_cons_of_mem _ hx)
      refine ⟨z :: zs, by rw [List.length_cons, List.length_cons, l], fun x hx => ?_, fun i x t hx ht => ?_⟩
      · rcases List.mem_cons.mp hx with rfl | hx
        · exact pz
        · exact p x hx
      · cases i with
        | zero =>
          cases hx
          cases ht
          exact sz
        | succ j => exact q j x t hx ht
  obtain ⟨zs, l, p, q⟩ := this ys fun y hy => by
    obtain ⟨i, hi⟩ := List.mem_iff_getElem?.mp hy
    exact h3 i y hi
  exact ⟨zs, by omega, p, ys, h1, by omega, fun i y hy z hz => q i y z hy hz⟩
end
section
variable {K : PySem.W.Frag} {a L : Addr} {ns : List Int} {H H' : Hp}
theorem fs_upd (s : Src H a L ns) (e : Fs a L ns H H') {D : Addr} {o : HO} (h : H D = none) : Fs a L ns H (upd H' D o) := by
  have nA := gdS.nA s h
  refine ⟨fun b u nm x => ?_, fun b u no x => ?_, fun g => gdS.out nA (e.on g)⟩
  · rw [upd_ne (ne_of_none x h)]
    exact e.keep b u nm x
  · rw [upd_ne (ne_of_none x h)]
    exact e.kt b u no x
/-- a list at p of things zs -/
def LstR {α : Type} (K : PySem.W.Frag) (R : Hp → V → α → Prop) (H : Hp) (p : Addr) (zs : List α) : Prop := ∃ xs, H p = some (.lst xs) ∧ xs.length = zs.length ∧ ∀ (i : Nat) (x : V) (z : α), xs[i]? = some x → zs[i]? = some z → R H x z
theorem lst_nil {α : Type} {R : Hp → V → α → Prop} {p : Addr} : LstR K R (upd H p (.lst [])) p [] := ⟨[], upd_same, rfl, by simp⟩
theorem lst_snoc {α : Type} {R : Hp → V → α → Prop} (m : ∀ H H' v z, KT H H' → R H v z → R H' v z) {p : Addr} {zs : List α} {xs : List V} {y : V} {z : α} (h : H p = some (.lst xs)) (l : xs.length = zs.length) (f : ∀ (i : Nat) (x : V) (z : α), xs[i]? = some x → zs[i]? = some z → R H x z) (hy : R H y z) : LstR K R (upd H p (.lst (xs ++ [y]))) p (zs ++ [z]) := by
  have k : KT H (upd H p (.lst (xs ++ [y]))) := KT.lst h
  refine ⟨xs ++ [y], upd_same, by simp [l], fun i x t hx ht => ?_⟩
  rcases Nat.lt_or_ge i xs.length with lt | ge
  · rw [List.getElem?_append_left lt] at hx
    rw [List.getElem?_append_left (by omega)] at ht
    exact m _ _ _ _ k (f i x t hx ht)
  · rw [List.getElem?_append_right ge] at hx
    rw [List.getElem?_append_right (by omega)] at ht
    rw [← l] at ht
    cases e : i - xs.length with
    | zero =>
      rw [e] at hx ht
      cases hx
      cases ht
      exact m _ _ _ _ k hy
    | succ j =>
      rw [e] at hx
      cases hx
theorem LstR.fs {α : Type} {R : Hp → V → α → Prop} (m : ∀ H H' v z, KT H H' → R H v z → R H' v z) {p : Addr} {zs : List α} (e : Fs a L ns H H') (np : p ≠ a) (h : LstR K R H p zs) : LstR K R H' p zs := by
  obtain ⟨xs, h1, h2, h3⟩ := h
  exact ⟨xs, e.keep _ _ np h1, h2, fun i x z hx hz => m _ _ _ _ e.kt (h3 i x z hx hz)⟩
theorem LstR.same {α : Type} {R : Hp → V → α → Prop} (m : ∀ H H' v z, KT H H' → R H v z → R H' v z) {p : Addr} {zs : List α} (e : Same H H') (h : LstR K R H p zs) : LstR K R H' p zs := by
  obtain ⟨xs, h1, h2, h3⟩ := h
  exact ⟨xs, e _ _ h1, h2, fun i x z hx hz => m _ _ _ _ (KT.of e) (h3 i x z hx hz)⟩
theorem kI : ∀ (H H' : Hp) (v : V) (z : List Int), KT H H' → IntsT K H v z → IntsT K H' v z := fun _ _ _ _ k h => h.kt k
theorem kE : ∀ (H H' : Hp) (v : V) (z : Int × List Int), KT H H' → EndT K H v z → EndT K H' v z := fun _ _ _ _ k h => h.kt k
theorem kR : ∀ (H H' : Hp) (v : V) (z : List Int × List Int), KT H H' → RowT K H v z → RowT K H' v z := fun _ _ _ _ k h => h.kt k
end
def sp__law_take : Sp := fun vs H Q _ => ∃ (a L : Addr) (ns : List Int) (many : Int), vs = [.ref a, .int many] ∧ Src H a L ns ∧ 0 < many ∧ many < 2 ^ 200 ∧ ∀ (r : Int) (H' : Hp), InR many r → Fs a L ns H H' → Q (.int r) H'
section
variable {P : Program} {w : World} {K : PySem.W.Frag} {mg : Str → Option Value} {base : Heap}
theorem ok__law_take (D__law_take : Dn K mg "_law_take" s__law_take ["_law_source_here", "_law_many"]) (T : TxtS mg) : FnOk P w K mg base CX0 1 D__law_take.f D__law_take.fd ["_law_source_here", "_law_many"] sp__law_take :=
  (ok_take D__law_take.F T).imp fun vs H Q E h => by
    obtain ⟨a, L, ns, many, e, s, h0, h1, k⟩ := h
    exact ⟨a, L, ns, many, e, s, h0, h1, fun r H' r0 r1 kp => k r H' ⟨r0, r1⟩ (fs_kp s kp)⟩
end
theorem m200 {n : Int} (h : n < 1000) : n < 2 ^ 200 := Int.lt_trans h (by decide)
theorem m62 {n : Int} (h : n < 1000) : n < 2 ^ 62 := Int.lt_trans h (by decide)
theorem mlo {n : Int} (h : 0 ≤ n) : -(2 ^ 62) ≤ n := Int.le_trans (by decide) h
theorem tnz {n : Int} (h : n < 1000) : n.toNat < sizeLine := k1000 (by omega)
theorem ints_inj {K : PySem.W.Frag} {X : Cx} : True := trivial
theorem at_int {ns : List Int} {i n : Int} (h : InR n i) (hl : (ns.length : Int) = n) : ∃ z, ns[i.toNat]? = some z ∧ atI (ns.map V.int) i = some (.int z) := by
  obtain ⟨h0, h1⟩ := h
  obtain ⟨j, rfl⟩ : ∃ j : Nat, i = (j : Int) := ⟨i.toNat, by omega⟩
  have hj : j < ns.length := by omega
  exact ⟨ns[j], by simp [hj], atI_nat (by simp [List.getElem?_map, hj])⟩
theorem at_seq {α : Type} {K : PySem.W.Frag} {R : Hp → V → α → Prop} {H : Hp} {v : V} {zs : List α} {i n : Int} (s : SeqT K R H v zs) (h : InR n i) (hl : (zs.length : Int) = n) : ∃ a xs x z, v = .ref a ∧ SqT K H a xs ∧ atI xs i = some x ∧ zs[i.toNat]? = some z ∧ R H x z := by
  obtain ⟨h0, h1⟩ := h
  obtain ⟨j, rfl⟩ : ∃ j : Nat, i = (j : Int) := ⟨i.toNat, by omega⟩
  obtain ⟨a, xs, rfl, hs, l, f⟩ := s
  have hj : j < xs.length := by omega
  have hj2 : j < zs.length := by omega
  exact ⟨a, xs, xs[j], zs[j], rfl, hs, atI_nat (by simp [hj]), by simp [hj2], f j _ _ (by simp [hj]) (by simp [hj2])⟩
theorem snoc_int {ds : List Int} {z : Int} : ds.map V.int ++ [V.int z] = (ds ++ [z]).map V.int := by simp
def RD (n m : Int) (z : List Int) : Prop := (z.length : Int) = m ∧ ∀ i ∈ z, InR n i
/-- a side: not empty, of signs that stand -/
def SdOk (l u : Int) (m : Nat) (ss : List Int) : Prop := 0 < ss.length ∧ ss.length ≤ m ∧ ∀ s ∈ ss, Stands l u s ∧ -1000 < s
def sp__law_side (K : PySem.W.Frag) : Sp := fun vs H Q _ => ∃ (a L : Addr) (ns : List Int) (l u : Int) (m : Nat), vs = [.ref a, .int l, .int u, .int m] ∧ Src H a L ns ∧ 0 < l ∧ l < 500 ∧ 0 < u ∧ u < 500 ∧ 0 < m ∧ m < 500 ∧
  ∀ (v : V) (H' : Hp) (ss : List Int), Fs a L ns H H' → IntsT K H' v ss → SdOk l u m ss → Q v H'
def sp__law_lots (K : PySem.W.Frag) : Sp := fun vs H Q _ => ∃ (a L : Addr) (ns : List Int) (mv : V) (n m k : Int) (zs : List (List Int)), vs = [.ref a, mv, .int k] ∧ Src H a L ns ∧ SeqT K (IntsT K) H mv zs ∧ (zs.length : Int) = n ∧ 0 < n ∧ n < 1000 ∧ 0 < m ∧ m < 1000 ∧ (∀ z ∈ zs, RD n m z) ∧ 0 ≤ k ∧ k < 1000 ∧
  ∀ (p : Addr) (H' : Hp) (ds : List (List Int)), Fs a L ns H H' → H p = none → LstR K (IntsT K) H' p ds → (ds.length : Int) = k → (∀ d ∈ ds, RD n n d) → Q (.ref p) H'
def EnOk (n : Int) (e : Int × List Int) : Prop := InR n e.1 ∧ (e.2.length : Int) ≤ n ∧ (∀ i ∈ e.2, InR n i) ∧ Asc e.2
def sp__law_end_states (K : PySem.W.Frag) : Sp := fun vs H Q _ => ∃ (a L : Addr) (ns : List Int) (n : Int), vs = [.ref a, .int n] ∧ Src H a L ns ∧ 0 < n ∧ n < 1000 ∧ ∀ (v : V) (H' : Hp) (e : Int × List Int), Fs a L ns H H' → EndT K H' v e → EnOk n e → Q v H'
def sp__law_moves (K : PySem.W.Frag) : Sp := fun vs H Q _ => ∃ (a L : Addr) (ns : List Int) (n m : Int), vs = [.ref a, .int n, .int m] ∧ Src H a L ns ∧ 0 < n ∧ n < 1000 ∧ 0 ≤ m ∧ m < 1000 ∧
  ∀ (v : V) (H' : Hp) (zs : List (List Int)), Fs a L ns H H' → SeqT K (IntsT K) H' v zs → (zs.length : Int) = n → (∀ z ∈ zs, RD n m z) → Q v H'
def sp__law_deed (K : PySem.W.Frag) : Sp := fun vs H Q _ => ∃ (mv pl : V) (n m : Int) (zs : List (List Int)) (ps : List Int), vs = [mv, pl] ∧ SeqT K (IntsT K) H mv zs ∧ (zs.length : Int) = n ∧ n < 1000 ∧ (∀ z ∈ zs, RD n m z) ∧ IntsS K H pl ps ∧ (∀ p ∈ ps, InR m p) ∧
  ∀ (v : V) (H' : Hp) (ds : List Int), Same H H' → IntsT K H' v ds → RD n n ds → Q v H'
theorem sc__law_moves : FnScope ["_law_source_here", "_law_states", "_law_letters", "_law_s", "_law_j"] ["_law_source_here", "_law_states", "_law_letters"] (defScope s__law_moves) := ⟨rfl, rfl, rfl, by decide +kernel, rfl, by decide +kernel, by decide +kernel⟩
section
variable {P : Program} {w : World} {K : PySem.W.Frag} {mg : Str → Option Value} {base : Heap}
theorem ok__law_moves (D__law_moves : Dn K mg "_law_moves" s__law_moves ["_law_source_here", "_law_states", "_law_letters"]) (D__law_take : Dn K mg "_law_take" s__law_take ["_law_source_here", "_law_many"]) (G__law_take : FnOk P w K mg base CX0 1 D__law_take.f D__law_take.fd ["_law_source_here", "_law_many"] (sp__law_take)) (T : TB mg) : FnOk P w K mg base CX0 2 D__law_moves.f D__law_moves.fd ["_law_source_here", "_law_states", "_law_letters"] (sp__law_moves K) := by
  refine ok0 D__law_moves.F sc__law_moves (fun vs H Q E h => ?_) (fun cdv A outer s H vs Q E hr h => ?_)
  · obtain ⟨a, L, ns, n, m, rfl, S, n0, n1, m0, m1, k⟩ := h
    rfl
  · obtain ⟨a, L, ns, n, m, rfl, S, n0, n1, m0, m1, k⟩ := h
    refine ⟨_, (pss_one (ps_ret (pe_callTy call_tupR (by rfl) T.tuple_ (by decide +kernel) (pa_cons (pe_lc (own := [(("_law_s" : Str), 3)]) rfl sc__law_moves.nd (pi_range1 (by rfl) T.range (pa_cons (pv 1) pa_nil)) (blkOk_by (own := [(("_law_s" : Str), 3)]) (N := ["_law_source_here", "_law_states", "_law_letters", "_law_s", "_law_j"]) (sc := defScope s__law_moves) (by decide +kernel)) (fun _ _ _ _ _ => (pg_name (i := 3) sc__law_moves.nd rfl (Or.inl rfl))) (fun _ _ _ _ _ => pts_nil) (fun _ _ _ _ _ => (pe_callTy (call_tupRK (K := K) rfl) (by rfl) T.tuple_ (by decide +kernel) (pa_cons (pe_lc (own := [(("_law_j" : Str), 4)]) rfl sc__law_moves.nd (pi_range1 (by rfl) T.range (pa_cons (pv 2) pa_nil)) (blkOk_by (own := [(("_law_j" : Str), 4)]) (by kernel_rfl)) (fun _ _ _ _ _ => (pg_name (i := 4) sc__law_moves.nd rfl (Or.inl rfl))) (fun _ _ _ _ _ => pts_nil) (fun _ _ _ _ _ => (pe_call G__law_take (hr.mono (by decide)) (by rfl) D__law_take.m D__law_take.F.kp D__law_take.b .nil pass0 (pa_cons (pv 0) (pa_cons (pv 1) pa_nil))))) pa_nil)))) pa_nil)))), ?_⟩
    refine ⟨_, rfl, n, rfl, mlo (by omega), m62 n1, fun D hD => ?_⟩
    refine lc_fr (R := fun H _ y => ∃ z, IntsT K H y z ∧ RD n m z) walk_at_range (tnz n1) (fun _ _ _ _ k ⟨z, h, p⟩ => ⟨z, h.kt k, p⟩) gdS hD S (fun _ _ => trivial) (fun i x H' Q' hi hx e q => ?_) (fun H' e got => ?_)
    · refine ⟨rfl, _, rfl, m, rfl, mlo m0, m62 m1, fun D2 hD2 => ?_⟩
      refine lc_fr (R := fun _ _ y => ∃ z, y = .int z ∧ InR n z) walk_at_range (tnz m1) (fun _ _ _ _ _ h => h) gdS hD2 (e.on S) (fun _ _ => trivial) (fun j x2 H2 Q2 hj hx2 e2 q2 => ?_) (fun H2 e2 got2 => ?_)
      · exact ⟨rfl, _, rfl, _, rfl, a, L, ns, n, rfl, e2.on (e.on S), n0, m200 n1, fun r H3 hr e3 => q2 _ _ e3 ⟨r, rfl, hr⟩⟩
      · obtain ⟨zs, h1, h2, h3⟩ := got_ints got2
        refine rd_tup (.inl (SqL.of h1)) fun b H3 s3 t3 => q _ _ (e2.trans (fs_same s3)) ⟨zs, ⟨b, rfl, t3⟩, by omega, h3⟩
    · obtain ⟨zs, h1, h2, got⟩ := got_pick (S := fun H y z => IntsT K H y z) (P := RD n m) got
      exact rd_got (fun _ _ _ _ k h => h.kt k) got fun v H3 s3 t3 => k v H3 zs (e.trans (fs_same s3)) t3 (by omega) h2
end
theorem sc__law_deed : FnScope ["_law_moves_here", "_law_places", "_law_told", "_law_state", "_law_at", "_law_place"] ["_law_moves_here", "_law_places"] (defScope s__law_deed) := ⟨rfl, rfl, rfl, by decide +kernel, rfl, by decide +kernel, by decide +kernel⟩
section
variable {P : Program} {w : World} {K : PySem.W.Frag} {mg : Str → Option Value} {base : Heap}
theorem ok__law_deed (D__law_deed : Dn K mg "_law_deed" s__law_deed ["_law_moves_here", "_law_places"]) (T : TB mg) : FnOk P w K mg base CX0 1 D__law_deed.f D__law_deed.fd ["_law_moves_here", "_law_places"] (sp__law_deed K) := by
  refine ok0 D__law_deed.F sc__law_deed (fun vs H Q E h => ?_) (fun cdv A outer s H vs Q E hr h => ?_)
  · obtain ⟨mv, pl, n, m, zs, ps, rfl, hm, hl, hn, hz, hp, hpr, k⟩ := h
    rfl
  · obtain ⟨mv, pl, n, m, zs, ps, rfl, hm, hl, hn, hz, hp, hpr, k⟩ := h
    refine ⟨_, (pss_cons (ps_set (i := 2) sc__law_deed.nd rfl (by first | exact Or.inl rfl | exact Or.inr rfl) (pe_lst pa_nil))
  (pss_cons (ps_for PassesOwn.never rfl (pi_range1 (by rfl) T.range (pa_cons (pe_callB call_len_seq (by rfl) T.len PySem.boot_len (pa_cons (pv 0) pa_nil)) pa_nil)) (pg_name (i := 3) sc__law_deed.nd rfl (by first | exact Or.inl rfl | exact Or.inr rfl)) (pss_cons (ps_set (i := 4) sc__law_deed.nd rfl (by first | exact Or.inl rfl | exact Or.inr rfl) (pv 3))
  (pss_cons (ps_for PassesOwn.never rfl (pi_seq (pv 1)) (pg_name (i := 5) sc__law_deed.nd rfl (by first | exact Or.inl rfl | exact Or.inr rfl)) (pss_one (ps_set (i := 4) sc__law_deed.nd rfl (by first | exact Or.inl rfl | exact Or.inr rfl) (pe_ix ix_tup (pe_ix ix_tup (pv 0) (pv 4) (fun _ _ => rfl)) (pv 5) (fun _ _ => rfl)))))
  (pss_one (ps_expr (pe_bm PySem.F.plainAttrs_list PySem.F.slot_list_append PySem.F.type_list_append mt_append (pv 2) (pa_cons (pv 4) pa_nil)))))))
  (pss_one (ps_ret (pe_callTy call_tupR (by rfl) T.tuple_ (by decide +kernel) (pa_cons (pv 2) pa_nil)))))), ?_⟩
    obtain ⟨aM, xs, eM, hs, lxs, fxs⟩ := hm
    obtain ⟨aP, eP, hsP⟩ := hp
    have hm : SeqT K (IntsT K) H mv zs := ⟨aM, xs, eM, hs, lxs, fxs⟩
    refine ⟨(by show 0 ≤ sizeLine; decide), fun D hD => ?_⟩
    have sD : Same H (upd H D (.lst [])) := same_new hD
    refine ⟨_, rfl, aM, xs, eM ▸ rfl, .inr (SqT.same sD hs), _, rfl, mlo (by omega), m62 (by omega), ?_⟩
    refine for_it walk_at_range (fun i σ H' => ∃ o3 o4 o5 : Option V, σ = [some mv, some pl, some (.ref D), o3, o4, o5] ∧ Same H H' ∧ ∃ ds : List Int, H' D = some (.lst (ds.map V.int)) ∧ ds.length = i ∧ ∀ z ∈ ds, InR n z) ⟨_, _, _, rfl, sD, [], upd_same, rfl, by simp⟩ (fun _ _ _ _ _ => trivial) (fun i x σ H' H2 hi p y => ?_) (fun σ H' p => ?_)
    · obtain ⟨rfl, rfl⟩ := y
      obtain ⟨o3, o4, o5, rfl, s1, ds, d1, d2, d3⟩ := p
      refine ⟨_, rfl, ?_⟩
      have hi2 : InR n (0 + (i : Int)) := ⟨by omega, by omega⟩
      refine seq_rd s1 (fun _ q => ⟨pl, rfl, eP ▸ q⟩) hsP fun J Gw w gw => ?_
      refine for_it w (fun j σ H'' => ∃ (o5 : Option V) (t : Int), σ = [some mv, some pl, some (.ref D), some (.int (0 + (i : Int))), some (.int t), o5] ∧ H'' = H2 ∧ InR n t) ⟨_, _, rfl, rfl, hi2⟩ (fun _ σ H'' _ p => gw H'' fun o h => by
        obtain ⟨_, _, _, rfl, _⟩ := p
        exact s1 _ o h) (fun j x σ H3 H4 hj p y => ?_) (fun σ H3 p => ?_)
      · obtain ⟨rfl, hx⟩ := y
        obtain ⟨o5, t, rfl, rfl, ht⟩ := p
        obtain ⟨pp, hpp, rfl⟩ := map_at hx
        obtain ⟨a1, ys, x1, z, e1, q1, q2, q3, a2, rfl, q4⟩ := at_seq (hm.kt (fun _ _ h => h.kt (KT.of s1)) (KT.of s1)) ht hl
        obtain ⟨r1, r2⟩ := hz z (List.mem_of_getElem? q3)
        obtain ⟨u, u1, u2⟩ := at_int (hpr pp (List.mem_of_getElem? hpp)) r1
        refine ⟨_, rfl, _, rfl, a1, ys, t, _, e1, rfl, q1, q2, _, rfl, a2, _, pp, _, rfl, rfl, q4, u2, ?_⟩
        exact ⟨_, u, rfl, rfl, r2 u (List.mem_of_getElem? u1)⟩
      · obtain ⟨o5, t, rfl, rfl, ht⟩ := p
        refine ⟨_, rfl, .inl ⟨rfl, _, SqL.of d1⟩, _, rfl, D, _, _, rfl, rfl, d1, by rw [List.length_map]; exact k1000 (by omega), ?_⟩
        rw [snoc_int]
        refine ⟨_, _, _, rfl, same_upd s1 hD, ds ++ [t], upd_same, by rw [List.length_append, d2]; rfl, fun z hz => ?_⟩
        rcases List.mem_append.mp hz with h | h
        · exact d3 z h
        · rw [List.mem_singleton.mp h]
          exact ht
    · obtain ⟨o3, o4, o5, rfl, s1, ds, d1, d2, d3⟩ := p
      refine ⟨_, rfl, rd_tup (.inl (SqL.of d1)) fun b H3 s3 t3 => k _ _ ds (s1.trans s3) ⟨b, rfl, t3⟩ ⟨by omega, d3⟩⟩
end
theorem sc__law_side : FnScope ["_law_source_here", "_law_letters", "_law_unknowns", "_law_most", "_law_told", "_law_k"] ["_law_source_here", "_law_letters", "_law_unknowns", "_law_most"] (defScope s__law_side) := ⟨rfl, rfl, rfl, by decide +kernel, rfl, by decide +kernel, by decide +kernel⟩
section
variable {P : Program} {w : World} {K : PySem.W.Frag} {mg : Str → Option Value} {base : Heap}
theorem ok__law_side (D__law_side : Dn K mg "_law_side" s__law_side ["_law_source_here", "_law_letters", "_law_unknowns", "_law_most"]) (D__law_take : Dn K mg "_law_take" s__law_take ["_law_source_here", "_law_many"]) (G__law_take : FnOk P w K mg base CX0 1 D__law_take.f D__law_take.fd ["_law_source_here", "_law_many"] (sp__law_take)) (T : TB mg) : FnOk P w K mg base CX0 2 D__law_side.f D__law_side.fd ["_law_source_here", "_law_letters", "_law_unknowns", "_law_most"] (sp__law_side K) := by
  refine ok0 D__law_side.F sc__law_side (fun vs H Q E h => ?_) (fun cdv A outer s H vs Q E hr h => ?_)
  · obtain ⟨a, L, ns, l, u, m, rfl, S, l0, l1, u0, u1, m0, m1, k⟩ := h
    rfl
  · obtain ⟨a, L, ns, l, u, m, rfl, S, l0, l1, u0, u1, m0, m1, k⟩ := h
    refine ⟨_, (pss_cons (ps_set (i := 4) sc__law_side.nd rfl (by first | exact Or.inl rfl | exact Or.inr rfl) (pe_lst pa_nil))
  (pss_cons (ps_for PassesOwn.never rfl (pi_range1 (by rfl) T.range (pa_cons (pe_op op_add pe_int (pe_call G__law_take (hr.mono (by decide)) (by rfl) D__law_take.m D__law_take.F.kp D__law_take.b .nil pass0 (pa_cons (pv 0) (pa_cons (pv 3) pa_nil)))) pa_nil)) (pg_name (i := 5) sc__law_side.nd rfl (by first | exact Or.inl rfl | exact Or.inr rfl)) (pss_one (ps_if (pt_cmpR op_eq (pe_call G__law_take (hr.mono (by decide)) (by rfl) D__law_take.m D__law_take.F.kp D__law_take.b .nil pass0 (pa_cons (pv 0) (pa_cons pe_int pa_nil))) pe_int (nomark _)) (pss_one (ps_expr (pe_bm PySem.F.plainAttrs_list PySem.F.slot_list_append PySem.F.type_list_append mt_append (pv 4) (pa_cons (pe_op op_sub (pe_un un_neg pe_int) (pe_call G__law_take (hr.mono (by decide)) (by rfl) D__law_take.m D__law_take.F.kp D__law_take.b .nil pass0 (pa_cons (pv 0) (pa_cons (pv 2) pa_nil)))) pa_nil)))) (pss_one (ps_expr (pe_bm PySem.F.plainAttrs_list PySem.F.slot_list_append PySem.F.type_list_append mt_append (pv 4) (pa_cons (pe_call G__law_take (hr.mono (by decide)) (by rfl) D__law_take.m D__law_take.F.kp D__law_take.b .nil pass0 (pa_cons (pv 0) (pa_cons (pv 1) pa_nil))) pa_nil)))))))
  (pss_one (ps_ret (pe_callTy call_tupR (by rfl) T.tuple_ (by decide +kernel) (pa_cons (pv 4) pa_nil)))))), ?_⟩
    refine ⟨(by show 0 ≤ sizeLine; decide), fun D hD => ?_⟩
    have nD : D ≠ a := Ne.symm (S.ne hD)
    have eD : Fs a L ns H (upd H D (.lst [])) := fs_same (same_new hD)
    refine ⟨_, rfl, _, rfl, a, L, ns, _, rfl, eD.on S, by omega, m200 (by omega), fun r H1 hr e1 => ?_⟩
    obtain ⟨r0, r1⟩ := hr
    refine ⟨_, _, rfl, rfl, _, rfl, mlo (by omega), m62 (by omega), ?_⟩
    refine for_it walk_at_range (fun i σ H' => ∃ o5 : Option V, σ = [some (.ref a), some (.int l), some (.int u), some (.int m), some (.ref D), o5] ∧ Fs a L ns H H' ∧ ∃ ds : List Int, H' D = some (.lst (ds.map V.int)) ∧ ds.length = i ∧ ∀ s ∈ ds, Stands l u s ∧ -1000 < s) ⟨_, rfl, eD.trans e1, [], e1.keep _ _ nD upd_same, rfl, by simp⟩ (fun _ _ _ _ _ => trivial) (fun i x σ H' H2 hi p y => ?_) (fun σ H' p => ?_)
    · obtain ⟨rfl, rfl⟩ := y
      obtain ⟨o5, rfl, e2, ds, d1, d2, d3⟩ := p
      have more : ∀ (H3 : Hp) (s : Int), Fs a L ns H2 H3 → Stands l u s ∧ -1000 < s → Fs a L ns H (upd H3 D (.lst ((ds ++ [s]).map V.int))) ∧ ∃ ds' : List Int, (upd H3 D (.lst ((ds ++ [s]).map V.int))) D = some (.lst (ds'.map V.int)) ∧ ds'.length = i + 1 ∧ ∀ s ∈ ds', Stands l u s ∧ -1000 < s := fun H3 s e3 hs => by
        refine ⟨fs_upd S (e2.trans e3) hD, ds ++ [s], upd_same, by simp [d2], fun z hz => ?_⟩
        rcases List.mem_append.mp hz with h | h
        · exact d3 z h
        · rw [List.mem_singleton.mp h]
          exact hs
      refine ⟨_, rfl, a, L, ns, 2, rfl, e2.on S, by decide, by decide, fun r2 H3 hr2 e3 => ⟨rfl, _, rfl, ite2 (fun _ => ?_) (fun _ => ?_)⟩⟩
      · refine ⟨_, rfl, .inl ⟨rfl, _, SqL.of (e3.keep _ _ nD d1)⟩, _, rfl, _, rfl, _, rfl, a, L, ns, u, rfl, e3.on (e2.on S), u0, m200 (by omega), fun r3 H4 hr3 e4 => ?_⟩
        obtain ⟨q0, q1⟩ := hr3
        refine ⟨_, _, rfl, rfl, D, _, _, rfl, rfl, e4.keep _ _ nD (e3.keep _ _ nD d1), by rw [List.length_map]; exact k1000 (by omega), ?_⟩
        rw [snoc_int]
        obtain ⟨z1, z2⟩ := more H4 (-1 - r3) (e3.trans e4) ⟨⟨by omega, by omega⟩, by omega⟩
        exact ⟨_, rfl, z1, z2⟩
      · refine ⟨_, rfl, .inl ⟨rfl, _, SqL.of (e3.keep _ _ nD d1)⟩, _, rfl, _, rfl, a, L, ns, l, rfl, e3.on (e2.on S), l0, m200 (by omega), fun r3 H4 hr3 e4 => ?_⟩
        obtain ⟨q0, q1⟩ := hr3
        refine ⟨D, _, _, rfl, rfl, e4.keep _ _ nD (e3.keep _ _ nD d1), by rw [List.length_map]; exact k1000 (by omega), ?_⟩
        rw [snoc_int]
        obtain ⟨z1, z2⟩ := more H4 r3 (e3.trans e4) ⟨⟨by omega, by omega⟩, by omega⟩
        exact ⟨_, rfl, z1, z2⟩
    · obtain ⟨o5, rfl, e2, ds, d1, d2, d3⟩ := p
      exact ⟨_, rfl, rd_tup (.inl (SqL.of d1)) fun b H3 s3 t3 => k _ _ ds (e2.trans (fs_same s3)) ⟨b, rfl, t3⟩ ⟨by omega, by omega, d3⟩⟩
end
theorem sc__law_lots : FnScope ["_law_source_here", "_law_moves_here", "_law_many", "_law_told", "_law_k", "_law_places", "_law_j"] ["_law_source_here", "_law_moves_here", "_law_many"] (defScope s__law_lots) := ⟨rfl, rfl, rfl, by decide +kernel, rfl, by decide +kernel, by decide +kernel⟩
section
variable {P : Program} {w : World} {K : PySem.W.Frag} {mg : Str → Option Value} {base : Heap}
theorem ok__law_lots (D__law_lots : Dn K mg "_law_lots" s__law_lots ["_law_source_here", "_law_moves_here", "_law_many"]) (D__law_deed : Dn K mg "_law_deed" s__law_deed ["_law_moves_here", "_law_places"]) (G__law_deed : FnOk P w K mg base CX0 1 D__law_deed.f D__law_deed.fd ["_law_moves_here", "_law_places"] (sp__law_deed K)) (D__law_take : Dn K mg "_law_take" s__law_take ["_law_source_here", "_law_many"]) (G__law_take : FnOk P w K mg base CX0 1 D__law_take.f D__law_take.fd ["_law_source_here", "_law_many"] (sp__law_take)) (T : TB mg) : FnOk P w K mg base CX0 2 D__law_lots.f D__law_lots.fd ["_law_source_here", "_law_moves_here", "_law_many"] (sp__law_lots K) := by
  refine ok0 D__law_lots.F sc__law_lots (fun vs H Q E h => ?_) (fun cdv A outer s H vs Q E hr h => ?_)
  · obtain ⟨a, L, ns, mv, n, m, c, zs, rfl, S, hm, hl, n0, n1, m0, m1, hz, c0, c1, k⟩ := h
    rfl
  · obtain ⟨a, L, ns, mv, n, m, c, zs, rfl, S, hm, hl, n0, n1, m0, m1, hz, c0, c1, k⟩ := h
    refine ⟨_, (pss_cons (ps_set (i := 3) sc__law_lots.nd rfl (by first | exact Or.inl rfl | exact Or.inr rfl) (pe_lst pa_nil))
  (pss_cons (ps_for PassesOwn.never rfl (pi_range1 (by rfl) T.range (pa_cons (pv 2) pa_nil)) (pg_name (i := 4) sc__law_lots.nd rfl (by first | exact Or.inl rfl | exact Or.inr rfl)) (pss_cons (ps_setLc (i := 5) (own := [(("_law_j" : Str), 6)]) rfl sc__law_lots.nd rfl rfl (sw_true rfl rfl rfl (by decide +kernel)) (pi_range1 (by rfl) T.range (pa_cons (pe_op op_add pe_int (pe_call G__law_take (hr.mono (by decide)) (by rfl) D__law_take.m D__law_take.F.kp D__law_take.b .nil pass0 (pa_cons (pv 0) (pa_cons pe_int pa_nil)))) pa_nil)) (blkOk_by (own := [(("_law_j" : Str), 6)]) (N := ["_law_source_here", "_law_moves_here", "_law_many", "_law_told", "_law_k", "_law_places", "_law_j"]) (sc := defScope s__law_lots) (by decide +kernel)) (fun _ _ _ _ _ => (pg_name (i := 6) sc__law_lots.nd rfl (Or.inl rfl))) (fun _ _ _ _ _ => pts_nil) (fun _ _ _ _ _ => (pe_call G__law_take (hr.mono (by decide)) (by rfl) D__law_take.m D__law_take.F.kp D__law_take.b .nil pass0 (pa_cons (pv 0) (pa_cons (pe_callB (call_len_seqK (K := K) rfl) (by rfl) T.len PySem.boot_len (pa_cons (pe_ix (ix_tupK (K := K) rfl) (pv 1) pe_int (fun _ _ => rfl)) pa_nil)) pa_nil)))))
  (pss_one (ps_expr (pe_bm PySem.F.plainAttrs_list PySem.F.slot_list_append PySem.F.type_list_append mt_append (pv 3) (pa_cons (pe_call G__law_deed (hr.mono (by decide)) (by rfl) D__law_deed.m D__law_deed.F.kp D__law_deed.b .nil pass0 (pa_cons (pv 1) (pa_cons (pv 5) pa_nil))) pa_nil))))))
  (pss_one (ps_ret (pv 3))))), ?_⟩
    refine ⟨(by show 0 ≤ sizeLine; decide), fun D hD => ?_⟩
    have nD : D ≠ a := Ne.symm (S.ne hD)
    have eD : Fs a L ns H (upd H D (.lst [])) := fs_same (same_new hD)
    refine ⟨_, rfl, c, rfl, mlo c0, m62 c1, ?_⟩
    refine for_it walk_at_range (fun i σ H' => ∃ o4 o5 o6 : Option V, σ = [some (.ref a), some mv, some (.int c), some (.ref D), o4, o5, o6] ∧ Fs a L ns H H' ∧ ∃ ds : List (List Int), LstR K (IntsT K) H' D ds ∧ ds.length = i ∧ ∀ d ∈ ds, RD n n d) ⟨_, _, _, rfl, eD, [], lst_nil, rfl, by simp⟩ (fun _ _ _ _ _ => trivial) (fun i x σ H' H2 hi p y => ?_) (fun σ H' p => ?_)
    · obtain ⟨rfl, rfl⟩ := y
      obtain ⟨o4, o5, o6, rfl, e2, ds, d1, d2, d3⟩ := p
      refine ⟨_, rfl, a, L, ns, 3, rfl, e2.on S, by decide, by decide, fun r2 H3 hr2 e3 => ?_⟩
      obtain ⟨r0, r1⟩ := hr2
      refine ⟨_, _, rfl, rfl, _, rfl, mlo (by omega), m62 (by omega), fun D2 hD2 => ?_⟩
      have e23 := e2.trans e3
      refine lc_fr (R := fun _ _ y => ∃ z, y = .int z ∧ InR m z) walk_at_range (tnz (by omega)) (fun _ _ _ _ _ h => h) gdS hD2 (e23.on S) (fun _ _ => trivial) (fun j x2 H4 Q2 hj hx2 e4 q2 => ?_) (fun H4 e4 got => ?_)
      · have ee := e23.trans e4
        obtain ⟨a1, ys, x1, z, e1, q1, q3, q4, a2, rfl, q5⟩ := at_seq (hm.kt (fun _ _ h => h.kt ee.kt) ee.kt) (i := 0) (n := n) ⟨by decide, n0⟩ hl
        obtain ⟨w1, w2⟩ := hz z (List.mem_of_getElem? q4)
        refine ⟨rfl, _, rfl, _, rfl, a1, ys, 0, _, e1, rfl, q1, q3, a2, _, rfl, .inr q5, a, L, ns, _, rfl, ee.on S, ?_, ?_, fun r3 H5 hr3 e5 => q2 _ _ e5 ⟨r3, rfl, ?_⟩⟩
        · rw [List.length_map]
          omega
        · rw [List.length_map]
          exact m200 (by omega)
        · rw [List.length_map] at hr3
          rw [w1] at hr3
          exact hr3
      · obtain ⟨ps, h1, h2, h3⟩ := got_ints got
        have ee := e23.trans e4
        obtain ⟨xs, g1, g2, g3⟩ := d1.fs kI (e3.trans e4) nD
        refine ⟨_, rfl, .inl ⟨rfl, _, SqL.of g1⟩, _, rfl, _, rfl, _, _, n, m, zs, ps, rfl, hm.kt (fun _ _ h => h.kt ee.kt) ee.kt, hl, n1, hz, ⟨_, rfl, .inl (SqL.of h1)⟩, h3, fun v H5 dd s5 t5 o5 => ?_⟩
        refine ⟨D, _, _, rfl, rfl, s5 _ _ g1, by rw [g2]; exact k1000 (by omega), ?_⟩
        refine ⟨_, _, _, rfl, fs_upd S (ee.trans (fs_same s5)) hD, ds ++ [dd], lst_snoc kI (s5 _ _ g1) g2 (fun i x z hx hz => (g3 i x z hx hz).kt (KT.of s5)) t5, by simp [d2], fun z hz => ?_⟩
        rcases List.mem_append.mp hz with h | h
        · exact d3 z h
        · rw [List.mem_singleton.mp h]
          exact o5
    · obtain ⟨o4, o5, o6, rfl, e2, ds, d1, d2, d3⟩ := p
      exact ⟨_, rfl, k D _ ds e2 hD d1 (by omega) d3⟩
end
end My
set_option maxHeartbeats 4000000
namespace My
open PySem PySem.Spec PyProof.Rows L2 Lcn Sq
def rgI (n : Int) : List Int := (List.range n.toNat).map fun i => ((0 : Int) + (i : Nat))
theorem rgI_v (n : Int) : rgV 0 n = (rgI n).map V.int := by
  unfold rgV rgI
  rw [List.map_map, Int.sub_zero]
  rfl
theorem rgI_len (n : Int) : (rgI n).length = n.toNat := by
  unfold rgI
  rw [List.length_map, List.length_range]
theorem rgI_in {n i : Int} (h : i ∈ rgI n) : InR n i := by
  unfold rgI at h
  obtain ⟨j, hj, rfl⟩ := List.mem_map.mp h
  have := List.mem_range.mp hj
  exact ⟨by omega, by omega⟩
theorem rgI_asc (n : Int) : Asc (rgI n) := fun j a b h1 h2 => by
  unfold rgI at h1 h2
  rw [List.getElem?_map] at h1 h2
  obtain ⟨x, hx, rfl⟩ := Option.map_eq_some_iff.mp h1
  obtain ⟨y, hy, rfl⟩ := Option.map_eq_some_iff.mp h2
  obtain ⟨p1, q1⟩ := List.getElem?_eq_some_iff.mp hx
  obtain ⟨p2, q2⟩ := List.getElem?_eq_some_iff.mp hy
  rw [List.getElem_range] at q1 q2
  omega
theorem rgOk {n : Int} (h0 : 0 ≤ n) (h1 : n < 1000) : RgOk 0 n := ⟨by decide, by decide, by omega, by omega, by omega⟩
theorem sc__law_end_states : FnScope ["_law_source_here", "_law_states", "_law_start", "_law_s"] ["_law_source_here", "_law_states"] (defScope s__law_end_states) := ⟨rfl, rfl, rfl, by decide +kernel, rfl, by decide +kernel, by decide +kernel⟩
section
variable {P : Program} {w : World} {K : PySem.W.Frag} {mg : Str → Option Value} {base : Heap}
theorem ok__law_end_states (D__law_end_states : Dn K mg "_law_end_states" s__law_end_states ["_law_source_here", "_law_states"]) (D__law_take : Dn K mg "_law_take" s__law_take ["_law_source_here", "_law_many"]) (G__law_take : FnOk P w K mg base CX0 1 D__law_take.f D__law_take.fd ["_law_source_here", "_law_many"] (sp__law_take)) (T : TB mg) : FnOk P w K mg base CX0 2 D__law_end_states.f D__law_end_states.fd ["_law_source_here", "_law_states"] (sp__law_end_states K) := by
  refine ok0 D__law_end_states.F sc__law_end_states (fun vs H Q E h => ?_) (fun cdv A outer s H vs Q E hr h => ?_)
  · obtain ⟨a, L, ns, n, rfl, S, n0, n1, k⟩ := h
    rfl
  · obtain ⟨a, L, ns, n, rfl, S, n0, n1, k⟩ := h
    refine ⟨_, (pss_cons (ps_set (i := 2) sc__law_end_states.nd rfl (by first | exact Or.inl rfl | exact Or.inr rfl) (pe_call G__law_take (hr.mono (by decide)) (by rfl) D__law_take.m D__law_take.F.kp D__law_take.b .nil pass0 (pa_cons (pv 0) (pa_cons (pv 1) pa_nil))))
  (pss_cons (ps_if (pt_cmpR op_eq (pe_call G__law_take (hr.mono (by decide)) (by rfl) D__law_take.m D__law_take.F.kp D__law_take.b .nil pass0 (pa_cons (pv 0) (pa_cons pe_int pa_nil))) pe_int (nomark _)) (pss_one (ps_ret (pe_tup (pa_cons (pv 2) (pa_cons (pe_tupRg rfl (by rfl) T.tuple_ (prg_1 (by rfl) T.range (pv 1))) pa_nil))))) pss_nil)
  (pss_one (ps_ret (pe_tup (pa_cons (pv 2) (pa_cons (pe_callTy call_tupR (by rfl) T.tuple_ (by decide +kernel) (pa_cons (pe_lc (own := [(("_law_s" : Str), 3)]) rfl sc__law_end_states.nd (pi_range1 (by rfl) T.range (pa_cons (pv 1) pa_nil)) (blkOk_by (own := [(("_law_s" : Str), 3)]) (N := ["_law_source_here", "_law_states", "_law_start", "_law_s"]) (sc := defScope s__law_end_states) (by decide +kernel)) (fun _ _ _ _ _ => (pg_name (i := 3) sc__law_end_states.nd rfl (Or.inl rfl))) (fun _ _ _ _ _ => (pts_one (pt_cmpR op_gt (pe_call G__law_take (hr.mono (by decide)) (by rfl) D__law_take.m D__law_take.F.kp D__law_take.b .nil pass0 (pa_cons (pv 0) (pa_cons pe_int pa_nil))) pe_int (nomark _)))) (fun _ _ _ _ _ => (pv 3))) pa_nil)) pa_nil))))))), ?_⟩
    refine ⟨_, rfl, _, rfl, a, L, ns, n, rfl, S, n0, m200 n1, fun r H1 hr e1 => ?_⟩
    refine ⟨_, rfl, a, L, ns, 2, rfl, e1.on S, by decide, by decide, fun r2 H2 hr2 e2 => ⟨rfl, _, rfl, ite2 (fun _ => ?_) (fun _ => ?_)⟩⟩
    · refine ⟨_, rfl, _, rfl, n, rfl, rgOk (by omega) n1, fun q hq => ⟨(by show 2 ≤ sizeLine; decide), fun p hp => ?_⟩⟩
      refine k _ _ (r, rgI n) ((e1.trans e2).trans ((fs_same (same_new hq)).trans (fs_same (same_new hp)))) ⟨p, _, rfl, SqT.of upd_same, ⟨q, rfl, SqT.same (same_new hp) (SqT.of ?_)⟩⟩ ⟨hr, by show ((rgI n).length : Int) ≤ n; rw [rgI_len]; omega, fun i hi => rgI_in hi, rgI_asc n⟩
      rw [rgI_v]
      exact upd_same
    · refine ⟨_, rfl, _, rfl, n, rfl, mlo (by omega), m62 n1, fun D hD => ?_⟩
      have e12 := e1.trans e2
      have nD : D ≠ a := Ne.symm ((e12.on S).ne hD)
      refine lc_it walk_at_range (fun i H' => Fs a L ns H2 H' ∧ ∃ zs : List Int, H' D = some (.lst (zs.map V.int)) ∧ zs.length ≤ i ∧ (∀ z ∈ zs, 0 ≤ z ∧ z < (i : Int)) ∧ Asc zs) ⟨fs_same (same_new hD), [], upd_same, by simp, by simp, by intro j a b h; cases h⟩ (fun _ _ _ _ => trivial) (fun i x H' H3 hi p y => ?_) (fun H' p => ?_)
      · obtain ⟨rfl, rfl⟩ := y
        obtain ⟨e3, zs, d1, d2, d3, d4⟩ := p
        refine ⟨rfl, _, rfl, a, L, ns, 3, rfl, e3.on (e12.on S), by decide, by decide, fun r3 H4 hr3 e4 => ⟨_, _, rfl, rfl, _, rfl, ite2 (fun _ => ?_) (fun _ => ?_)⟩⟩
        · refine ⟨_, rfl, _, e4.keep _ _ nD d1, by rw [List.length_map]; exact k1000 (by omega), ?_⟩
          rw [snoc_int]
          refine ⟨fs_upd (e12.on S) (e3.trans e4) hD, zs ++ [_], upd_same, by simp; omega, fun z hz => ?_, fun j u v hu hv => ?_⟩
          · rcases List.mem_append.mp hz with h | h
            · have := d3 z h
              omega
            · rw [List.mem_singleton.mp h]
              omega
          · have hj := (List.getElem?_eq_some_iff.mp hv).1
            rw [List.length_append] at hj
            have hj : j + 1 < zs.length + 1 := hj
            rw [List.getElem?_append_left (by omega)] at hu
            rcases Nat.lt_or_ge (j + 1) zs.length with lt | ge
            · rw [List.getElem?_append_left lt] at hv
              exact d4 j u v hu hv
            · rw [List.getElem?_append_right ge] at hv
              have : j + 1 - zs.length = 0 := by omega
              rw [this] at hv
              cases hv
              have := d3 u (List.mem_of_getElem? hu)
              omega
        · exact ⟨e3.trans e4, zs, e4.keep _ _ nD d1, by omega, fun z hz => by have := d3 z hz; omega, d4⟩
      · obtain ⟨e3, zs, d1, d2, d3, d4⟩ := p
        refine rd_tup (.inl (SqL.of d1)) fun b H3 s3 t3 => ⟨(by show 2 ≤ sizeLine; decide), fun p hp => ?_⟩
        exact k _ _ (r, zs) ((e12.trans e3).trans ((fs_same s3).trans (fs_same (same_new hp)))) ⟨p, _, rfl, SqT.of upd_same, ⟨b, rfl, SqT.same (same_new hp) t3⟩⟩ ⟨hr, by show (zs.length : Int) ≤ n; omega, fun i hi => by have := d3 i hi; exact ⟨by omega, by omega⟩, d4⟩
end
/-! ### texts -/
def layF (l : Int) : Nat → List (List Int)
  | 0 => [[]]
  | k + 1 => (layF l k).flatMap fun t => (rgI l).map fun c => t ++ [c]
def texF (l : Int) : Nat → List (List Int)
  | 0 => []
  | k + 1 => texF l k ++ layF l (k + 1)
def sp__law_texts (K : PySem.W.Frag) : Sp := fun vs H Q _ => ∃ (l : Int) (m : Nat), vs = [.int l, .int m] ∧ 0 ≤ l ∧ l ≤ 3 ∧ m ≤ 3 ∧ ∀ (p : Addr) (H' : Hp), Same H H' → H p = none → LstR K (IntsT K) H' p (texF l m) → Q (.ref p) H'
theorem lay_le {l : Int} (h0 : 0 ≤ l) (h : l ≤ 3) : ∀ k, (layF l k).length ≤ 3 ^ k
  | 0 => by simp [layF]
  | k + 1 => by
    have ih := lay_le h0 h k
    unfold layF
    rw [List.length_flatMap]
    have : ∀ xs : List (List Int), (xs.map fun t => ((rgI l).map fun c => t ++ [c]).length).sum ≤ 3 * xs.length := fun xs => by
      induction xs with
      | nil => simp
      | cons x r ih =>
        simp only [List.map_cons, List.sum_cons, List.length_map, List.length_cons] at ih ⊢
        rw [rgI_len]
        rw [rgI_len] at ih
        omega
    have := this (layF l k)
    rw [Nat.pow_succ]
    omega
theorem lay_len {l : Int} : ∀ k z, z ∈ layF l k → z.length = k
  | 0, z, h => by
    have e : z = [] := by simpa [layF] using h
    rw [e]
    rfl
  | k + 1, z, h => by
    obtain ⟨t, ht, hz⟩ := List.mem_flatMap.mp h
    obtain ⟨c, _, rfl⟩ := List.mem_map.mp hz
    rw [List.length_append, lay_len k t ht]
    rfl
theorem flat_le {α β : Type} {xs : List α} {f : α → List β} {n : Nat} (h : ∀ t, (f t).length = n) : (xs.flatMap f).length ≤ xs.length * n := by
  induction xs with
  | nil => simp
  | cons x r ih =>
    rw [List.flatMap_cons, List.length_append, h, List.length_cons, Nat.succ_mul]
    omega
theorem tex_le {l : Int} (h0 : 0 ≤ l) (h : l ≤ 3) : ∀ k, k ≤ 3 → (texF l k).length ≤ 13 * k ∧ (layF l k).length ≤ 27
  | 0, _ => by simp [texF, layF]
  | 1, _ => by have := lay_le h0 h 1; simp [texF] at *; omega
  | 2, _ => by have := lay_le h0 h 1; have := lay_le h0 h 2; simp [texF] at *; omega
  | 3, _ => by have := lay_le h0 h 1; have := lay_le h0 h 2; have := lay_le h0 h 3; simp [texF] at *; omega
section
variable {K : PySem.W.Frag} {H H' : Hp}
theorem rd_cat {a b : Addr} {xs ys : List V} {Q : VK} (ha : SqT K H a xs) (hb : SqT K H b ys) (hz : xs.length + ys.length ≤ sizeLine) (q : ∀ c H', Same H H' → SqT K H' c (xs ++ ys) → Q (.ref c) H') : rCatA K (.ref a) (.ref b) H Q := by
  refine ⟨a, b, xs, ys, rfl, rfl, ha, hb, hz, fun e => ?_, fun e e' => ?_, fun e e' p hp => q p _ (same_new hp) (SqT.of upd_same)⟩
  · subst e
    exact q b H (Same.refl H) hb
  · subst e'
    exact q a H (Same.refl H) (by rw [List.append_nil]; exact ha)
theorem lst_app {α : Type} {R : Hp → V → α → Prop} (m : ∀ H H' v z, KT H H' → R H v z → R H' v z) {p : Addr} {zs ws : List α} {xs ys : List V} (h : H p = some (.lst xs)) (l : xs.length = zs.length) (f : ∀ (i : Nat) (x : V) (z : α), xs[i]? = some x → zs[i]? = some z → R H x z) (l2 : ys.length = ws.length) (f2 : ∀ (i : Nat) (x : V) (z : α), ys[i]? = some x → ws[i]? = some z → R H x z) : LstR K R (upd H p (.lst (xs ++ ys))) p (zs ++ ws) := by
  have k : KT H (upd H p (.lst (xs ++ ys))) := KT.lst h
  refine ⟨xs ++ ys, upd_same, by simp [l, l2], fun i x t hx ht => ?_⟩
  rcases Nat.lt_or_ge i xs.length with lt | ge
  · rw [List.getElem?_append_left lt] at hx
    rw [List.getElem?_append_left (by omega)] at ht
    exact m _ _ _ _ k (f i x t hx ht)
  · rw [List.getElem?_append_right ge] at hx
    rw [List.getElem?_append_right (by omega), ← l] at ht
    exact m _ _ _ _ k (f2 _ x t hx ht)
/-- the list's items, as a comprehension told them -/
theorem got_lst {α : Type} {R : Hp → V → α → Prop} {D : Addr} {zs : List α} (h : Got D zs.length (fun H i y => ∀ z, zs[i]? = some z → R H y z) H) : LstR K R H D zs := by
  obtain ⟨ys, h1, h2, h3⟩ := h
  exact ⟨ys, h1, h2, fun i x z hx hz => h3 i x hx z hz⟩
theorem flat_take {α β : Type} {xs : List α} {f : α → List β} {j : Nat} {z : α} (h : xs[j]? = some z) : (xs.take (j + 1)).flatMap f = (xs.take j).flatMap f ++ f z := by
  obtain ⟨p, e⟩ := List.getElem?_eq_some_iff.mp h
  rw [List.take_succ_eq_append_getElem p, List.flatMap_append, e]
  simp
end
end My
set_option maxHeartbeats 4000000
namespace My
open PySem PySem.Spec PyProof.Rows L2 Lcn Sq
/-! ### data of ints: equal exactly if equal -/
def iD (ns : List Int) : PyData := .tuple (ns.map PyData.int)
theorem eqvA_ints : ∀ xs ys : List Int, PyData.eqvAll (xs.map PyData.int) (ys.map PyData.int) = decide (xs = ys)
  | [], [] => by simp [PyData.eqvAll]
  | [], _ :: _ => by simp [PyData.eqvAll]
  | _ :: _, [] => by simp [PyData.eqvAll]
  | x :: xs, y :: ys => by
    rw [List.map_cons, List.map_cons, PyData.eqvAll, eqvA_ints xs ys, PyData.eqv]
    by_cases h : x = y
    · subst h
      simp
    · simp [h]
theorem eqv_iD (xs ys : List Int) : PyData.eqv (iD xs) (iD ys) = decide (xs = ys) := by
  unfold iD
  rw [PyData.eqv]
  exact eqvA_ints xs ys
theorem dpA_ints {K : PySem.W.Frag} {H : Hp} : ∀ ns : List Int, DpAll K H (ns.map V.int) (ns.map PyData.int)
  | [] => .nil
  | n :: r => .cons (.int n) (dpA_ints r)
theorem dp_ints {K : PySem.W.Frag} {H : Hp} {v : V} {ns : List Int} (h : IntsT K H v ns) : Dp K H v (iD ns) := by
  obtain ⟨a, rfl, hs⟩ := h
  exact .tup hs (dpA_ints ns)
theorem depA : ∀ ns : List Int, PyData.depthAll (ns.map PyData.int) = 0
  | [] => by simp [PyData.depthAll]
  | n :: r => by
    rw [List.map_cons, PyData.depthAll, depA r, PyData.depth]
    rfl
theorem layA : ∀ ns : List Int, PyData.canLayAll0 (ns.map PyData.int) = true
  | [] => by simp [PyData.canLayAll0]
  | n :: r => by
    rw [List.map_cons, PyData.canLayAll0, layA r, PyData.canLay0]
    rfl
theorem shaped_iD (ns : List Int) (h : ns.length ≤ sizeLine) : SeqAt.shaped (iD ns) = true := by
  unfold SeqAt.shaped iD
  rw [PyData.depth, depA, PyData.canLay0, layA]
  simp [h]
/-! ### deeds of texts -/
def afterF (f t : List Int) : List Int := f.map fun g => t.getD g.toNat 0
theorem afterF_rd {n : Int} {f t : List Int} (hf : RD n n f) (ht : RD n n t) : RD n n (afterF f t) := by
  refine ⟨by unfold afterF; rw [List.length_map]; exact hf.1, fun i hi => ?_⟩
  obtain ⟨g, hg, rfl⟩ := List.mem_map.mp hi
  obtain ⟨z, hz, _⟩ := at_int (hf.2 g hg) ht.1
  rw [List.getD_eq_getElem?_getD, hz]
  exact ht.2 z (List.mem_of_getElem? hz)
def deedF (ds : List (List Int)) (told : List Int) (tx : List Int) : List Int := tx.foldl (fun told l => afterF told (ds.getD l.toNat [])) told
theorem deedF_rd {n : Int} {ds : List (List Int)} (hd : ∀ d ∈ ds, RD n n d) : ∀ (tx : List Int) (told : List Int), (∀ l ∈ tx, InR ds.length l) → RD n n told → RD n n (deedF ds told tx)
  | [], told, _, h => h
  | l :: r, told, hl, h => by
    obtain ⟨l0, l1⟩ := hl l (List.mem_cons_self ..)
    refine deedF_rd hd r _ (fun x hx => hl x (List.mem_cons_of_mem _ hx)) (afterF_rd h (hd _ ?_))
    rw [List.getD_eq_getElem?_getD, List.getElem?_eq_getElem (by omega)]
    exact List.getElem_mem _
theorem deedF_snoc {ds : List (List Int)} {told tx : List Int} {l : Int} : deedF ds told (tx ++ [l]) = afterF (deedF ds told tx) (ds.getD l.toNat []) := by
  unfold deedF
  rw [List.foldl_append]
  rfl
def sp__law_after (K : PySem.W.Frag) : Sp := fun vs H Q _ => ∃ (fv tv : V) (f t : List Int) (n : Int), vs = [fv, tv] ∧ IntsT K H fv f ∧ IntsT K H tv t ∧ n < 1000 ∧ RD n n f ∧ RD n n t ∧ ∀ (v : V) (H' : Hp), Same H H' → IntsT K H' v (afterF f t) → Q v H'
def sp__law_text_deed (K : PySem.W.Frag) : Sp := fun vs H Q _ => ∃ (p : Addr) (tv : V) (n : Int) (ds : List (List Int)) (tx : List Int), vs = [.ref p, .int n, tv] ∧ LstR K (IntsT K) H p ds ∧ IntsT K H tv tx ∧ 0 < n ∧ n < 1000 ∧ (∀ d ∈ ds, RD n n d) ∧ (∀ l ∈ tx, InR ds.length l) ∧ ∀ (v : V) (H' : Hp), Same H H' → IntsT K H' v (deedF ds (rgI n) tx) → Q v H'
def fitsF (ds : List (List Int)) (n : Int) (e : Int × List Int) (tx : List Int) : Bool := decide (0 < tx.length) && inV (.int ((deedF ds (rgI n) tx).getD e.1.toNat 0)) (e.2.map V.int)
def sp__law_fits (K : PySem.W.Frag) : Sp := fun vs H Q _ => ∃ (p : Addr) (ev tv : V) (n : Int) (ds : List (List Int)) (e : Int × List Int) (tx : List Int), vs = [.ref p, .int n, ev, tv] ∧ LstR K (IntsT K) H p ds ∧ EndT K H ev e ∧ IntsT K H tv tx ∧ 0 < n ∧ n < 1000 ∧ (∀ d ∈ ds, RD n n d) ∧ (∀ l ∈ tx, InR ds.length l) ∧ InR n e.1 ∧ ∀ H', Same H H' → Q (.bl (fitsF ds n e tx)) H'
theorem map_take {ns : List Int} {j : Nat} {z : Int} (h : ns[j]? = some z) : ns.take (j + 1) = ns.take j ++ [z] := by
  obtain ⟨p, e⟩ := List.getElem?_eq_some_iff.mp h
  rw [List.take_succ_eq_append_getElem p, e]
theorem flat_ints (ns : List Int) : (ns.map V.int).all flatV = true := by
  rw [List.all_eq_true]
  intro x hx
  obtain ⟨z, _, rfl⟩ := List.mem_map.mp hx
  rfl
end My
set_option maxHeartbeats 4000000
namespace My
open PySem PySem.Spec PyProof.Rows L2 Lcn Sq
/-! ### sides filled -/
def onF (ts : List (List Int)) (s : Int) : List Int := if 0 ≤ s then [s] else ts.getD (-1 - s).toNat []
def filF (ss : List Int) (ts : List (List Int)) : List Int := ss.flatMap (onF ts)
theorem on_len {ts : List (List Int)} (h : ∀ t ∈ ts, t.length ≤ 1000) (s : Int) : (onF ts s).length ≤ 1000 := by
  unfold onF
  split
  · simp
  · rw [List.getD_eq_getElem?_getD]
    cases e : ts[(-1 - s).toNat]? with
    | none => simp
    | some t => exact h t (List.mem_of_getElem? e)
theorem fil_len {ts : List (List Int)} (h : ∀ t ∈ ts, t.length ≤ 1000) : ∀ ss : List Int, (filF ss ts).length ≤ ss.length * 1000
  | [] => by simp [filF]
  | s :: r => by
    have ih := fil_len h r
    have := on_len h s
    unfold filF at ih ⊢
    rw [List.flatMap_cons, List.length_append, List.length_cons, Nat.succ_mul]
    omega
theorem fil_snoc {ts : List (List Int)} {a : List Int} {s : Int} : filF (a ++ [s]) ts = filF a ts ++ onF ts s := by
  unfold filF
  rw [List.flatMap_append]
  simp
def sp__law_filled (K : PySem.W.Frag) : Sp := fun vs H Q _ => ∃ (sv tv : V) (ss : List Int) (ts : List (List Int)), vs = [sv, tv] ∧ IntsT K H sv ss ∧ SeqS K (IntsT K) H tv ts ∧ (∀ s ∈ ss, -1 - s < (ts.length : Int)) ∧ ss.length ≤ 1000 ∧ (∀ t ∈ ts, t.length ≤ 1000) ∧
  ∀ (v : V) (H' : Hp), Same H H' → IntsT K H' v (filF ss ts) → Q v H'
def hldF (ts : List (List Int)) (r : List Int × List Int) : Bool := decide (filF r.1 ts = filF r.2 ts)
def RowB (n : Nat) (r : List Int × List Int) : Prop := (∀ s ∈ r.1, -1 - s < (n : Int)) ∧ (∀ s ∈ r.2, -1 - s < (n : Int)) ∧ r.1.length ≤ 1000 ∧ r.2.length ≤ 1000
def sp__law_rows_hold (K : PySem.W.Frag) : Sp := fun vs H Q _ => ∃ (rv tv : V) (rs : List (List Int × List Int)) (ts : List (List Int)), vs = [rv, tv] ∧ SeqS K (RowT K) H rv rs ∧ SeqS K (IntsT K) H tv ts ∧ (∀ r ∈ rs, RowB ts.length r) ∧ (∀ t ∈ ts, t.length ≤ 1000) ∧
  ∀ (H' : Hp), Same H H' → Q (.bl (rs.all (hldF ts))) H'
theorem IntsT.same {K : PySem.W.Frag} {H H' : Hp} (e : Same H H') {v : V} {ns : List Int} (h : IntsT K H v ns) : IntsT K H' v ns := h.kt (KT.of e)
theorem seqI_same {K : PySem.W.Frag} {H H' : Hp} (e : Same H H') {v : V} {zs : List (List Int)} (h : SeqS K (IntsT K) H v zs) : SeqS K (IntsT K) H' v zs := h.same (fun _ _ h => h.same e) e
end My
set_option maxHeartbeats 4000000
namespace My
open PySem PySem.Spec PyProof.Rows L2 Lcn Sq
/-! ### [x for x in xs if p x] -/
section
variable {K : PySem.W.Frag}
theorem lc_fil {α : Type} {R : Hp → V → α → Prop} (m : ∀ H H' v z, KT H H' → R H v z → R H' v z) {p : α → Bool} {J : It} {xs : List V} {zs : List α} {Gw : Hp → Prop} (w : Walk J xs.length Gw (YIs fun i x => xs[i]? = some x)) (hn : xs.length < sizeLine) (l : xs.length = zs.length)
    {tt : TT} {k : Nat} {vs : List Nat} {σ : L2.St} {H1 : Hp} {D : Addr} {Qd : Hp → Prop} (f : ∀ (i : Nat) (x : V) (z : α), xs[i]? = some x → zs[i]? = some z → R H1 x z) (hD : H1 D = none) (hGw : ∀ H', Same H1 H' → Gw H')
    (hk : ∀ x, ((wipe σ vs).set k (some x))[k]? = some (some x)) (hw : ∀ x, wipe ((wipe σ vs).set k (some x)) vs = wipe σ vs)
    (hs : ∀ (i : Nat) (x : V) (z : α) (H' : Hp) (Q : Bool → Hp → Prop), xs[i]? = some x → zs[i]? = some z → Same H1 H' → (∀ H'', Same H' H'' → Q (p z) H'') → tt ((wipe σ vs).set k (some x)) H' Q)
    (hd : ∀ H', Same H1 H' → LstR K R H' D (zs.filter p) → Qd H') :
    ∃ W : Nat → Nat → Hp → Prop, (∃ m, W 0 m (upd H1 D (.lst []))) ∧ ∀ i m H, W i m H →
      (J.stop i H ∧ Qd H) ∨ (J.go i H ∧ ∃ Nx : Hp → Prop, (∀ H', Nx H' → ∃ m', m' < m ∧ W (i + 1) m' H') ∧ ∀ x H', J.yld i H x H' → gName k x (wipe σ vs) H' fun σ2 H2 => wipe σ2 vs = wipe σ vs ∧ tt σ2 H2 fun b H3 =>
        if b = true then tVar k σ2 H3 fun y H4 => ∃ acc, H4 D = some (.lst acc) ∧ acc.length < sizeLine ∧ Nx (upd H4 D (.lst (acc ++ [y]))) else Nx H3) := by
  refine lc_it w (fun i H => Same H1 H ∧ LstR K R H D ((zs.take i).filter p)) ⟨same_new hD, lst_nil⟩ (fun i H _ q => hGw H q.1) (fun i x H H' hi q y => ?_) (fun H q => hd H q.1 (by
    have e : zs.take xs.length = zs := by rw [l, List.take_length]
    rw [← e]
    exact q.2))
  obtain ⟨e, hx⟩ := y
  subst e
  obtain ⟨s1, ys, d1, d2, d3⟩ := q
  obtain ⟨z, hz⟩ := seq_at l hx
  have tk : zs.take (i + 1) = zs.take i ++ [z] := by
    obtain ⟨pz, ez⟩ := List.getElem?_eq_some_iff.mp hz
    rw [List.take_succ_eq_append_getElem pz, ez]
  have ln : ((zs.take i).filter p).length ≤ i := Nat.le_trans (List.length_filter_le _ _) (by rw [List.length_take]; omega)
  refine ⟨hw x, hs i x z H' _ hx hz s1 fun H3 s3 => ?_⟩
  have s13 := s1.trans s3
  refine ite2 (fun c => ?_) (fun c => ?_)
  · refine ⟨x, hk x, ys, s3 _ _ d1, by omega, same_upd s13 hD, ?_⟩
    rw [tk, List.filter_append, List.filter_cons, if_pos c, List.filter_nil]
    exact lst_snoc m (s3 _ _ d1) d2 (fun i x z h1 h2 => m _ _ _ _ (KT.of s3) (d3 i x z h1 h2)) (m _ _ _ _ (KT.of s13) (f i x z hx hz))
  · refine ⟨s13, ?_⟩
    rw [tk, List.filter_append, List.filter_cons, if_neg c, List.filter_nil, List.append_nil]
    exact LstR.same m s3 ⟨ys, d1, d2, d3⟩
theorem lst_snoc2 {α : Type} {R : Hp → V → α → Prop} {H : Hp} {p : Addr} {zs : List α} {xs : List V} {y : V} {z : α} (m : ∀ v z, R H v z → R (upd H p (.lst (xs ++ [y]))) v z) (l : xs.length = zs.length) (f : ∀ (i : Nat) (x : V) (z : α), xs[i]? = some x → zs[i]? = some z → R H x z) (hy : R H y z) : LstR K R (upd H p (.lst (xs ++ [y]))) p (zs ++ [z]) := by
  refine ⟨xs ++ [y], upd_same, by simp [l], fun i x t hx ht => ?_⟩
  rcases Nat.lt_or_ge i xs.length with lt | ge
  · rw [List.getElem?_append_left lt] at hx
    rw [List.getElem?_append_left (by omega)] at ht
    exact m _ _ (f i x t hx ht)
  · rw [List.getElem?_append_right ge] at hx
    rw [List.getElem?_append_right (by omega), ← l] at ht
    cases e : i - xs.length with
    | zero =>
      rw [e] at hx ht
      cases hx
      cases ht
      exact m _ _ hy
    | succ j =>
      rw [e] at hx
      cases hx
end
/-! ### fillings -/
def lisF (ds : List (List Int)) (n : Int) (m : Nat) (e : Int × List Int) : List (List Int) := (texF ds.length m).filter (fitsF ds n e)
def stepF (told : List (List (List Int))) (ts : List (List Int)) : List (List (List Int)) := told.flatMap fun had => ts.map fun t => had ++ [t]
def comF (ls : List (List (List Int))) : List (List (List Int)) := ls.foldl stepF [[]]
def fllF (rs : List (List Int × List Int)) (ds : List (List Int)) (es : List (Int × List Int)) (n : Int) (m : Nat) : List (List (List Int)) := (comF (es.map (lisF ds n m))).filter fun had => rs.all (hldF had)
theorem com_snoc {ls : List (List (List Int))} {x : List (List Int)} : comF (ls ++ [x]) = stepF (comF ls) x := by
  unfold comF
  rw [List.foldl_append]
  rfl
theorem step_len {told : List (List (List Int))} {ts : List (List Int)} : (stepF told ts).length = told.length * ts.length := by
  unfold stepF
  induction told with
  | nil => simp
  | cons x r ih =>
    rw [List.flatMap_cons, List.length_append, List.length_map, ih, List.length_cons, Nat.succ_mul]
    omega
theorem lay_in {l : Int} : ∀ k z, z ∈ layF l k → ∀ i ∈ z, InR l i
  | 0, z, h => by
    have e : z = [] := by simpa [layF] using h
    subst e
    simp
  | k + 1, z, h => by
    obtain ⟨t, ht, hz⟩ := List.mem_flatMap.mp h
    obtain ⟨c, hc, rfl⟩ := List.mem_map.mp hz
    intro i hi
    rcases List.mem_append.mp hi with h | h
    · exact lay_in k t ht i h
    · rw [List.mem_singleton.mp h]
      exact rgI_in hc
theorem tex_in {l : Int} : ∀ k z, z ∈ texF l k → (∀ i ∈ z, InR l i) ∧ 0 < z.length ∧ z.length ≤ k
  | 0, z, h => by simp [texF] at h
  | k + 1, z, h => by
    rcases List.mem_append.mp h with h | h
    · obtain ⟨a, b, c⟩ := tex_in k z h
      exact ⟨a, b, by omega⟩
    · have := lay_len (k + 1) z h
      exact ⟨lay_in (k + 1) z h, by omega, by omega⟩
theorem lis_in {ds : List (List Int)} {n : Int} {m : Nat} {e : Int × List Int} {z : List Int} (h : z ∈ lisF ds n m e) : (∀ i ∈ z, InR ds.length i) ∧ 0 < z.length ∧ z.length ≤ m := tex_in m z (List.mem_filter.mp h).1
theorem lis_len {ds : List (List Int)} {n : Int} {m : Nat} {e : Int × List Int} (hd : ds.length ≤ 3) (hm : m ≤ 3) : (lisF ds n m e).length ≤ 39 := by
  have a := List.length_filter_le (fitsF ds n e) (texF ds.length m)
  have b := (tex_le (l := ds.length) (by omega) (by omega) m hm).1
  unfold lisF
  omega
theorem rev_ind {α : Type} {P : List α → Prop} (h0 : P []) (hs : ∀ l x, P l → P (l ++ [x])) (l : List α) : P l := by
  have : ∀ l : List α, P l.reverse := by
    intro l
    induction l with
    | nil => exact h0
    | cons x r ih =>
      rw [List.reverse_cons]
      exact hs _ _ ih
  rw [← List.reverse_reverse l]
  exact this _
/-- each combination has a text of each list -/
theorem com_in : ∀ (ls : List (List (List Int))) (had : List (List Int)), had ∈ comF ls → had.length = ls.length ∧ ∀ (i : Nat) t, had[i]? = some t → ∃ ts, ls[i]? = some ts ∧ t ∈ ts := by
  refine rev_ind (fun had h => ?_) (fun ls x ih had h => ?_)
  · have e : had = [] := by simpa [comF] using h
    subst e
    exact ⟨rfl, by simp⟩
  ·
    rw [com_snoc] at h
    obtain ⟨h0, h1, h2⟩ := List.mem_flatMap.mp h
    obtain ⟨t, ht, rfl⟩ := List.mem_map.mp h2
    obtain ⟨l1, l2⟩ := ih h0 h1
    refine ⟨by simp [l1], fun i u hu => ?_⟩
    rcases Nat.lt_or_ge i h0.length with lt | ge
    · rw [List.getElem?_append_left lt] at hu
      obtain ⟨ts, q1, q2⟩ := l2 i u hu
      exact ⟨ts, by rw [List.getElem?_append_left (by omega)]; exact q1, q2⟩
    · rw [List.getElem?_append_right ge] at hu
      cases e : i - h0.length with
      | zero =>
        rw [e] at hu
        cases hu
        exact ⟨x, by rw [List.getElem?_append_right (by omega), ← l1, e]; rfl, ht⟩
      | succ j =>
        rw [e] at hu
        cases hu
theorem com_len : ∀ (ls : List (List (List Int))), (∀ ts ∈ ls, ts.length ≤ 39) → (comF ls).length ≤ 39 ^ ls.length := by
  refine rev_ind (by simp [comF]) (fun ls x ih h => ?_)
  ·
    have i1 := ih fun ts ht => h ts (List.mem_append_left _ ht)
    have i2 := h x (by simp)
    rw [com_snoc, step_len, List.length_append]
    show _ ≤ 39 ^ (ls.length + 1)
    rw [Nat.pow_succ]
    exact Nat.mul_le_mul i1 i2
def sp__law_fillings (K : PySem.W.Frag) : Sp := fun vs H Q _ => ∃ (rv ev : V) (p : Addr) (n : Int) (m : Nat) (rs : List (List Int × List Int)) (ds : List (List Int)) (es : List (Int × List Int)), vs = [rv, .ref p, ev, .int n, .int m] ∧ SeqS K (RowT K) H rv rs ∧ LstR K (IntsT K) H p ds ∧ SeqS K (EndT K) H ev es ∧
  0 < n ∧ n < 1000 ∧ m ≤ 3 ∧ ds.length ≤ 3 ∧ es.length ≤ 2 ∧ (∀ d ∈ ds, RD n n d) ∧ (∀ e ∈ es, InR n e.1) ∧ (∀ r ∈ rs, RowB es.length r) ∧
  ∀ (q : Addr) (H' : Hp), Same H H' → H q = none → LstR K (SeqT K (IntsT K)) H' q (fllF rs ds es n m) → Q (.ref q) H'
theorem kSI {K : PySem.W.Frag} : ∀ (H H' : Hp) (v : V) (z : List (List Int)), KT H H' → SeqT K (IntsT K) H v z → SeqT K (IntsT K) H' v z := fun _ _ _ _ k h => h.kt (fun _ _ h => h.kt k) k
theorem kIK {K : PySem.W.Frag} : ∀ (H H' : Hp) (v : V) (z : List Int), KT H H' → IntsT K H v z → IntsT K H' v z := fun _ _ _ _ k h => h.kt k
/-- a list of texts at another place than D -/
def LsA (K : PySem.W.Frag) (D : Addr) (H : Hp) (v : V) (ts : List (List Int)) : Prop := ∃ b, v = .ref b ∧ b ≠ D ∧ LstR K (IntsT K) H b ts
theorem LsA.same {K : PySem.W.Frag} {D : Addr} {H H' : Hp} (e : Same H H') {v : V} {ts : List (List Int)} (h : LsA K D H v ts) : LsA K D H' v ts := by
  obtain ⟨b, r, n, h⟩ := h
  exact ⟨b, r, n, h.same kIK e⟩
end My
set_option maxHeartbeats 4000000
namespace My
open PySem PySem.Spec PyProof.Rows L2 Lcn Sq
/-! ### stripping -/
def sf : List Int → List Int → List Int × List Int
  | a :: l, b :: r => if a = b then sf l r else (a :: l, b :: r)
  | [], r => ([], r)
  | a :: l, [] => (a :: l, [])
def sb (l r : List Int) : List Int × List Int := ((sf l.reverse r.reverse).1.reverse, (sf l.reverse r.reverse).2.reverse)
def strip (l r : List Int) : List Int × List Int := sb (sf l r).1 (sf l r).2
theorem sf_nil {l r : List Int} (h : l = [] ∨ r = []) : sf l r = (l, r) := by
  rcases h with rfl | rfl
  · cases r <;> simp [sf]
  · cases l <;> simp [sf]
theorem sf_ne {a b : Int} {l r : List Int} (h : a ≠ b) : sf (a :: l) (b :: r) = (a :: l, b :: r) := by simp [sf, h]
theorem sf_eq {a : Int} {l r : List Int} : sf (a :: l) (a :: r) = sf l r := by simp [sf]
theorem sb_nil {l r : List Int} (h : l = [] ∨ r = []) : sb l r = (l, r) := by
  unfold sb
  rw [sf_nil (by rcases h with rfl | rfl <;> simp)]
  simp
theorem sb_ne {a b : Int} {l r : List Int} (h : a ≠ b) : sb (l ++ [a]) (r ++ [b]) = (l ++ [a], r ++ [b]) := by
  unfold sb
  rw [List.reverse_append, List.reverse_append]
  show ((sf (a :: l.reverse) (b :: r.reverse)).1.reverse, (sf (a :: l.reverse) (b :: r.reverse)).2.reverse) = _
  rw [sf_ne h]
  simp
theorem sb_eq {a : Int} {l r : List Int} : sb (l ++ [a]) (r ++ [a]) = sb l r := by
  unfold sb
  rw [List.reverse_append, List.reverse_append]
  show ((sf (a :: l.reverse) (a :: r.reverse)).1.reverse, (sf (a :: l.reverse) (a :: r.reverse)).2.reverse) = _
  rw [sf_eq]
theorem snoc_of {l : List Int} (h : l ≠ []) : ∃ i a, l = i ++ [a] := by
  cases e : l.reverse with
  | nil => exact absurd (by simpa using congrArg List.reverse e) h
  | cons a t => exact ⟨t.reverse, a, by have := congrArg List.reverse e; simpa using this⟩
theorem len_pos {ns : List Int} (h : decide ((0 : Int) < ((ns.map V.int).length : Nat)) = true) : ns ≠ [] := fun e => by
  subst e
  cases h
theorem len_zero {ns : List Int} (h : ¬ decide ((0 : Int) < ((ns.map V.int).length : Nat)) = true) : ns = [] := by
  cases ns with
  | nil => rfl
  | cons a t => exact absurd (decide_eq_true (by simp)) h
theorem at_0 {a : Int} {t : List Int} : atI ((a :: t).map V.int) 0 = some (.int a) := by
  show atI _ ((0 : Nat) : Int) = _
  exact atI_nat rfl
theorem at_end {i : List Int} {a : Int} {n : Int} (h : n = (i.length : Nat)) : atI ((i ++ [a]).map V.int) n = some (.int a) := by
  subst h
  exact atI_nat (by simp)
theorem int_ne {a b : Int} (h : ¬ decide (V.int a = V.int b) = true) : a ≠ b := fun e => h (by rw [e]; simp)
theorem int_eq {a b : Int} (h : decide (V.int a = V.int b) = true) : a = b := by
  have := of_decide_eq_true h
  cases this
  rfl
/-! ### slices -/
section
variable {K : PySem.W.Frag} {H H' : Hp}
theorem cut_drop {α : Type} {xs : List V} {k : Nat} : cutV xs (some (k : Int)) none = xs.drop k := by
  unfold cutV
  rw [HT.sIx_nat, HT.sIx_none]
  rcases Nat.le_total k xs.length with h | h
  · rw [Nat.min_eq_left h, List.take_of_length_le (by simp)]
  · rw [Nat.min_eq_right h, List.drop_of_length_le (Nat.le_refl _), List.drop_of_length_le h]
    simp
theorem cut_take {xs : List V} {k : Nat} : cutV xs none (some (k : Int)) = xs.take k := by
  unfold cutV
  rw [HT.sIx_nat, HT.sIx_none, List.drop_zero, Nat.sub_zero]
  rcases Nat.le_total k xs.length with h | h
  · rw [Nat.min_eq_left h]
  · rw [Nat.min_eq_right h, List.take_of_length_le (Nat.le_refl _), List.take_of_length_le h]
theorem cut_mid {xs : List V} {f e : Nat} (he : e ≤ xs.length) (hf : f ≤ e) : cutV xs (some (f : Int)) (some (e : Int)) = (xs.drop f).take (e - f) := by
  unfold cutV
  rw [HT.sIx_nat, HT.sIx_nat, Nat.min_eq_left he, Nat.min_eq_left (Nat.le_trans hf he)]
end
def sp__law_strip (K : PySem.W.Frag) : Sp := fun vs H Q _ => ∃ (lv rv : V) (l r : List Int), vs = [lv, rv] ∧ IntsT K H lv l ∧ IntsT K H rv r ∧ ∀ (v : V) (H' : Hp), Same H H' → RowT K H' v (strip l r) → Q v H'
theorem sc__law_strip : FnScope ["_law_left", "_law_right"] ["_law_left", "_law_right"] (defScope s__law_strip) := ⟨rfl, rfl, rfl, by decide +kernel, rfl, by decide +kernel, by decide +kernel⟩
section
variable {P : Program} {w : World} {K : PySem.W.Frag} {mg : Str → Option Value} {base : Heap}
theorem ok__law_strip (D__law_strip : Dn K mg "_law_strip" s__law_strip ["_law_left", "_law_right"]) (T : TB mg) : FnOk P w K mg base CX0 1 D__law_strip.f D__law_strip.fd ["_law_left", "_law_right"] (sp__law_strip K) := by
  refine ok0 D__law_strip.F sc__law_strip (fun vs H Q E h => ?_) (fun cdv A outer s H vs Q E hr h => ?_)
  · obtain ⟨lv, rv, l, r, rfl, hl, hr1, k⟩ := h
    rfl
  · obtain ⟨lv, rv, l, r, rfl, hl, hr1, k⟩ := h
    refine ⟨_, (C8.pss_cut (ps_while PassesOwn.never (PW.pt (pw_and (pt_cmpR op_gt (pe_callB call_len_seq (by rfl) T.len PySem.boot_len (pa_cons (pv 0) pa_nil)) pe_int (nomark _)) (pw_and (pt_cmpR op_gt (pe_callB call_len_seq (by rfl) T.len PySem.boot_len (pa_cons (pv 1) pa_nil)) pe_int (nomark _)) (pw_and1 (pt_cmpR op_eq (pe_ix ix_tup (pv 0) pe_int (fun _ _ => rfl)) (pe_ix ix_tup (pv 1) pe_int (fun _ _ => rfl)) (nomark _)))))) (pss_cons (ps_set (i := 0) sc__law_strip.nd rfl (by first | exact Or.inl rfl | exact Or.inr rfl) (pe_slice sl_tupR (pv 0) (po_some pe_int) po_none))
  (pss_one (ps_set (i := 1) sc__law_strip.nd rfl (by first | exact Or.inl rfl | exact Or.inr rfl) (pe_slice sl_tupR (pv 1) (po_some pe_int) po_none)))))
  (C8.pss_cut (ps_while PassesOwn.never (PW.pt (pw_and (pt_cmpR op_gt (pe_callB call_len_seq (by rfl) T.len PySem.boot_len (pa_cons (pv 0) pa_nil)) pe_int (nomark _)) (pw_and (pt_cmpR op_gt (pe_callB call_len_seq (by rfl) T.len PySem.boot_len (pa_cons (pv 1) pa_nil)) pe_int (nomark _)) (pw_and1 (pt_cmpR op_eq (pe_ix ix_tup (pv 0) (pe_op op_sub (pe_callB call_len_seq (by rfl) T.len PySem.boot_len (pa_cons (pv 0) pa_nil)) pe_int) (fun _ _ => rfl)) (pe_ix ix_tup (pv 1) (pe_op op_sub (pe_callB call_len_seq (by rfl) T.len PySem.boot_len (pa_cons (pv 1) pa_nil)) pe_int) (fun _ _ => rfl)) (nomark _)))))) (pss_cons (ps_set (i := 0) sc__law_strip.nd rfl (by first | exact Or.inl rfl | exact Or.inr rfl) (pe_slice sl_tupR (pv 0) po_none (po_some (pe_op op_sub (pe_callB call_len_seq (by rfl) T.len PySem.boot_len (pa_cons (pv 0) pa_nil)) pe_int))))
  (pss_one (ps_set (i := 1) sc__law_strip.nd rfl (by first | exact Or.inl rfl | exact Or.inr rfl) (pe_slice sl_tupR (pv 1) po_none (po_some (pe_op op_sub (pe_callB call_len_seq (by rfl) T.len PySem.boot_len (pa_cons (pv 1) pa_nil)) pe_int)))))))
  (pss_one (ps_ret (pe_tup (pa_cons (pv 0) (pa_cons (pv 1) pa_nil))))))), ?_⟩
    refine ⟨fun σ H' => ∃ (v u : V) (x y : List Int), σ = [some v, some u] ∧ Same H H' ∧ IntsT K H' v x ∧ IntsT K H' u y ∧ sf l r = (x, y), ?_, ?_⟩
    · refine ⟨fun m σ H' => ∃ (v u : V) (x y : List Int), σ = [some v, some u] ∧ Same H H' ∧ IntsT K H' v x ∧ IntsT K H' u y ∧ m = x.length ∧ sf l r = sf x y, ⟨_, lv, rv, l, r, rfl, Same.refl _, hl, hr1, rfl, rfl⟩, fun m σ H1 p => ?_⟩
      obtain ⟨v, u, x, y, rfl, s1, ⟨a, rfl, sx⟩, ⟨b, rfl, sy⟩, rfl, e⟩ := p
      refine ⟨_, rfl, a, _, rfl, .inr sx, _, _, rfl, rfl, _, rfl, ite2 (fun c1 => ?_) (fun c1 => ?_)⟩
      · refine ⟨_, rfl, b, _, rfl, .inr sy, _, _, rfl, rfl, _, rfl, ite2 (fun c2 => ?_) (fun c2 => ?_)⟩
        · cases x with
          | nil => exact absurd rfl (len_pos c1)
          | cons xa xt =>
            cases y with
            | nil => exact absurd rfl (len_pos c2)
            | cons ya yt =>
              refine ⟨_, rfl, a, _, 0, _, rfl, rfl, sx, at_0, _, rfl, b, _, 0, _, rfl, rfl, sy, at_0, rfl, _, rfl, ite2 (fun c3 => ?_) (fun c3 => ?_)⟩
              · have ee := int_eq c3
                subst ee
                refine ⟨_, fun σ' H' h => h, ?_⟩
                refine ⟨_, rfl, _, rfl, rd_sl sx fun c H2 s2 t2 => ⟨_, rfl, _, rfl, rd_sl (SqT.same s2 sy) fun d H3 s3 t3 => ?_⟩⟩
                have e1 : cutV ((xa :: xt).map V.int) (some (1 : Int)) none = xt.map V.int := cut_drop (α := Int) (k := 1)
                have e2 : cutV ((xa :: yt).map V.int) (some (1 : Int)) none = yt.map V.int := cut_drop (α := Int) (k := 1)
                rw [e1] at t2
                rw [e2] at t3
                exact ⟨xt.length, Nat.lt_succ_self _, .ref c, .ref d, xt, yt, rfl, s1.trans (s2.trans s3), ⟨c, rfl, SqT.same s3 t2⟩, ⟨d, rfl, t3⟩, rfl, by rw [e, sf_eq]⟩
              · exact ⟨_, _, _, _, rfl, s1, ⟨a, rfl, sx⟩, ⟨b, rfl, sy⟩, by rw [e, sf_ne (int_ne c3)]⟩
        · exact ⟨_, _, _, _, rfl, s1, ⟨a, rfl, sx⟩, ⟨b, rfl, sy⟩, by rw [e, sf_nil (.inr (len_zero c2))]⟩
      · exact ⟨_, _, _, _, rfl, s1, ⟨a, rfl, sx⟩, ⟨b, rfl, sy⟩, by rw [e, sf_nil (.inl (len_zero c1))]⟩
    · rintro σ1 H1 ⟨v1, u1, x1, y1, rfl, s1, hx1, hy1, e1⟩
      refine ⟨fun σ H' => ∃ (v u : V) (x y : List Int), σ = [some v, some u] ∧ Same H H' ∧ IntsT K H' v x ∧ IntsT K H' u y ∧ sb x1 y1 = (x, y), ?_, ?_⟩
      · refine ⟨fun m σ H' => ∃ (v u : V) (x y : List Int), σ = [some v, some u] ∧ Same H H' ∧ IntsT K H' v x ∧ IntsT K H' u y ∧ m = x.length ∧ sb x1 y1 = sb x y, ⟨_, v1, u1, x1, y1, rfl, s1, hx1, hy1, rfl, rfl⟩, fun m σ H1 p => ?_⟩
        obtain ⟨v, u, x, y, rfl, s1, ⟨a, rfl, sx⟩, ⟨b, rfl, sy⟩, rfl, e⟩ := p
        refine ⟨_, rfl, a, _, rfl, .inr sx, _, _, rfl, rfl, _, rfl, ite2 (fun c1 => ?_) (fun c1 => ?_)⟩
        · refine ⟨_, rfl, b, _, rfl, .inr sy, _, _, rfl, rfl, _, rfl, ite2 (fun c2 => ?_) (fun c2 => ?_)⟩
          · obtain ⟨xi, xa, rfl⟩ := snoc_of (len_pos c1)
            obtain ⟨yi, ya, rfl⟩ := snoc_of (len_pos c2)
            have lx : (((xi ++ [xa]).map V.int).length : Int) - 1 = (xi.length : Nat) := by simp
            have ly : (((yi ++ [ya]).map V.int).length : Int) - 1 = (yi.length : Nat) := by simp
            refine ⟨_, rfl, _, rfl, a, _, rfl, .inr sx, _, _, rfl, rfl, a, _, _, _, rfl, rfl, sx, at_end lx, _, rfl, _, rfl, b, _, rfl, .inr sy, _, _, rfl, rfl, b, _, _, _, rfl, rfl, sy, at_end ly, rfl, _, rfl, ite2 (fun c3 => ?_) (fun c3 => ?_)⟩
            · have ee := int_eq c3
              subst ee
              refine ⟨_, fun σ' H' h => h, ?_⟩
              refine ⟨_, rfl, _, rfl, a, _, rfl, .inr sx, _, _, rfl, rfl, _, rfl, rd_sl sx fun c H2 s2 t2 => ⟨_, rfl, _, rfl, b, _, rfl, .inr (SqT.same s2 sy), _, _, rfl, rfl, _, rfl, rd_sl (SqT.same s2 sy) fun d H3 s3 t3 => ?_⟩⟩
              have e1 : cutV ((xi ++ [xa]).map V.int) none (some ((((xi ++ [xa]).map V.int).length : Int) - 1)) = xi.map V.int := by
                rw [lx, cut_take]
                simp
              have e2 : cutV ((yi ++ [xa]).map V.int) none (some ((((yi ++ [xa]).map V.int).length : Int) - 1)) = yi.map V.int := by
                rw [ly, cut_take]
                simp
              have t2' : SqT K H2 c (xi.map V.int) := e1 ▸ t2
              have t3' : SqT K H3 d (yi.map V.int) := e2 ▸ t3
              exact ⟨xi.length, by simp, .ref c, .ref d, xi, yi, rfl, s1.trans (s2.trans s3), ⟨c, rfl, SqT.same s3 t2'⟩, ⟨d, rfl, t3'⟩, rfl, by rw [e, sb_eq]⟩
            · exact ⟨_, _, _, _, rfl, s1, ⟨a, rfl, sx⟩, ⟨b, rfl, sy⟩, by rw [e, sb_ne (int_ne c3)]⟩
          · exact ⟨_, _, _, _, rfl, s1, ⟨a, rfl, sx⟩, ⟨b, rfl, sy⟩, by rw [e, sb_nil (.inr (len_zero c2))]⟩
        · exact ⟨_, _, _, _, rfl, s1, ⟨a, rfl, sx⟩, ⟨b, rfl, sy⟩, by rw [e, sb_nil (.inl (len_zero c1))]⟩
      · rintro σ2 H2 ⟨v, u, x, y, rfl, s2, hx, hy, e2⟩
        refine ⟨_, rfl, _, rfl, (by show 2 ≤ sizeLine; decide), fun p hp => k _ _ (s2.trans (same_new hp)) ?_⟩
        have es : strip l r = (x, y) := by
          unfold strip
          rw [e1]
          exact e2
        rw [es]
        exact ⟨p, v, u, rfl, SqT.of upd_same, hx.same (same_new hp), hy.same (same_new hp)⟩
end
end My
set_option maxHeartbeats 4000000
namespace My
open PySem PySem.Spec PyProof.Rows L2 Lcn Sq
/-! ### tidying -/
abbrev Rw := List Int × List Int
def clashW (l r : List Int) : Option Str := if l = [] ∧ r = [] then none else if l = [] ∨ r = [] then some ("empty" : Str) else if 0 ≤ l.headD 0 ∧ 0 ≤ r.headD 0 then some ("front" : Str) else if 0 ≤ l.getLastD 0 ∧ 0 ≤ r.getLastD 0 then some ("back" : Str) else none
def tidF : List Rw → Nat → List Rw → List Rw ⊕ (Str × Nat)
  | [], _, acc => .inl acc
  | r :: rs, k, acc => match clashW (strip r.1 r.2).1 (strip r.1 r.2).2 with
    | some w => .inr (w, k)
    | none => tidF rs (k + 1) (if (strip r.1 r.2).1 = [] then acc else acc ++ [strip r.1 r.2])
theorem tid_step {rs : List Rw} {i k : Nat} {acc : List Rw} {r : Rw} (h : rs[i]? = some r) : tidF (rs.drop i) k acc = match clashW (strip r.1 r.2).1 (strip r.1 r.2).2 with
    | some w => .inr (w, k)
    | none => tidF (rs.drop (i + 1)) (k + 1) (if (strip r.1 r.2).1 = [] then acc else acc ++ [strip r.1 r.2]) := by
  obtain ⟨p, e⟩ := List.getElem?_eq_some_iff.mp h
  rw [List.drop_eq_getElem_cons p, e]
  rfl
def sp__law_tidy (K : PySem.W.Frag) : Sp := fun vs H Q _ => ∃ (p : Addr) (rs : List Rw), vs = [.ref p] ∧ LstR K (RowT K) H p rs ∧ rs.length ≤ 500 ∧
  (∀ (q : Addr) (H' : Hp) (ts : List Rw), Same H H' → H q = none → LstR K (RowT K) H' q ts → tidF rs 0 [] = .inl ts → Q (.ref q) H') ∧
  (∀ (q : Addr) (H' : Hp) (w : Str) (k : Nat), Same H H' → SqT K H' q [.str w, .int (k : Nat)] → tidF rs 0 [] = .inr (w, k) → Q (.ref q) H')
theorem len0 {l : List Int} (h : decide (V.int ((l.map V.int).length : Nat) = V.int 0) = true) : l = [] := by
  have e := int_eq h
  cases l with
  | nil => rfl
  | cons a t => simp at e; omega
theorem len1 {l : List Int} (h : ¬ decide (V.int ((l.map V.int).length : Nat) = V.int 0) = true) : ∃ a t, l = a :: t := by
  cases l with
  | nil => exact absurd (by simp) h
  | cons a t => exact ⟨a, t, rfl⟩
theorem kRK {K : PySem.W.Frag} : ∀ (H H' : Hp) (v : V) (z : Rw), KT H H' → RowT K H v z → RowT K H' v z := fun _ _ _ _ k h => h.kt k
theorem getLastD_snoc {l : List Int} {a d : Int} : (l ++ [a]).getLastD d = a := by
  rw [List.getLastD_eq_getLast?]
  simp
theorem head_at {l : List Int} (h : l ≠ []) : ∃ a, atI (l.map V.int) 0 = some (.int a) ∧ l.headD 0 = a := by
  cases l with
  | nil => exact absurd rfl h
  | cons a t => exact ⟨a, at_0, rfl⟩
theorem last_at {l : List Int} (h : l ≠ []) : ∃ a, atI (l.map V.int) (((l.map V.int).length : Int) - 1) = some (.int a) ∧ l.getLastD 0 = a := by
  obtain ⟨i, a, rfl⟩ := snoc_of h
  exact ⟨a, at_end (by simp), getLastD_snoc⟩
theorem lenN {l : List Int} (h : ¬ decide (V.int ((l.map V.int).length : Nat) = V.int 0) = true) : l ≠ [] := fun e => by
  subst e
  exact h (by simp)
theorem cw1 {l r : List Int} (h : l = []) (h' : r ≠ []) : clashW l r = some ("empty" : Str) := by simp [clashW, h, h']
theorem cw2 {l r : List Int} (h : l ≠ []) (h' : r = []) : clashW l r = some ("empty" : Str) := by simp [clashW, h, h']
theorem cw3 {l r : List Int} (h : l ≠ []) (h' : r ≠ []) (a : 0 ≤ l.headD 0) (b : 0 ≤ r.headD 0) : clashW l r = some ("front" : Str) := by simp only [clashW, h, h', a, b, and_self, or_self, if_true, if_false]
theorem cw4 {l r : List Int} (h : l ≠ []) (h' : r ≠ []) (n : ¬ (0 ≤ l.headD 0 ∧ 0 ≤ r.headD 0)) (a : 0 ≤ l.getLastD 0) (b : 0 ≤ r.getLastD 0) : clashW l r = some ("back" : Str) := by simp only [clashW, h, h', n, a, b, and_self, or_self, if_true, if_false]
theorem cw5 {l r : List Int} (h : l ≠ []) (h' : r ≠ []) (n : ¬ (0 ≤ l.headD 0 ∧ 0 ≤ r.headD 0)) (n2 : ¬ (0 ≤ l.getLastD 0 ∧ 0 ≤ r.getLastD 0)) : clashW l r = none := by simp only [clashW, h, h', n, n2, and_self, or_self, if_false]
theorem sc__law_tidy : FnScope ["_law_rows", "_law_told", "_law_at", "_law_left", "_law_right"] ["_law_rows"] (defScope s__law_tidy) := ⟨rfl, rfl, rfl, by decide +kernel, rfl, by decide +kernel, by decide +kernel⟩
section
variable {P : Program} {w : World} {K : PySem.W.Frag} {mg : Str → Option Value} {base : Heap}
theorem ok__law_tidy (D__law_tidy : Dn K mg "_law_tidy" s__law_tidy ["_law_rows"]) (D__law_strip : Dn K mg "_law_strip" s__law_strip ["_law_left", "_law_right"]) (G__law_strip : FnOk P w K mg base CX0 1 D__law_strip.f D__law_strip.fd ["_law_left", "_law_right"] (sp__law_strip K)) (T : TB mg) : FnOk P w K mg base CX0 2 D__law_tidy.f D__law_tidy.fd ["_law_rows"] (sp__law_tidy K) := by
  refine ok0 D__law_tidy.F sc__law_tidy (fun vs H Q E h => ?_) (fun cdv A outer s H vs Q E hr h => ?_)
  · obtain ⟨p, rs, rfl, hL, hlen, k1, k2⟩ := h
    rfl
  · obtain ⟨p, rs, rfl, hL, hlen, k1, k2⟩ := h
    refine ⟨_, (pss_cons (ps_set (i := 1) sc__law_tidy.nd rfl (by first | exact Or.inl rfl | exact Or.inr rfl) (pe_lst pa_nil))
  (pss_cons (ps_for PassesOwn.never rfl (pi_range1 (by rfl) T.range (pa_cons (pe_callB call_len_seq (by rfl) T.len PySem.boot_len (pa_cons (pv 0) pa_nil)) pa_nil)) (pg_name (i := 2) sc__law_tidy.nd rfl (by first | exact Or.inl rfl | exact Or.inr rfl)) (pss_cons (ps_asg (pe_call G__law_strip (hr.mono (by decide)) (by rfl) D__law_strip.m D__law_strip.F.kp D__law_strip.b .nil pass0 (pa_cons (pe_ix ix_tup (pe_ix ix_list (pv 0) (pv 2) (fun _ _ => rfl)) pe_int (fun _ _ => rfl)) (pa_cons (pe_ix ix_tup (pe_ix ix_list (pv 0) (pv 2) (fun _ _ => rfl)) pe_int (fun _ _ => rfl)) pa_nil))) (pg_tup (n := 2) rfl (pgs_cons (pg_name (i := 3) sc__law_tidy.nd rfl (by first | exact Or.inl rfl | exact Or.inr rfl)) (pgs_cons (pg_name (i := 4) sc__law_tidy.nd rfl (by first | exact Or.inl rfl | exact Or.inr rfl)) pgs_nil))))
  (pss_cons (ps_if (PW.pt (pw_and (pt_cmpR op_eq (pe_callB call_len_seq (by rfl) T.len PySem.boot_len (pa_cons (pv 3) pa_nil)) pe_int (nomark _)) (pw_and1 (pt_cmpR op_eq (pe_callB call_len_seq (by rfl) T.len PySem.boot_len (pa_cons (pv 4) pa_nil)) pe_int (nomark _))))) (pss_one ps_continue) pss_nil)
  (pss_cons (ps_if (PW.pt (pw_or (pt_cmpR op_eq (pe_callB call_len_seq (by rfl) T.len PySem.boot_len (pa_cons (pv 3) pa_nil)) pe_int (nomark _)) (pw_or1 (pt_cmpR op_eq (pe_callB call_len_seq (by rfl) T.len PySem.boot_len (pa_cons (pv 4) pa_nil)) pe_int (nomark _))))) (pss_one (ps_ret (pe_tup (pa_cons pe_str (pa_cons (pv 2) pa_nil))))) pss_nil)
  (C8.pss_cut (ps_if (PW.pt (pw_and (pt_cmpR op_ge (pe_ix ix_tup (pv 3) pe_int (fun _ _ => rfl)) pe_int (nomark _)) (pw_and1 (pt_cmpR op_ge (pe_ix ix_tup (pv 4) pe_int (fun _ _ => rfl)) pe_int (nomark _))))) (pss_one (ps_ret (pe_tup (pa_cons pe_str (pa_cons (pv 2) pa_nil))))) pss_nil)
  (C8.pss_cut (ps_if (PW.pt (pw_and (pt_cmpR op_ge (pe_ix ix_tup (pv 3) (pe_op op_sub (pe_callB call_len_seq (by rfl) T.len PySem.boot_len (pa_cons (pv 3) pa_nil)) pe_int) (fun _ _ => rfl)) pe_int (nomark _)) (pw_and1 (pt_cmpR op_ge (pe_ix ix_tup (pv 4) (pe_op op_sub (pe_callB call_len_seq (by rfl) T.len PySem.boot_len (pa_cons (pv 4) pa_nil)) pe_int) (fun _ _ => rfl)) pe_int (nomark _))))) (pss_one (ps_ret (pe_tup (pa_cons pe_str (pa_cons (pv 2) pa_nil))))) pss_nil)
  (pss_one (ps_expr (pe_bm PySem.F.plainAttrs_list PySem.F.slot_list_append PySem.F.type_list_append mt_append (pv 1) (pa_cons (pe_tup (pa_cons (pv 3) (pa_cons (pv 4) pa_nil))) pa_nil))))))))))
  (pss_one (ps_ret (pv 1))))), ?_⟩
    obtain ⟨xs, g1, g2, g3⟩ := hL
    refine ⟨(by show 0 ≤ sizeLine; decide), fun D hD => ?_⟩
    have sD : Same H (upd H D (.lst [])) := same_new hD
    refine ⟨_, rfl, p, xs, rfl, .inl (SqL.of (sD _ _ g1)), _, rfl, mlo (by omega), m62 (by omega), ?_⟩
    refine for_it walk_at_range (fun i σ H' => ∃ (o2 o3 o4 : Option V) (acc : List Rw), σ = [some (.ref p), some (.ref D), o2, o3, o4] ∧ Same H H' ∧ LstR K (RowT K) H' D acc ∧ acc.length ≤ i ∧ tidF rs 0 [] = tidF (rs.drop i) i acc) ⟨_, _, _, [], rfl, sD, lst_nil, Nat.le_refl _, rfl⟩ (fun _ _ _ _ _ => trivial) (fun i x σ H' H2 hi q y => ?_) (fun σ H' q => ?_)
    · obtain ⟨rfl, rfl⟩ := y
      obtain ⟨o2, o3, o4, acc, rfl, s2, ⟨xD, d1, d2, df⟩, d3, d4⟩ := q
      have hi' : i < xs.length := hi
      have hi2 : i < rs.length := by omega
      obtain ⟨r, hr2⟩ : ∃ r, rs[i]? = some r := ⟨rs[i], by simp [hi2]⟩
      obtain ⟨ar, x1, y1, e1, hrow, hx1, hy1⟩ := (g3 i _ r (List.getElem?_eq_getElem hi') hr2).kt (KT.of s2)
      have hat : atI xs (0 + (i : Int)) = some (.ref ar) := by
        rw [Int.zero_add, ← e1]
        exact atI_nat (by simp [hi'])
      rw [tid_step hr2] at d4
      refine ⟨_, rfl, _, rfl, p, xs, _, _, rfl, rfl, SqL.of (s2 _ _ g1), hat, ar, _, 0, _, rfl, rfl, hrow, rfl, _, rfl, _, rfl, p, xs, _, _, rfl, rfl, SqL.of (s2 _ _ g1), hat, ar, _, 1, _, rfl, rfl, hrow, rfl, x1, y1, r.1, r.2, rfl, hx1, hy1, fun v H3 s3 t3 => ?_⟩
      have s23 := s2.trans s3
      obtain ⟨al, v1, u1, rfl, sal, ⟨a, rfl, sx⟩, ⟨b, rfl, sy⟩⟩ := t3
      refine ⟨al, _, rfl, sal, rfl, _, _, rfl, _, _, rfl, rfl, ?_⟩
      have d1' := s3 _ _ d1
      have keep : LstR K (RowT K) H3 D acc := ⟨xD, d1', d2, fun i x z h1 h2 => (df i x z h1 h2).kt (KT.of s3)⟩
      generalize hst : strip r.1 r.2 = lr at d4 sal sx sy
      obtain ⟨l, rr⟩ := lr
      have bad : ∀ w, clashW l rr = some w → ∀ q, H3 q = none → Q (.ref q) (upd H3 q (.tup [.str w, .int (0 + (i : Int))])) := fun w hw q hq => by
        refine k2 q _ w i (s23.trans (same_new hq)) ?_ ?_
        · rw [Int.zero_add]
          exact SqT.of upd_same
        · rw [d4, hw]
      refine ⟨_, rfl, a, _, rfl, .inr sx, rfl, _, rfl, ite2 (fun c1 => ?_) (fun c1 => ?_)⟩
      · have e1 := len0 c1
        have e1 : l = [] := e1
        subst e1
        refine ⟨_, rfl, b, _, rfl, .inr sy, rfl, _, rfl, ite2 (fun c2 => ?_) (fun c2 => ?_)⟩
        · have e2 : rr = [] := len0 c2
          subst e2
          have cn : clashW [] [] = none := rfl
          simp only [cn] at d4
          exact ⟨_, _, _, acc, rfl, s23, keep, by omega, d4⟩
        · have nr : rr ≠ [] := lenN c2
          refine ⟨_, rfl, a, _, rfl, .inr sx, rfl, _, rfl, ite2 (fun _ => ?_) (fun c => absurd c1 c)⟩
          exact ⟨_, rfl, (by show 2 ≤ sizeLine; decide), fun q hq => bad "empty" (cw1 rfl nr) q hq⟩
      · have nl : l ≠ [] := lenN c1
        refine ⟨_, rfl, a, _, rfl, .inr sx, rfl, _, rfl, ite2 (fun c => absurd c c1) (fun _ => ?_)⟩
        refine ⟨_, rfl, b, _, rfl, .inr sy, rfl, _, rfl, ite2 (fun c2 => ?_) (fun c2 => ?_)⟩
        · exact ⟨_, rfl, (by show 2 ≤ sizeLine; decide), fun q hq => bad "empty" (cw2 nl (len0 c2)) q hq⟩
        · have nr : rr ≠ [] := lenN c2
          obtain ⟨ha, ha1, ha2⟩ := head_at nl
          obtain ⟨hb, hb1, hb2⟩ := head_at nr
          obtain ⟨la, la1, la2⟩ := last_at nl
          obtain ⟨lb, lb1, lb2⟩ := last_at nr
          refine ⟨fun σ' H' => ¬ (0 ≤ l.headD 0 ∧ 0 ≤ rr.headD 0) ∧ σ' = [some (.ref p), some (.ref D), some (.int (0 + (i : Int))), some (.ref a), some (.ref b)] ∧ H' = H3, ?_, ?_⟩
          · refine ⟨_, rfl, a, _, 0, _, rfl, rfl, sx, ha1, _, _, rfl, rfl, _, rfl, ite2 (fun z1 => ?_) (fun z1 => ?_)⟩
            · refine ⟨_, rfl, b, _, 0, _, rfl, rfl, sy, hb1, _, _, rfl, rfl, _, rfl, ite2 (fun z2 => ?_) (fun z2 => ?_)⟩
              · exact ⟨_, rfl, (by show 2 ≤ sizeLine; decide), fun q hq => bad "front" (cw3 nl nr (by rw [ha2]; exact of_decide_eq_true z1) (by rw [hb2]; exact of_decide_eq_true z2)) q hq⟩
              · exact ⟨fun n => z2 (decide_eq_true (by rw [← hb2]; exact n.2)), rfl, rfl⟩
            · exact ⟨fun n => z1 (decide_eq_true (by rw [← ha2]; exact n.1)), rfl, rfl⟩
          · rintro σ4 H4 ⟨n1, rfl, rfl⟩
            refine ⟨fun σ' H' => ¬ (0 ≤ l.getLastD 0 ∧ 0 ≤ rr.getLastD 0) ∧ σ' = [some (.ref p), some (.ref D), some (.int (0 + (i : Int))), some (.ref a), some (.ref b)] ∧ H' = H4, ?_, ?_⟩
            · refine ⟨_, rfl, _, rfl, a, _, rfl, .inr sx, _, _, rfl, rfl, a, _, _, _, rfl, rfl, sx, la1, _, _, rfl, rfl, _, rfl, ite2 (fun z1 => ?_) (fun z1 => ?_)⟩
              · refine ⟨_, rfl, _, rfl, b, _, rfl, .inr sy, _, _, rfl, rfl, b, _, _, _, rfl, rfl, sy, lb1, _, _, rfl, rfl, _, rfl, ite2 (fun z2 => ?_) (fun z2 => ?_)⟩
                · exact ⟨_, rfl, (by show 2 ≤ sizeLine; decide), fun q hq => bad "back" (cw4 nl nr n1 (by rw [la2]; exact of_decide_eq_true z1) (by rw [lb2]; exact of_decide_eq_true z2)) q hq⟩
                · exact ⟨fun n => z2 (decide_eq_true (by rw [← lb2]; exact n.2)), rfl, rfl⟩
              · exact ⟨fun n => z1 (decide_eq_true (by rw [← la2]; exact n.1)), rfl, rfl⟩
            · rintro σ5 H5 ⟨n2, rfl, rfl⟩
              have cn := cw5 nl nr n1 n2
              simp only [cn, nl, if_false] at d4
              refine ⟨_, rfl, .inl ⟨rfl, _, SqL.of d1'⟩, _, rfl, _, rfl, (by show 2 ≤ sizeLine; decide), fun q hq => ?_⟩
              have d1q := same_new (o := .tup [.ref a, .ref b]) hq _ _ d1'
              refine ⟨D, _, _, rfl, rfl, d1q, by rw [d2]; exact k1000 (by omega), ?_⟩
              have sn : Same H5 (upd H5 q (.tup [.ref a, .ref b])) := same_new hq
              refine ⟨_, _, _, acc ++ [(l, rr)], rfl, same_upd (s23.trans sn) hD, lst_snoc kRK d1q d2 (fun i x z h1 h2 => (df i x z h1 h2).kt (KT.of (s3.trans sn))) ⟨q, _, _, rfl, SqT.of upd_same, ⟨a, rfl, SqT.same sn sx⟩, ⟨b, rfl, SqT.same sn sy⟩⟩, by simp; omega, d4⟩
    · obtain ⟨o2, o3, o4, acc, rfl, s2, h2, d3, d4⟩ := q
      have e : rs.drop xs.length = [] := by
        rw [g2]
        exact List.drop_length
      have d4 : tidF rs 0 [] = tidF (rs.drop xs.length) xs.length acc := d4
      rw [e] at d4
      exact ⟨_, rfl, k1 D _ acc s2 hD h2 d4⟩
end
end My
set_option maxHeartbeats 4000000
/-! enumerate(t), t a tuple -/
namespace En
open PySem PySem.Spec PyProof.Rows L2 Sq
open AutoSeq1 (wpAny_loadPart')
section
variable {prog : Program} {w : World} {A : Around} {E : Value → Shared → Prop} {s : Shared}
/-- one step of the tuple's own walk -/
theorem next_t {it t : Addr} {i : Nat} {items : Array Value} {x : Value} {Q : Value → Shared → Prop} (hit : s.heap.IsTupleIter it t i) (ht : s.heap.IsTuple t items) (hx : items[i]? = some x)
    (hQ : ∀ h', h'.IsTupleIter it t (i + 1) → Heap.SameBut it s.heap h' → Q x { s with heap := h' }) : wpAny (model prog w) A (Builtin.SmallTypes.nextOf (.ref it)) Q E s := by
  obtain ⟨o, ho, hc, hd⟩ := id hit
  obtain ⟨ol, hol, _, nl, hdl⟩ := ht
  unfold Builtin.SmallTypes.nextOf
  refine wpAny_bind (wpAny_callSpecial?_slot (name := Str.ofString "__next__") hit.typeIs F.slot_tuple_iterator_next (wpAny_call_entry F.slot_tuple_iterator_next hit.typeIs F.entry_tuple_iterator_next ?_ (F.args_tuple_iterator_next_1 _)))
  show wpAny _ _ (field (.ref it) 0 >>= _) _ _ s
  refine wpAny_bind (wpAny_field ho hd (x := .ref t) rfl ?_)
  show wpAny _ _ (if (Value.ref t == Value.none) = true then _ else _) _ _ s
  rw [if_neg (show ¬ ((Value.ref t == Value.none) = true) from Bool.false_ne_true)]
  show wpAny _ _ (field (.ref it) 1 >>= _) _ _ s
  refine wpAny_bind (wpAny_field ho hd (x := .int i 0) rfl ?_)
  show wpAny _ _ (seqItems? (.ref t) >>= _) _ _ s
  refine wpAny_bind (wpAny_seqItems hol hdl ?_)
  simp only [Int.toNat_natCast, hx]
  refine wpAny_bind (wpAny_setField ho hd (by simp) (wpAny_pure ⟨x, rfl, wpAny_pure (hQ _ ?_ (Heap.SameBut.update ..))⟩))
  exact ⟨_, Heap.get?_update_self _ ho (Obj.isFreed_of_fields (Obj.data_mapFields hd _)), (Obj.cls_mapFields ..).trans hc, by
    rw [Obj.data_mapFields hd]; simp [rawInt]⟩
theorem next_t_end {it t : Addr} {i : Nat} {items : Array Value} {Q : Value → Shared → Prop} (hh : A.handled = none) (hit : s.heap.IsTupleIter it t i) (ht : s.heap.IsTuple t items) (hx : items[i]? = none)
    (hE : ∀ h' e, Heap.ExtBut it s.heap h' → (∃ o, h'.get? e = some o ∧ o.cls = .type "StopIteration") → E (.ref e) { s with heap := h' }) : wpAny (model prog w) A (Builtin.SmallTypes.nextOf (.ref it)) Q E s := by
  obtain ⟨o, ho, hc, hd⟩ := id hit
  obtain ⟨ol, hol, _, nl, hdl⟩ := ht
  unfold Builtin.SmallTypes.nextOf
  refine wpAny_bind (wpAny_callSpecial?_slot (name := Str.ofString "__next__") hit.typeIs F.slot_tuple_iterator_next (wpAny_call_entry F.slot_tuple_iterator_next hit.typeIs F.entry_tuple_iterator_next ?_ (F.args_tuple_iterator_next_1 _)))
  show wpAny _ _ (field (.ref it) 0 >>= _) _ _ s
  refine wpAny_bind (wpAny_field ho hd (x := .ref t) rfl ?_)
  show wpAny _ _ (if (Value.ref t == Value.none) = true then _ else _) _ _ s
  rw [if_neg (show ¬ ((Value.ref t == Value.none) = true) from Bool.false_ne_true)]
  show wpAny _ _ (field (.ref it) 1 >>= _) _ _ s
  refine wpAny_bind (wpAny_field ho hd (x := .int i 0) rfl ?_)
  show wpAny _ _ (seqItems? (.ref t) >>= _) _ _ s
  refine wpAny_bind (wpAny_seqItems hol hdl ?_)
  simp only [Int.toNat_natCast, hx]
  refine wpAny_bind (wpAny_rule (wpAny_bind (wpAny_setField ho hd (by simp) ?_)))
  show wpAny _ _ (newExc (.type "StopIteration") [] >>= _) _ _ _
  refine wpAny_bind ?_
  simp only [newExc, newTuple]
  refine wpAny_bind (wpAny_newObj_type ?_ (by size_fits))
  refine wpAny_bind (m := firstArgMember _ _) (wpAny_of_eq (a := Value.none) (by first | rfl | (simp only [firstArgMember]; rfl)) ?_)
  refine wpAny_newObj_type ?_ (by size_fits)
  simp only [raiseNew]
  refine wpAny_bind (wpAny_handled ?_)
  first | rw [show A.in1.handled = none from hh] | rw [hh]
  refine wpAny_bind (wpAny_pure (wpAny_throw ?_))
  exact hE _ _ (((Heap.SameBut.update ..).extBut.push _).push _) ⟨_, Heap.get?_push_size _ rfl, rfl⟩
/-- one step of the enumeration, whatever is walked within: N gives its item and keeps P, a fact that other records don't touch -/
theorem enum_step {e it : Addr} {i : Nat} {x old : Value} {P : Heap → Prop} {Q : Value → Shared → Prop} (he : IsEnum s.heap e it i old) (hne : e ≠ it) (pk : ∀ h h', (∀ o, h.get? it = some o → h'.get? it = some o) → P h → P h')
    (N : ∀ (A : Around) (Q : Value → Shared → Prop), (∀ h', P h' → Heap.SameBut it s.heap h' → Q x { s with heap := h' }) → wpAny (model prog w) A (Builtin.SmallTypes.nextOf (.ref it)) Q E s)
    (hQ : ∀ h', IsEnumOut h' e it ((i : Int) + 1) x s.heap.objs.size → P h' → h'.get? s.heap.objs.size = some { cls := .type "tuple", data := .seq #[.int i s.toks, x] } → h'.objs.size = s.heap.objs.size + 1 →
      (∀ b o, b ≠ e → b ≠ it → s.heap.get? b = some o → h'.get? b = some o) → Q (.ref s.heap.objs.size) { s with heap := h', toks := s.toks + 1 }) :
    wpAny (model prog w) A (Builtin.«enumerate.__next__» ⟨[.ref e], []⟩) (fun fin s' => ∃ v, fin = .done (.ret v) ∧ Q v s') E s := by
  obtain ⟨hp, g, d, tk, os⟩ := s
  have apart : ∀ {h h' : Heap}, Heap.SameBut e h h' → P h → P h' := fun sb p => pk _ _ (fun o q => (sb.2 it (Ne.symm hne)).trans q) p
  have el := Heap.lt_size he
  show wpAny _ _ (field (.ref e) 2 >>= _) _ _ _
  refine wpAny_bind (wpAny_field he rfl (x := .ref it) rfl (wpAny_bind (N _ _ fun h1 p1 sb1 => ?_)))
  have e1 : IsEnum h1 e it i old := (sb1.2 e hne).trans he
  show wpAny _ _ (field (.ref e) 3 >>= _) _ _ ⟨h1, g, d, tk, os⟩
  refine wpAny_bind (wpAny_field e1 rfl (x := rawInt i) rfl ?_)
  show wpAny _ _ (field (.ref e) 4 >>= _) _ _ ⟨h1, g, d, tk, os⟩
  refine wpAny_bind (wpAny_field e1 rfl (x := .none) rfl ?_)
  show wpAny _ _ (mkInt i >>= _) _ _ ⟨h1, g, d, tk, os⟩
  refine wpAny_bind (wpAny_mkInt ?_)
  show wpAny _ _ (setField (.ref e) 3 (rawInt ((i : Int) + 1)) >>= _) _ _ ⟨h1, g, d, tk + 1, os⟩
  refine wpAny_bind (wpAny_setField_rec e1 (by simp) fun h2 e2 sb2 => ?_)
  replace e2 : IsEnum h2 e it ((i : Int) + 1) old := e2
  show wpAny _ _ (setField (.ref e) 4 .none >>= _) _ _ ⟨h2, g, d, tk + 1, os⟩
  refine wpAny_bind (wpAny_setField_rec e2 (by simp) fun h3 e3 sb3 => ?_)
  replace e3 : IsEnum h3 e it ((i : Int) + 1) old := e3
  replace sb1 : Heap.SameBut it hp h1 := sb1
  replace sb2 : Heap.SameBut e h1 h2 := sb2
  replace sb3 : Heap.SameBut e h2 h3 := sb3
  have z : h3.objs.size = hp.objs.size := by rw [sb3.1, sb2.1, sb1.1]
  show wpAny _ _ (newTuple [.int i tk, x] >>= _) _ _ ⟨h3, g, d, tk + 1, os⟩
  refine wpAny_bind (wpAny_newTuple ?_)
  have p4 : P (h3.push { cls := .type "tuple", data := .seq #[.int i tk, x] }) := pk _ _ (fun o q => Heap.get?_push_of_some _ q) (apart sb3 (apart sb2 p1))
  have e4 : IsEnum (h3.push { cls := .type "tuple", data := .seq #[.int i tk, x] }) e it ((i : Int) + 1) old := Heap.get?_push_of_some _ e3
  have t4 : (h3.push { cls := .type "tuple", data := .seq #[.int i tk, x] }).get? hp.objs.size = some { cls := .type "tuple", data := .seq #[.int i tk, x] } := by rw [← z]; exact Heap.get?_push_size _ rfl
  have z4 : (h3.push { cls := .type "tuple", data := .seq #[.int i tk, x] }).objs.size = hp.objs.size + 1 := by rw [Heap.size_push, z]
  have k4 : ∀ b o, b ≠ e → b ≠ it → hp.get? b = some o → (h3.push { cls := .type "tuple", data := .seq #[.int i tk, x] }).get? b = some o := fun b o be bi q => Heap.get?_push_of_some _ (sb3.extBut b o be (sb2.extBut b o be (sb1.extBut b o bi q)))
  generalize h3.push { cls := .type "tuple", data := .seq #[.int i tk, x] } = h4 at p4 e4 t4 z4 k4
  rw [z]
  clear z sb1 sb2 sb3 e1 e2 e3 p1
  show wpAny _ _ (Builtin.SmallTypes.ownedTupleIsFree (.ref e) >>= _) _ _ ⟨h4, g, d, tk + 1, os⟩
  refine wpAny_bind ?_
  unfold Builtin.SmallTypes.ownedTupleIsFree
  refine wpAny_bind (wpAny_field e4 rfl (x := .none) rfl (wpAny_pure ?_))
  simp only [if_true]
  refine wpAny_bind (wpAny_rule (wpAny_bind (wpAny_field e4 rfl (x := old) rfl (wpAny_bind (wpAny_setField_rec e4 (by simp) fun h5 e5 sb5 => ?_)))))
  replace e5 : IsEnum h5 e it ((i : Int) + 1) x := e5
  show wpAny _ _ (Builtin.SmallTypes.ownedTupleHandOut (.ref e) (.ref hp.objs.size) >>= _) _ _ ⟨h5, g, d, tk + 1, os⟩
  refine wpAny_bind ?_
  unfold Builtin.SmallTypes.ownedTupleHandOut
  refine wpAny_bind (wpAny_setField_rec e5 (by simp) fun h6 e6 sb6 => ?_)
  replace e6 : IsEnumOut h6 e it ((i : Int) + 1) x hp.objs.size := e6
  refine wpAny_setField_rec e6 (by simp) fun h7 e7 sb7 => ?_
  replace e7 : IsEnumOut h7 e it ((i : Int) + 1) x hp.objs.size := e7
  replace sb5 : Heap.SameBut e h4 h5 := sb5
  replace sb6 : Heap.SameBut e h5 h6 := sb6
  replace sb7 : Heap.SameBut e h6 h7 := sb7
  have ne4 : hp.objs.size ≠ e := Nat.ne_of_gt el
  refine wpAny_bind (wpAny_letGo (wpAny_pure ⟨_, rfl, hQ h7 e7 (apart sb7 (apart sb6 (apart sb5 p4))) (sb7.extBut _ _ ne4 (sb6.extBut _ _ ne4 (sb5.extBut _ _ ne4 t4))) ?_ fun b o be bi q => sb7.extBut b o be (sb6.extBut b o be (sb5.extBut b o be (k4 b o be bi q)))⟩))
  rw [sb7.1, sb6.1, sb5.1, z4]
theorem enum_t_item {e it t : Addr} {i : Nat} {items : Array Value} {x old : Value} {Q : Option Value → Shared → Prop} (he : IsEnum s.heap e it i old) (hit : s.heap.IsTupleIter it t i) (ht : s.heap.IsTuple t items) (hx : items[i]? = some x) (hne : e ≠ it)
    (hQ : ∀ h', IsEnumOut h' e it ((i : Int) + 1) x s.heap.objs.size → h'.IsTupleIter it t (i + 1) → h'.get? s.heap.objs.size = some { cls := .type "tuple", data := .seq #[.int i s.toks, x] } → h'.objs.size = s.heap.objs.size + 1 →
      (∀ b o, b ≠ e → b ≠ it → s.heap.get? b = some o → h'.get? b = some o) → Q (some (.ref s.heap.objs.size)) { s with heap := h', toks := s.toks + 1 }) : wpAny (model prog w) A (pyNext (.ref e)) Q E s := by
  have hT : s.TypeIs (.ref e) "enumerate" := ⟨_, he, rfl⟩
  unfold pyNext
  refine wpAny_bind (wpAny_attempt (wpAny_callSpecial?_slot (name := Str.ofString "__next__") hT F.slot_enumerate_next (wpAny_call_entry F.slot_enumerate_next hT F.entry_enumerate_next ?_ (F.args_enumerate_next_1 _))))
  refine enum_step (P := fun h => h.IsTupleIter it t (i + 1)) he hne (fun h h' k p => ?_) (fun A Q q => next_t hit ht hx q) fun h' a b c d k => wpAny_pure (hQ h' a b c d k)
  obtain ⟨o, ho, r⟩ := p
  exact ⟨o, k o ho, r⟩
theorem enum_t_end {e it t : Addr} {i : Nat} {items : Array Value} {old : Value} {Q : Option Value → Shared → Prop} (hh : A.handled = none) (he : IsEnum s.heap e it i old) (hit : s.heap.IsTupleIter it t i) (ht : s.heap.IsTuple t items) (hx : items[i]? = none)
    (hQ : ∀ h', Heap.ExtBut it s.heap h' → Q none { s with heap := h' }) : wpAny (model prog w) A (pyNext (.ref e)) Q E s := by
  have hT : s.TypeIs (.ref e) "enumerate" := ⟨_, he, rfl⟩
  unfold pyNext
  refine wpAny_bind (wpAny_attempt (wpAny_callSpecial?_slot (name := Str.ofString "__next__") hT F.slot_enumerate_next (wpAny_call_entry F.slot_enumerate_next hT F.entry_enumerate_next ?_ (F.args_enumerate_next_1 _))))
  show wpAny _ _ (field (.ref e) 2 >>= _) _ _ _
  refine wpAny_bind (wpAny_field he rfl (x := .ref it) rfl (wpAny_bind (next_t_end hh hit ht hx fun h' x he' hx' => ?_)))
  obtain ⟨o, ho, hc⟩ := hx'
  exact wpAny_bind (wpAny_isInstance (T := "StopIteration") (b := true) ⟨o, ho, hc⟩ isSubtype_stop (wpAny_pure (hQ _ he')))
end
theorem new_t (t : Addr) (items : Array Value) (n : Nat) (dct : Option Addr) (sl : Array (Option Value)) :
    Meets (Builtin.«enumerate.__new__» ⟨[.type "enumerate", .ref t], []⟩) (fun _ R s => s.heap.get? t = some ⟨.type "tuple", dct, .seq items n, sl⟩ ∧
      R (.ok (.ret (.ref (s.heap.push { cls := .type "tuple_iterator", data := .fields #[.ref t, .int 0 0] }).objs.size)))
        { s with heap := (s.heap.push { cls := .type "tuple_iterator", data := .fields #[.ref t, .int 0 0] }).push { cls := .type "enumerate", data := .fields #[.none, .bool false, .ref s.heap.objs.size, rawInt 0, .none, .none] } }) :=
  .of_wp fun prog w A R s h => by
    obtain ⟨hp, g, d, tk, os⟩ := s
    obtain ⟨hl, h⟩ := h
    have hsub := sub_enumerate
    have hL : Heap.IsTuple (Shared.heap ⟨hp, g, d, tk, os⟩) t items := ⟨_, hl, rfl, n, rfl⟩
    wp_walk using wpAny_loadPart' hl
    refine wpAny_stack_any fun st => wpAny_pure ?_
    split
    · rename_i c _ _ _ _ _
      cases (c == Value.type "enumerate") <;> (wp_walk using wpAny_loadPart' hl, wpAny_pyIter_tuple hL; exact ⟨_, rfl, h⟩)
    · wp_walk using wpAny_loadPart' hl, wpAny_pyIter_tuple hL
      exact ⟨_, rfl, h⟩
section
variable {prog : Program} {w : World} {A : Around} {E : Value → Shared → Prop} {s : Shared}
theorem call_enumT {t : Addr} {items : Array Value} {Q : Value → Shared → Prop} (hL : s.heap.IsTuple t items)
    (h : ∀ h', IsEnum h' (s.heap.objs.size + 1) s.heap.objs.size 0 .none → h'.IsTupleIter s.heap.objs.size t 0 → (∀ b o, s.heap.get? b = some o → h'.get? b = some o) → Q (.ref (s.heap.objs.size + 1)) { s with heap := h' }) : wpAny (model prog w) A (call (.type "enumerate") [.ref t]) Q E s := by
  obtain ⟨⟨c, dct, dt, sl⟩, hl, hc, n, hd⟩ := hL
  dsimp only at hc hd
  subst hc hd
  refine callType_new F.called_enumerate (by decide) (F.typeCall_enumerate_1 _) (F.newCall_enumerate_1 _) (fun obj => F.args_object_init_2 obj _) F.entry_enumerate_new (new_t t items n dct sl) ⟨hl, ?_⟩
  have z : (s.heap.push { cls := .type "tuple_iterator", data := .fields #[.ref t, .int 0 0] }).objs.size = s.heap.objs.size + 1 := Heap.size_push ..
  show _ ∧ _
  rw [z]
  have he : IsEnum ((s.heap.push { cls := .type "tuple_iterator", data := .fields #[.ref t, .int 0 0] }).push { cls := .type "enumerate", data := .fields #[.none, .bool false, .ref s.heap.objs.size, rawInt 0, .none, .none] }) (s.heap.objs.size + 1) s.heap.objs.size 0 .none := by
    rw [← z]
    exact Heap.get?_push_size _ rfl
  exact ⟨⟨_, he, rfl⟩, h _ he ⟨_, Heap.get?_push_of_some _ (Heap.get?_push_size _ rfl), rfl, rfl⟩ fun b o x => Heap.get?_push_of_some _ (Heap.get?_push_of_some _ x)⟩
end
/-- the tuple at a, each item in a new pair with its number -/
def IteT (K : PySem.W.Frag) (a : Addr) : It :=
  ⟨fun i H => ∃ (xs : List V) (x : V), SqT K H a xs ∧ xs[i]? = some x, fun i H v H' => ∃ T x, v = .ref T ∧ H T = none ∧ H' = upd H T (.tup [.int (i : Nat), x]) ∧ ∀ xs, SqT K H a xs → xs[i]? = some x, fun i H => ∃ xs : List V, SqT K H a xs ∧ xs.length ≤ i⟩
theorem turn_enumT {P : Program} {w : World} {K : PySem.W.Frag} {elts : List Expr} {kk : Nat} {tpos : Pos} (a e it : Addr) :
    Turn P w K (.Tuple elts kk tpos) (IteT K a) [e, it] e (fun i h => (∃ old, IsEnum h e it ((i : Nat) : Int) old) ∧ h.IsTupleIter it a i ∧ e ≠ it) where
  mem := by simp
  obj := fun i h st b hb => by
    obtain ⟨⟨old, he⟩, ⟨o, ho, hc, hd⟩, _⟩ := st
    rcases (by simpa using hb : b = e ∨ b = it) with z | z
    · rw [z]; exact ⟨_, he, fun v q => nomatch q⟩
    · rw [z]; exact ⟨o, ho, fun v q => by rw [hd] at q; cases q⟩
  keep := fun i h h' st k => by
    obtain ⟨⟨old, he⟩, ⟨o, ho, r⟩, hne⟩ := st
    exact ⟨⟨old, k e (by simp) _ he⟩, ⟨o, k it (by simp) o ho, r⟩, hne⟩
  item := by
    intro X hP hw hK hc i pins s σ H E I hf st hg
    subst hP hw hK
    obtain ⟨⟨old, he⟩, hit, hne⟩ := st
    obtain ⟨xs, x, hq, hx⟩ := hg
    obtain ⟨its, rv, p, hz⟩ := I.tuple hq
    obtain ⟨u, hu, ru⟩ := rv.get hx
    have el := Heap.lt_size he
    have il : it < s.heap.objs.size := by
      obtain ⟨_, q, _⟩ := hit
      exact Heap.lt_size q
    refine enum_t_item he hit (show s.heap.IsTuple a its.toArray from p) (x := u) (by simpa using hu) hne fun h' ho hit' hT hsz hk => ?_
    refine ⟨_, rfl, wpAny_letOwnedTupleGo_enum (s := { s with heap := h', toks := s.toks + 1 }) ho fun h'' he' sb => ?_⟩
    have hT2 : h''.get? s.heap.objs.size = some { cls := .type "tuple", data := .seq #[.int i s.toks, u] } := (sb.2 _ (Nat.ne_of_gt el)).trans hT
    have I1 : Inv X pins σ (upd H s.heap.objs.size (.tup [.int (i : Nat), x])) { s with heap := h'', toks := s.toks + 1 } :=
      I.turnedNew (ch := [e, it]) (fun b ob hb q => (sb.2 b (fun z => hb (by simp [z]))).trans (hk b ob (fun z => hb (by simp [z])) (fun z => hb (by simp [z])) q)) hf (Nat.le_refl _) ⟨by show 2 ≤ sizeLine; decide, [.int i s.toks, u], .cons ⟨_, rfl⟩ (.cons ru .nil), ⟨_, hT2, rfl, _, rfl⟩⟩
    refine ⟨.ref s.heap.objs.size, _, I1, rfl, ⟨_, x, rfl, I.hok.fresh (Nat.le_refl _), rfl, fun ys hy => by rw [I.tuple_inj hy hq]; exact hx⟩, ⟨⟨u, ?_⟩, ?_, hne⟩, fun b hb => ?_⟩
    · rw [show ((i + 1 : Nat) : Int) = (i : Int) + 1 by omega]
      exact he'
    · obtain ⟨o, ho, r⟩ := hit'
      exact ⟨o, (sb.2 it (Ne.symm hne)).trans ho, r⟩
    · have lt : b < s.heap.objs.size := by
        rcases (by simpa using hb : b = e ∨ b = it) with z | z
        · rw [z]; exact el
        · rw [z]; exact il
      rw [upd_ne (Nat.ne_of_lt lt)]
      exact (hf b hb).1
  done := by
    intro X hP hw hK hc i pins s σ H E I hf st hg
    subst hP hw hK
    obtain ⟨⟨old, he⟩, hit, hne⟩ := st
    obtain ⟨xs, hq, hx⟩ := hg
    obtain ⟨its, rv, p, hz⟩ := I.tuple hq
    obtain ⟨f0, f1, f2, f3, f4, f5⟩ := hf it (by simp)
    have hl := rv.length
    exact enum_t_end (I.ok.hd hc) he hit (show s.heap.IsTuple a its.toArray from p) (by simp; omega) fun h' eb => ⟨rfl, I.turned (t' := s.toks) (fun b o hb q => eb b o hb q) f0 f1 f3 f4 f5⟩
  self := fun A i s Q E st h => by
    obtain ⟨⟨_, he⟩, _⟩ := st
    exact wpAny_pyIter_enum he h
@[irreducible] def iEnumT (K : PySem.W.Frag) (ta : TA) : TI := fun σ H R => ta σ H fun vs H1 => ∃ a xs, vs = [.ref a] ∧ SqT K H1 a xs ∧ R (IteT K a) H1
theorem pi_enumT {X : Cx} {e : Expr} {ta : TA} {p pos tpos : Pos} {elts : List Expr} {kk : Nat} (hg : Gl X "enumerate") (hm : X.mg "enumerate" = none) (ha : PA X [e] ta) (hs : starEach [e] X.env = [(false, eval e X.env)] := by rfl) :
    PI X (.Tuple elts kk tpos) (.Call (.Name "enumerate" p) [e] [] pos) (iEnumT X.K ta) := by
  refine ⟨fun pins s σ H R I h => ?_⟩
  unfold iEnumT at h
  refine Call_ (ld_blt I hg hm boot_enumerate (PyProof.Rows.callWith_type1 (thn (ha.run pos pins s σ H _ I h) fun us s1 ⟨vs, H1, I1, r1, a, xs, ex, hq, q⟩ => ?_) hs rfl))
  subst ex
  cases r1 with
  | cons r rr =>
    cases rr
    cases r
    obtain ⟨its, rv, p', hz⟩ := I1.tuple hq
    refine call_enumT (show s1.heap.IsTuple a its.toArray from p') fun h' he hit hk => wpAny_pyIter_enum he ?_
    refine ⟨s1.heap.objs.size + 1, [s1.heap.objs.size + 1, s1.heap.objs.size], _, _, H1, rfl, I1.kept (t' := s1.toks) hk, turn_enumT a (s1.heap.objs.size + 1) s1.heap.objs.size, ⟨⟨.none, he⟩, hit, Nat.succ_ne_self _⟩, fun b hb => ?_, q⟩
    have hle : s1.heap.objs.size ≤ b := by
      rcases (by simpa using hb : b = s1.heap.objs.size + 1 ∨ b = s1.heap.objs.size) with z | z
      · rw [z]; exact Nat.le_add_right _ _
      · rw [z]; exact Nat.le_refl _
    exact I1.fpOk hle (I1.hok.fresh hle)
theorem walk_enumT {K : PySem.W.Frag} {a : Addr} {xs : List V} : Walk (IteT K a) xs.length (fun H => SqT K H a xs) (fun i H v H' => ∃ T x, v = .ref T ∧ H T = none ∧ H' = upd H T (.tup [.int (i : Nat), x]) ∧ xs[i]? = some x) :=
  ⟨fun i H hi h => ⟨xs, xs[i], h, by simp [hi]⟩, fun H h => ⟨xs, h, Nat.le_refl _⟩, fun i H x H' hi h y => by
    obtain ⟨T, z, h1, h2, h3, h4⟩ := y
    exact ⟨T, z, h1, h2, h3, h4 xs h⟩⟩
end En
set_option maxHeartbeats 4000000
/-! dicts whose keys are rows: couples of tuples of ints -/
namespace DcN
open PySem PySem.Spec PyProof.Rows L2 Sq My
abbrev Ent := NestedKey × Addr × Value
def dnO (P : Program) (w : World) (d : Addr) (xs : List Ent) : HO := .ext fun h => (d == sysModules) = false ∧ ∃ o es ep, h.get? d = some o ∧ o.ExactDict ∧ o.data = .dict es ep ∧ es.toList = xs.map (entryOfKey (nestedKind P w)) ∧ (xs.map (·.1)).Nodup
def KeyIs (X : Cx) (H : Hp) (k : NestedKey) (b : Addr) : Prop := ∀ (pins : List (Addr × Obj)) (σ : L2.St) (s : Shared), Inv X pins σ H s → (nestedKind X.prog X.w).is s.heap k b
section
variable {X : Cx} {pins : List (Addr × Obj)} {σ : L2.St} {H : Hp} {s : Shared} {d b : Addr} {xs : List Ent} {k : NestedKey} {A : Around}
theorem dn_of (I : Inv X pins σ H s) (e : H d = some (dnO X.prog X.w d xs)) (hk : ∀ z ∈ xs, KeyIs X H z.1 z.2.1) : (d == sysModules) = false ∧ s.heap.DictOfH (nestedKind X.prog X.w) d xs := by
  have ok : ObjOk X.prog X.w H s.heap d (dnO X.prog X.w d xs) := I.hok d _ e
  obtain ⟨⟨h0, o, es, ep, h1, h2, h3, h4, h5⟩, _⟩ := ok
  exact ⟨h0, o, es, ep, h1, h2, h3, h4, fun z hz => hk z hz _ _ _ I, h5⟩
theorem dn_ok {P : Program} {w : World} {H' : Hp} {h' : Heap} (h0 : (d == sysModules) = false) (dd : h'.DictOfH (nestedKind P w) d xs) : ObjOk P w H' h' d (dnO P w d xs) := by
  obtain ⟨o, es, ep, h1, h2, h3, h4, _, h5⟩ := dd
  exact ⟨⟨h0, o, es, ep, h1, h2, h3, h4, h5⟩, ⟨o, h1⟩, fun a1 a2 ⟨q0, q1, q2, q3, q4, q5⟩ hh => ⟨q0, q1, q2, q3, hh _ q4, q5⟩⟩
/-- {} -/
def tDNewN (P : Program) (w : World) : TE := fun _ H Q => ∀ p, H p = none → Q (.ref p) (upd H p (dnO P w p []))
theorem pe_dnewN {pos : Pos} : PE X (.Dict [] [] pos) (tDNewN X.prog X.w) := ⟨fun pins s σ H Q I h =>
  wpAny_Dict_empty ⟨.ref s.heap.objs.size, _, I.laid (a := s.heap.objs.size) (o := dnO X.prog X.w s.heap.objs.size []) (t' := s.toks) (fun _ _ q => Heap.get?_push_of_some _ q) (Nat.le_refl _) (by
    have hb := I.big
    exact dn_ok (beq_eq_false_iff_ne.mpr (Ne.symm (Nat.ne_of_lt hb))) ⟨_, #[], 0, Heap.get?_push_size _ rfl, ⟨rfl, rfl, rfl⟩, rfl, rfl, by simp, List.nodup_nil⟩), rfl, h _ (I.hok.fresh (Nat.le_refl _))⟩⟩
/-- k not in d -/
def rNotInN (X : Cx) : R2 := fun y x H Q => ∃ (d b : Addr) (xs : List Ent) (k : NestedKey), x = .ref d ∧ y = .ref b ∧ H d = some (dnO X.prog X.w d xs) ∧ (∀ z ∈ xs, KeyIs X H z.1 z.2.1) ∧ KeyIs X H k b ∧ Q (.bl (!(atKey xs k).isSome)) H
theorem op_notInN (hu : X.A.units + 64 < cLine) : OpR X (compareOp .NotIn) (rNotInN X) := by
  intro pins s σ H y x v u Q I ry rx h
  obtain ⟨d, b, xs, k, rfl, rfl, e, hk, kb, q⟩ := h
  cases ry
  cases rx
  obtain ⟨h0, dd⟩ := dn_of I e hk
  refine wpAny_notIn_heap (by show X.A.units + 1 + 8 < cLine; omega) (kb _ _ _ I) h0 dd ?_
  exact ⟨.bl _, H, I.tok _, rfl, q⟩
/-- d[k] = True, k new -/
def rSetN (X : Cx) : TSet := fun o i v H Q => ∃ (d b : Addr) (xs : List Ent) (k : NestedKey), o = .ref d ∧ i = .ref b ∧ v = .bl true ∧ H d = some (dnO X.prog X.w d xs) ∧ (∀ z ∈ xs, KeyIs X H z.1 z.2.1) ∧ KeyIs X H k b ∧ xs.length < sizeLine ∧ atKey xs k = none ∧
  Q (upd H d (dnO X.prog X.w d (xs ++ [(k, b, .bool true)])))
theorem set_dictN (hu : X.A.units + 64 < cLine) : PSet X (rSetN X) := by
  intro pins s σ H o i v ov iv u Q I ro ri rv h
  obtain ⟨d, b, xs, k, rfl, rfl, rfl, e, hk, kb, hl, hn, q⟩ := h
  cases ro
  cases ri
  cases rv
  obtain ⟨h0, dd⟩ := dn_of I e hk
  refine wpAny_setItem_heap (hsz := Nat.le_of_lt hl) (by show X.A.units + 1 + 8 < cLine; omega) (kb _ _ _ I) dd fun h' dd' hs => ?_
  rw [storedH_new hn] at dd'
  have he : ∃ q, h'.get? d = some q := let ⟨q, _, _, hq, _⟩ := dd'; ⟨q, hq⟩
  exact ⟨_, I.write (x := d) (e := d) (by rw [e]; exact True.intro) (.inl rfl) (fun b q hb z => (hs.2 b hb).trans z) he (dn_ok h0 dd'), q⟩
end
/-! ### the same, P and w named -/
section
variable {X : Cx} {P : Program} {w : World}
def rNotInNP (P : Program) (w : World) (X : Cx) : R2 := fun y x H Q => ∃ (d b : Addr) (xs : List Ent) (k : NestedKey), x = .ref d ∧ y = .ref b ∧ H d = some (dnO P w d xs) ∧ (∀ z ∈ xs, KeyIs X H z.1 z.2.1) ∧ KeyIs X H k b ∧ Q (.bl (!(atKey xs k).isSome)) H
theorem op_notInNP (hp : X.prog = P) (hw : X.w = w) (hu : X.A.units + 64 < cLine) : OpR X (compareOp .NotIn) (rNotInNP P w X) := by
  subst hp hw
  exact op_notInN hu
def rSetNP (P : Program) (w : World) (X : Cx) : TSet := fun o i v H Q => ∃ (d b : Addr) (xs : List Ent) (k : NestedKey), o = .ref d ∧ i = .ref b ∧ v = .bl true ∧ H d = some (dnO P w d xs) ∧ (∀ z ∈ xs, KeyIs X H z.1 z.2.1) ∧ KeyIs X H k b ∧ xs.length < sizeLine ∧ atKey xs k = none ∧
  Q (upd H d (dnO P w d (xs ++ [(k, b, .bool true)])))
theorem set_dictNP (hp : X.prog = P) (hw : X.w = w) (hu : X.A.units + 64 < cLine) : PSet X (rSetNP P w X) := by
  subst hp hw
  exact set_dictN hu
theorem pe_dnewNP {pos : Pos} (hp : X.prog = P) (hw : X.w = w) : PE X (.Dict [] [] pos) (tDNewN P w) := by
  subst hp hw
  exact pe_dnewN
end
/-! ### rows as keys -/
def sdK (l : List Int) : NestedKey := .tup (l.map .num)
def rwK (r : List Int × List Int) : NestedKey := .tup [sdK r.1, sdK r.2]
theorem num_inj {l m : List Int} (h : l.map NestedKey.num = m.map NestedKey.num) : l = m := List.map_inj_right (fun _ _ e => by cases e; rfl) |>.mp h
theorem rwK_inj {r t : List Int × List Int} (h : rwK r = rwK t) : r = t := by
  unfold rwK sdK at h
  injection h with h
  injection h with h1 h2
  injection h2 with h2 _
  injection h1 with h1
  injection h2 with h2
  exact Prod.ext (num_inj h1) (num_inj h2)
theorem ints_all {h : Heap} : ∀ {ns : List Int} {us : List Value}, Vals (ns.map V.int) us → NestedAll h (ns.map .num) us
  | [], _, r => by
    cases r
    exact .nil
  | n :: ns, _, r => by
    cases r with
    | cons r t =>
      obtain ⟨k, rfl⟩ := (show ∃ t, _ = Value.int n t from r)
      exact .cons (.int n k) (ints_all t)
theorem dep_num : ∀ ns : List Int, NestedKey.depthAll (ns.map .num) = 0
  | [] => rfl
  | n :: r => by
    rw [List.map_cons, NestedKey.depthAll, dep_num r, NestedKey.depth]
    rfl
theorem dep_rw (r : List Int × List Int) : (rwK r).depth ≤ 8 := by
  unfold rwK sdK
  simp only [NestedKey.depth, NestedKey.depthAll, dep_num]
  decide
theorem key_side {X : Cx} {pins : List (Addr × Obj)} {σ : L2.St} {H : Hp} {s : Shared} {v : V} {ns : List Int} {u : Value} (I : Inv X pins σ H s) (h : IntsT X.K H v ns) (r : RelV v u) : NestedIs s.heap (sdK ns) u := by
  obtain ⟨a, rfl, hs⟩ := h
  cases r
  obtain ⟨its, rv, ⟨o, ho, hc, n, hd⟩, _⟩ := I.tuple hs
  exact .tup ho hc hd (by simpa using ints_all rv)
theorem key_row {X : Cx} {H : Hp} {b : Addr} {r : List Int × List Int} (h : RowT X.K H (.ref b) r) : KeyIs X H (rwK r) b := fun pins σ s I => by
  obtain ⟨a, x, y, e, hs, h1, h2⟩ := h
  cases e
  obtain ⟨its, rv, ⟨o, ho, hc, n, hd⟩, _⟩ := I.tuple hs
  cases rv with
  | cons r1 t =>
    cases t with
    | cons r2 t =>
      cases t
      exact ⟨.tup ho hc hd (.cons (key_side I h1 r1) (.cons (key_side I h2 r2) .nil)), dep_rw r⟩
/-- the rows that are keys -/
def RowsK (K : PySem.W.Frag) (H : Hp) (xs : List Ent) (rs : List (List Int × List Int)) : Prop := xs.map (·.1) = rs.map rwK ∧ ∀ (i : Nat) (z : Ent) (r : List Int × List Int), xs[i]? = some z → rs[i]? = some r → RowT K H (.ref z.2.1) r
theorem rowsK_key {X : Cx} {H : Hp} {xs : List Ent} {rs : List (List Int × List Int)} (h : RowsK X.K H xs rs) : ∀ z ∈ xs, KeyIs X H z.1 z.2.1 := fun z hz => by
  obtain ⟨i, hi⟩ := List.mem_iff_getElem?.mp hz
  have e : (xs.map (·.1))[i]? = (rs.map rwK)[i]? := by rw [h.1]
  rw [List.getElem?_map, List.getElem?_map, hi] at e
  cases hr : rs[i]? with
  | none =>
    rw [hr] at e
    cases e
  | some r =>
    rw [hr] at e
    have e2 : z.1 = rwK r := Option.some.inj e
    rw [e2]
    exact key_row (h.2 i z r hi hr)
theorem at_rows : ∀ {xs : List Ent} {rs : List (List Int × List Int)} (r : List Int × List Int), xs.map (·.1) = rs.map rwK → (atKey xs (rwK r)).isSome = decide (r ∈ rs)
  | [], [], r, _ => by simp [atKey]
  | [], _ :: _, r, h => by cases h
  | _ :: _, [], r, h => by cases h
  | x :: xs, t :: rs, r, h => by
    rw [List.map_cons, List.map_cons] at h
    obtain ⟨h1, h2⟩ := List.cons.inj h
    have ih := at_rows (xs := xs) (rs := rs) r h2
    unfold atKey at ih ⊢
    rw [List.find?_cons]
    by_cases e : r = t
    · subst e
      rw [h1]
      simp
    · have ne : ¬ x.1 = rwK r := fun z => e (rwK_inj (z.symm.trans h1))
      rw [decide_eq_false ne]
      rw [ih]
      simp [e]
end DcN
set_option maxHeartbeats 4000000
namespace My
open PySem PySem.Spec PyProof.Rows L2 Lcn Sq
open En DcN
theorem ne_of_none' {H : Hp} {a b : Addr} {o : HO} (h : H a = some o) (n : H b = none) : b ≠ a := fun e => by
  rw [e, h] at n
  cases n
theorem u1 {u : Nat} (h : u + 64 < cLine) : u + 1 < cLine := Nat.lt_of_le_of_lt (Nat.add_le_add_left (by decide) _) h
theorem _root_.DcN.RowsK.mono {K : PySem.W.Frag} {H H' : Hp} (m : ∀ v r, RowT K H v r → RowT K H' v r) {es : List Ent} {rs : List Rw} (h : RowsK K H es rs) : RowsK K H' es rs := ⟨h.1, fun i z r h1 h2 => m _ _ (h.2 i z r h1 h2)⟩
theorem rowsK_snoc {K : PySem.W.Frag} {H : Hp} {es : List Ent} {rs : List Rw} {z : Ent} {r : Rw} (h : RowsK K H es rs) (e : z.1 = rwK r) (hr : RowT K H (.ref z.2.1) r) : RowsK K H (es ++ [z]) (rs ++ [r]) := by
  have l : es.length = rs.length := by
    have := congrArg List.length h.1
    simpa using this
  refine ⟨by rw [List.map_append, List.map_append, h.1, List.map_singleton, List.map_singleton, e], fun i z' r' h1 h2 => ?_⟩
  rcases Nat.lt_or_ge i es.length with lt | ge
  · rw [List.getElem?_append_left lt] at h1
    rw [List.getElem?_append_left (by omega)] at h2
    exact h.2 i z' r' h1 h2
  · rw [List.getElem?_append_right ge] at h1
    rw [List.getElem?_append_right (by omega), ← l] at h2
    cases q : i - es.length with
    | zero =>
      rw [q] at h1 h2
      cases h1
      cases h2
      exact hr
    | succ j =>
      rw [q] at h1
      cases h1
/-! ### rows, each once -/
def swp (r : Rw) : Rw := (r.2, r.1)
def kpS (k : List Rw) (r : Rw) : List Rw := if r ∈ k ∨ swp r ∈ k then k else k ++ [r]
def keptF (R : List Rw) : List Rw := R.foldl kpS []
theorem kp_step {R : List Rw} {i : Nat} {r : Rw} (h : R[i]? = some r) : keptF (R.take (i + 1)) = kpS (keptF (R.take i)) r := by
  obtain ⟨p, e⟩ := List.getElem?_eq_some_iff.mp h
  unfold keptF
  rw [List.take_succ_eq_append_getElem p, List.foldl_append, e]
  rfl
theorem kp_len (R : List Rw) : (keptF R).length ≤ R.length := by
  have : ∀ (R k : List Rw), (R.foldl kpS k).length ≤ k.length + R.length := by
    intro R
    induction R with
    | nil => intro k; simp
    | cons r R ih =>
      intro k
      rw [List.foldl_cons]
      have := ih (kpS k r)
      have h2 : (kpS k r).length ≤ k.length + 1 := by
        unfold kpS
        split
        · omega
        · simp
      rw [List.length_cons]
      omega
  simpa [keptF] using this R []
def sp_unlike_rows (K : PySem.W.Frag) : Sp := fun vs H Q _ => ∃ (v : V) (R : List Rw), vs = [v] ∧ SeqT K (RowT K) H v R ∧ R.length < 1000 ∧ ∀ (p : Addr) (H' : Hp), Same H H' → H p = none → LstR K (RowT K) H' p (keptF R) → Q (.ref p) H'
/-! ### ints, each once -/
def fsS (k : List Int) (n : Int) : List Int := if n ∈ k then k else k ++ [n]
def firsts (ns : List Int) : List Int := ns.foldl fsS []
theorem fs_step {ns : List Int} {i : Nat} {n : Int} (h : ns[i]? = some n) : firsts (ns.take (i + 1)) = fsS (firsts (ns.take i)) n := by
  obtain ⟨p, e⟩ := List.getElem?_eq_some_iff.mp h
  unfold firsts
  rw [List.take_succ_eq_append_getElem p, List.foldl_append, e]
  rfl
theorem fs_len (ns : List Int) : (firsts ns).length ≤ ns.length := by
  have : ∀ (R k : List Int), (R.foldl fsS k).length ≤ k.length + R.length := by
    intro R
    induction R with
    | nil => intro k; simp
    | cons r R ih =>
      intro k
      rw [List.foldl_cons]
      have := ih (fsS k r)
      have h2 : (fsS k r).length ≤ k.length + 1 := by
        unfold fsS
        split
        · omega
        · simp
      rw [List.length_cons]
      omega
  simpa [firsts] using this ns []
def sp_first_places (K : PySem.W.Frag) : Sp := fun vs H Q _ => ∃ (p : Addr) (ns : List Int), vs = [.ref p] ∧ H p = some (.lst (ns.map V.int)) ∧ ns.length < sizeLine ∧ ∀ (v : V) (H' : Hp), Same H H' → IntsT K H' v (firsts ns) → Q v H'
def trueK (ns : List Int) : List (Key × V) := ns.map fun n => ((.inl n, .bl true) : Key × V)
theorem tk_val : ∀ (ns : List Int) (n : Int), (valV (trueK ns) (.inl n)).isSome = decide (n ∈ ns)
  | [], n => by simp [trueK, valV]
  | m :: ns, n => by
    have ih := tk_val ns n
    unfold trueK at ih ⊢
    rw [List.map_cons]
    by_cases e : m = n
    · subst e
      rw [valV_pos rfl]
      simp
    · rw [valV_neg (fun z => e (Sum.inl.inj z)), ih]
      have : ¬ n = m := fun z => e z.symm
      simp [this]
theorem tk_put (ns : List Int) (n : Int) : putK (trueK ns) (.inl n) (.bl true) = trueK (fsS ns n) := by
  have h := tk_val ns n
  unfold fsS
  by_cases c : n ∈ ns
  · rw [if_pos c]
    rw [decide_eq_true c] at h
    unfold putK
    rw [valV_any, if_pos h]
    unfold trueK
    rw [List.map_map]
    refine List.map_congr_left fun m _ => ?_
    show (if _ then _ else _) = _
    split <;> rfl
  · rw [if_neg c]
    rw [decide_eq_false c] at h
    have e : valV (trueK ns) (.inl n) = none := by
      cases q : valV (trueK ns) (.inl n) with
      | none => rfl
      | some v => rw [q] at h; cases h
    rw [putK_new _ e]
    simp [trueK]
/-! ### ends -/
def plainF (n : Int) (e : Int × List Int) : Int × List Int := if (e.2.length : Int) = n then (0, e.2) else e
def sp_plain_ends (K : PySem.W.Frag) : Sp := fun vs H Q _ => ∃ (v : V) (e : Int × List Int) (n : Int), vs = [v, .int n] ∧ EndT K H v e ∧ ∀ (v' : V) (H' : Hp), Same H H' → EndT K H' v' (plainF n e) → Q v' H'
theorem sc_unlike_rows : FnScope ["rows", "met", "kept", "left", "right"] ["rows"] (defScope s_unlike_rows) := ⟨rfl, rfl, rfl, by decide +kernel, rfl, by decide +kernel, by decide +kernel⟩
section
variable {P : Program} {w : World} {K : PySem.W.Frag} {mg : Str → Option Value} {base : Heap}
theorem ok_unlike_rows (D_unlike_rows : Dn K mg "unlike_rows" s_unlike_rows ["rows"]) (T : TB mg) : FnOk P w K mg base CX0 1 D_unlike_rows.f D_unlike_rows.fd ["rows"] (sp_unlike_rows K) := by
  refine ok0 D_unlike_rows.F sc_unlike_rows (fun vs H Q E h => ?_) (fun cdv A outer s H vs Q E hr h => ?_)
  · obtain ⟨v, R, rfl, ⟨a, xs, rfl, sa, la, fa⟩, rl, k⟩ := h
    rfl
  · obtain ⟨v, R, rfl, ⟨a, xs, rfl, sa, la, fa⟩, rl, k⟩ := h
    refine ⟨_, (pss_cons (ps_set (i := 1) sc_unlike_rows.nd rfl (by first | exact Or.inl rfl | exact Or.inr rfl) (pe_dnewNP (P := P) (w := w) rfl rfl))
  (pss_cons (ps_set (i := 2) sc_unlike_rows.nd rfl (by first | exact Or.inl rfl | exact Or.inr rfl) (pe_lst pa_nil))
  (pss_cons (ps_for PassesOwn.never rfl (pi_seq (pv 0)) (pg_tup (n := 2) rfl (pgs_cons (pg_name (i := 3) sc_unlike_rows.nd rfl (by first | exact Or.inl rfl | exact Or.inr rfl)) (pgs_cons (pg_name (i := 4) sc_unlike_rows.nd rfl (by first | exact Or.inl rfl | exact Or.inr rfl)) pgs_nil))) (pss_one (ps_if (PW.pt (pw_and (pt_cmpR (op_notInNP (P := P) (w := w) rfl rfl hr.units) (pe_tup (pa_cons (pv 3) (pa_cons (pv 4) pa_nil))) (pv 1) (by rfl)) (pw_and1 (pt_cmpR (op_notInNP (P := P) (w := w) rfl rfl hr.units) (pe_tup (pa_cons (pv 4) (pa_cons (pv 3) pa_nil))) (pv 1) (by rfl))))) (pss_cons (ps_asg pe_bl (pg_sub (pv 1) (pe_tup (pa_cons (pv 3) (pa_cons (pv 4) pa_nil))) (set_dictNP (P := P) (w := w) rfl rfl hr.units)))
  (pss_one (ps_expr (pe_bm PySem.F.plainAttrs_list PySem.F.slot_list_append PySem.F.type_list_append mt_append (pv 2) (pa_cons (pe_tup (pa_cons (pv 3) (pa_cons (pv 4) pa_nil))) pa_nil))))) pss_nil)))
  (pss_one (ps_ret (pv 2)))))), ?_⟩
    refine fun d hd => ?_
    have sd : Same H (upd H d (dnO P w d [])) := same_new hd
    refine ⟨(by show 0 ≤ sizeLine; decide), fun D hD => ?_⟩
    have nD : D ≠ d := fun z => by
      rw [z, upd_same] at hD
      cases hD
    have hD0 : H D = none := by
      rw [upd_ne nD] at hD
      exact hD
    have sD := sd.trans (same_new (o := .lst []) hD)
    refine seq_rd sD (fun _ q => ⟨_, rfl, q⟩) (.inr sa) fun J Gw w' gw => ?_
    refine for_it w' (fun i σ H' => ∃ (o3 o4 : Option V) (es : List Ent), σ = [some (.ref a), some (.ref d), some (.ref D), o3, o4] ∧ Same H H' ∧ H' d = some (dnO P w d es) ∧ RowsK K H' es (keptF (R.take i)) ∧ LstR K (RowT K) H' D (keptF (R.take i))) ⟨_, _, [], rfl, sD, ?_, ⟨rfl, by simp⟩, lst_nil⟩ (fun _ _ H' _ p => gw H' fun o h => by
      obtain ⟨_, _, _, _, s, _⟩ := p
      exact s _ o h) (fun i x σ H2 H3 hi p y => ?_) (fun σ H2 p => ?_)
    · rw [upd_ne (Ne.symm nD)]
      exact upd_same
    · obtain ⟨rfl, hx⟩ := y
      obtain ⟨o3, o4, es, rfl, s2, hd2, hk2, xD, g1, g2, g3⟩ := p
      obtain ⟨r, hr2⟩ := seq_at la hx
      obtain ⟨ar, x1, y1, rfl, hrow, hx1, hy1⟩ := (fa i x r hx hr2).kt (KT.of s2)
      rw [kp_step hr2]
      refine ⟨ar, _, rfl, hrow, rfl, _, _, rfl, _, _, rfl, rfl, ?_⟩
      have hi1 : i < 1000 := by omega
      have kl : (keptF (R.take i)).length ≤ i := Nat.le_trans (kp_len _) (by rw [List.length_take]; omega)
      have el : es.length = (keptF (R.take i)).length := by
        have := congrArg List.length hk2.1
        simpa using this
      have row : ∀ {H4 : Hp} {q : Addr} {x y : V} {l m : List Int}, H4 q = none → IntsT K H4 x l → IntsT K H4 y m → RowT K (upd H4 q (.tup [x, y])) (.ref q) (l, m) := fun hq hx hy => ⟨_, _, _, rfl, SqT.of upd_same, hx.kt (KT.new hq), hy.kt (KT.new hq)⟩
      refine ⟨_, rfl, _, rfl, (by show 2 ≤ sizeLine; decide), fun q1 n1 => ?_⟩
      have s3 := same_new (o := .tup [x1, y1]) n1
      have kA : RowsK K (upd H3 q1 (.tup [x1, y1])) es (keptF (R.take i)) := ⟨hk2.1, fun i z r h1 h2 => (hk2.2 i z r h1 h2).kt (KT.of s3)⟩
      refine ⟨_, rfl, d, q1, es, rwK r, rfl, rfl, s3 _ _ hd2, rowsK_key kA, key_row (row n1 hx1 hy1), ?_⟩
      have xA := hx1.kt (KT.of s3)
      have yA := hy1.kt (KT.of s3)
      have out : ∀ {Hx : Hp}, Same H3 Hx → (r ∈ keptF (R.take i) ∨ swp r ∈ keptF (R.take i)) → ∃ (o3 o4 : Option V) (es : List Ent), ([some (.ref a), some (.ref d), some (.ref D), some x1, some y1] : L2.St) = [some (.ref a), some (.ref d), some (.ref D), o3, o4] ∧ Same H Hx ∧ Hx d = some (dnO P w d es) ∧ RowsK K Hx es (kpS (keptF (R.take i)) r) ∧ LstR K (RowT K) Hx D (kpS (keptF (R.take i)) r) := fun sx c => by
        unfold kpS
        rw [if_pos c]
        exact ⟨_, _, es, rfl, s2.trans sx, sx _ _ hd2, ⟨hk2.1, fun i z r h1 h2 => (hk2.2 i z r h1 h2).kt (KT.of sx)⟩, LstR.same kR sx ⟨xD, g1, g2, g3⟩⟩
      rw [at_rows r hk2.1]
      by_cases c1 : r ∈ keptF (R.take i)
      · rw [decide_eq_true c1]
        refine ⟨_, rfl, ?_⟩
        exact out s3 (.inl c1)
      · rw [decide_eq_false c1]
        refine ⟨_, rfl, ?_⟩
        refine ⟨_, rfl, _, rfl, (by show 2 ≤ sizeLine; decide), fun q2 n2 => ?_⟩
        have s4 := same_new (o := .tup [y1, x1]) n2
        have s34 := s3.trans s4
        have kB : RowsK K (upd (upd H3 q1 (.tup [x1, y1])) q2 (.tup [y1, x1])) es (keptF (R.take i)) := ⟨hk2.1, fun i z r h1 h2 => (hk2.2 i z r h1 h2).kt (KT.of s34)⟩
        refine ⟨_, rfl, d, q2, es, rwK (swp r), rfl, rfl, s34 _ _ hd2, rowsK_key kB, key_row (row n2 yA xA), ?_⟩
        rw [at_rows (swp r) hk2.1]
        by_cases c2 : swp r ∈ keptF (R.take i)
        · rw [decide_eq_true c2]
          refine ⟨_, rfl, ?_⟩
          exact out s34 (.inr c2)
        · rw [decide_eq_false c2]
          refine ⟨_, rfl, ?_⟩
          have xB := xA.kt (KT.of s4)
          have yB := yA.kt (KT.of s4)
          refine ⟨_, rfl, _, rfl, _, rfl, (by show 2 ≤ sizeLine; decide), fun q3 n3 => ?_⟩
          have s5 := same_new (o := .tup [x1, y1]) n3
          have s35 := s34.trans s5
          have rC := row n3 xB yB
          have dC := s35 _ _ hd2
          have kC : RowsK K _ es (keptF (R.take i)) := ⟨hk2.1, fun i z r h1 h2 => (hk2.2 i z r h1 h2).kt (KT.of s35)⟩
          have none1 : atKey es (rwK r) = none := by
            have := at_rows r hk2.1
            rw [decide_eq_false c1] at this
            cases q : atKey es (rwK r) with
            | none => rfl
            | some v => rw [q] at this; cases this
          refine ⟨d, q3, es, rwK r, rfl, rfl, rfl, dC, rowsK_key kC, key_row rC, by rw [el]; exact k1000 (by omega), none1, ?_⟩
          have gC := s35 _ _ g1
          have nid : NI _ (upd (upd (upd (upd H3 q1 (.tup [x1, y1])) q2 (.tup [y1, x1])) q3 (.tup [x1, y1])) d (dnO P w d (es ++ [(rwK r, q3, .bool true)]))) := NI.bt dC rfl fun b u nb x => by
            rw [upd_ne nb]
            exact x
          have gD : (upd (upd (upd (upd H3 q1 (.tup [x1, y1])) q2 (.tup [y1, x1])) q3 (.tup [x1, y1])) d (dnO P w d (es ++ [(rwK r, q3, .bool true)]))) D = some (.lst xD) := by
            rw [upd_ne nD]
            exact gC
          have sH : Same H (upd (upd (upd (upd H3 q1 (.tup [x1, y1])) q2 (.tup [y1, x1])) q3 (.tup [x1, y1])) d (dnO P w d (es ++ [(rwK r, q3, .bool true)]))) := same_upd (s2.trans s35) hd
          have kD := (rowsK_snoc (z := (rwK r, q3, .bool true)) kC rfl rC).mono fun v r h => h.ni nid
          have xE := (xB.kt (KT.of s5)).ni nid
          have yE := (yB.kt (KT.of s5)).ni nid
          have lD : LstR K (RowT K) _ D (keptF (R.take i)) := ⟨xD, gD, g2, fun j x z h1 h2 => ((g3 j x z h1 h2).kt (KT.of s35)).ni nid⟩
          have dE : (upd (upd (upd (upd H3 q1 (.tup [x1, y1])) q2 (.tup [y1, x1])) q3 (.tup [x1, y1])) d (dnO P w d (es ++ [(rwK r, q3, .bool true)]))) d = some (dnO P w d (es ++ [(rwK r, q3, .bool true)])) := upd_same
          generalize upd (upd (upd (upd H3 q1 (.tup [x1, y1])) q2 (.tup [y1, x1])) q3 (.tup [x1, y1])) d (dnO P w d (es ++ [(rwK r, q3, .bool true)])) = H5 at gD sH kD xE yE lD dE ⊢
          refine ⟨_, rfl, .inl ⟨rfl, _, SqL.of gD⟩, _, rfl, _, rfl, (by show 2 ≤ sizeLine; decide), fun q4 n4 => ?_⟩
          have s6 := same_new (o := .tup [x1, y1]) n4
          have gE := s6 _ _ gD
          have ktD : KT (upd H5 q4 (.tup [x1, y1])) (upd (upd H5 q4 (.tup [x1, y1])) D (.lst (xD ++ [.ref q4]))) := KT.lst gE
          refine ⟨D, _, _, rfl, rfl, gE, by rw [g2]; exact k1000 (by omega), ?_⟩
          unfold kpS
          rw [if_neg (fun z => z.elim c1 c2)]
          refine ⟨_, _, es ++ [(rwK r, q3, .bool true)], rfl, same_upd (sH.trans s6) hD0, ?_, kD.mono fun v r h => (h.kt (KT.of s6)).kt ktD, ?_⟩
          · rw [upd_ne (Ne.symm nD)]
            exact s6 _ _ dE
          · exact lst_snoc2 (fun v z h => h.kt ktD) g2 (fun j x z h1 h2 => by
              obtain ⟨_, q1, _, q3⟩ := lD
              cases q1.symm.trans gD
              exact (q3 j x z h1 h2).kt (KT.of s6)) (row n4 xE yE)
    · obtain ⟨o3, o4, es, rfl, s2, hd2, hk2, g⟩ := p
      rw [la, List.take_length] at g
      exact ⟨_, rfl, k D _ s2 hD0 g⟩
end
theorem sc_first_places : FnScope ["numbers", "met", "number"] ["numbers"] (defScope s_first_places) := ⟨rfl, rfl, rfl, by decide +kernel, rfl, by decide +kernel, by decide +kernel⟩
section
variable {P : Program} {w : World} {K : PySem.W.Frag} {mg : Str → Option Value} {base : Heap}
theorem ok_first_places (D_first_places : Dn K mg "first_places" s_first_places ["numbers"]) (T : TB mg) : FnOk P w K mg base CX0 1 D_first_places.f D_first_places.fd ["numbers"] (sp_first_places K) := by
  refine ok0 D_first_places.F sc_first_places (fun vs H Q E h => ?_) (fun cdv A outer s H vs Q E hr h => ?_)
  · obtain ⟨p, ns, rfl, hp, nl, k⟩ := h
    rfl
  · obtain ⟨p, ns, rfl, hp, nl, k⟩ := h
    refine ⟨_, (pss_cons (ps_set (i := 1) sc_first_places.nd rfl (by first | exact Or.inl rfl | exact Or.inr rfl) pe_dnewK)
  (pss_cons (ps_for PassesOwn.never rfl (pi_seq (pv 0)) (pg_name (i := 2) sc_first_places.nd rfl (by first | exact Or.inl rfl | exact Or.inr rfl)) (pss_one (ps_asg pe_bl (pg_sub (pv 1) (pv 2) (set_dict (u1 hr.units))))))
  (pss_one (ps_ret (pe_callTy call_tupR (by rfl) T.tuple_ (by decide +kernel) (pa_cons (pe_callTy (call_listD rfl) (by rfl) T.list_ (by decide +kernel) (pa_cons (pv 1) pa_nil)) pa_nil)))))), ?_⟩
    refine fun d hd => ?_
    have sd : Same H (upd H d (.dK [])) := same_new hd
    have nd : d ≠ p := ne_of_none' hp hd
    refine seq_rd sd (fun _ q => ⟨_, rfl, q⟩) (.inl (SqL.of hp)) fun J Gw w' gw => ?_
    refine for_it w' (fun i σ H' => ∃ (o2 : Option V), σ = [some (.ref p), some (.ref d), o2] ∧ Same H H' ∧ H' d = some (.dK (trueK (firsts (ns.take i))))) ⟨_, rfl, sd, upd_same⟩ (fun i σ H' _ q => gw H' fun o h => by
      obtain ⟨_, _, s, _⟩ := q
      exact s _ o h) (fun i x σ H2 H3 hi q y => ?_) (fun σ H2 q => ?_)
    · obtain ⟨rfl, hx⟩ := y
      obtain ⟨o2, rfl, s2, hd2⟩ := q
      obtain ⟨n, hn, rfl⟩ := map_at hx
      refine ⟨_, rfl, _, rfl, d, _, rfl, DPut.k (k := .inl n) hd2 ?_, _, rfl, same_upd s2 hd, ?_⟩
      · unfold trueK
        rw [List.length_map]
        have := fs_len (ns.take i)
        rw [List.length_take] at this
        omega
      · rw [upd_same, tk_put, fs_step hn]
    · obtain ⟨o2, rfl, s2, hd2⟩ := q
      refine ⟨_, rfl, d, _, rfl, .inl hd2, fun q nq => ?_⟩
      refine rd_tup (.inl (SqL.of upd_same)) fun b H4 s4 t4 => k _ _ ((s2.trans (same_new nq)).trans s4) ⟨b, rfl, ?_⟩
      have e : (List.map (fun kv : Key × V => kV kv.1) (trueK (firsts (ns.take (ns.map V.int).length)))) = (firsts ns).map V.int := by
        rw [List.length_map, List.take_length]
        unfold trueK
        rw [List.map_map]
        rfl
      rw [← e]
      exact t4
end
theorem sc_plain_ends : FnScope ["ends", "states", "start", "goals"] ["ends", "states"] (defScope s_plain_ends) := ⟨rfl, rfl, rfl, by decide +kernel, rfl, by decide +kernel, by decide +kernel⟩
section
variable {P : Program} {w : World} {K : PySem.W.Frag} {mg : Str → Option Value} {base : Heap}
theorem ok_plain_ends (D_plain_ends : Dn K mg "plain_ends" s_plain_ends ["ends", "states"]) (T : TB mg) : FnOk P w K mg base CX0 1 D_plain_ends.f D_plain_ends.fd ["ends", "states"] (sp_plain_ends K) := by
  refine ok0 D_plain_ends.F sc_plain_ends (fun vs H Q E h => ?_) (fun cdv A outer s H vs Q E hr h => ?_)
  · obtain ⟨v, e, n, rfl, ⟨a, y, rfl, ha, hy⟩, k⟩ := h
    rfl
  · obtain ⟨v, e, n, rfl, ⟨a, y, rfl, ha, hy⟩, k⟩ := h
    refine ⟨_, (pss_cons (ps_asg (pv 0) (pg_tup (n := 2) rfl (pgs_cons (pg_name (i := 2) sc_plain_ends.nd rfl (by first | exact Or.inl rfl | exact Or.inr rfl)) (pgs_cons (pg_name (i := 3) sc_plain_ends.nd rfl (by first | exact Or.inl rfl | exact Or.inr rfl)) pgs_nil))))
  (pss_one (ps_ret (pe_ifExp (pt_cmpR op_eq (pe_callB call_len_seq (by rfl) T.len PySem.boot_len (pa_cons (pv 3) pa_nil)) (pv 1) (nomark _)) (pe_tup (pa_cons pe_int (pa_cons (pv 3) pa_nil))) (pe_tup (pa_cons (pv 2) (pa_cons (pv 3) pa_nil))))))), ?_⟩
    refine ⟨_, rfl, a, _, rfl, ha, rfl, _, _, rfl, _, _, rfl, rfl, ?_⟩
    obtain ⟨y', rfl, hy⟩ := hy
    refine ⟨_, rfl, y', _, rfl, .inr hy, _, rfl, rfl, _, rfl, ite2 (fun c => ?_) (fun c => ?_)⟩
    · refine ⟨_, rfl, (by show 2 ≤ sizeLine; decide), fun q hq => ?_⟩
      have e2 : ((e.2.length : Nat) : Int) = n := by
        have := int_eq c
        rw [List.length_map] at this
        exact this
      refine k _ _ (same_new hq) ?_
      unfold plainF
      rw [if_pos e2]
      exact ⟨q, _, rfl, SqT.of upd_same, ⟨y', rfl, SqT.same (same_new hq) hy⟩⟩
    · refine ⟨_, rfl, _, rfl, (by show 2 ≤ sizeLine; decide), fun q hq => ?_⟩
      have e2 : ¬ ((e.2.length : Nat) : Int) = n := fun z => c (by rw [List.length_map, z]; simp)
      refine k _ _ (same_new hq) ?_
      unfold plainF
      rw [if_neg e2]
      exact ⟨q, _, rfl, SqT.of upd_same, ⟨y', rfl, SqT.same (same_new hq) hy⟩⟩
end
end My
set_option maxHeartbeats 4000000
/-! k04's mathematics: canonical books, renamed books -/
namespace My
open PySem L2 Sq
/-! ### each once -/
theorem fs_mem_aux : ∀ (ns k : List Int) (x : Int), x ∈ ns.foldl fsS k ↔ x ∈ k ∨ x ∈ ns
  | [], k, x => by simp
  | n :: ns, k, x => by
    rw [List.foldl_cons, fs_mem_aux ns]
    unfold fsS
    by_cases c : n ∈ k
    · rw [if_pos c]
      constructor
      · rintro (h | h)
        · exact .inl h
        · exact .inr (List.mem_cons_of_mem _ h)
      · rintro (h | h)
        · exact .inl h
        · rcases List.mem_cons.mp h with rfl | h
          · exact .inl c
          · exact .inr h
    · rw [if_neg c]
      simp only [List.mem_append, List.mem_singleton, List.mem_cons, List.not_mem_nil, or_false]
      constructor
      · rintro ((h | h) | h)
        · exact .inl h
        · exact .inr (.inl h)
        · exact .inr (.inr h)
      · rintro (h | h | h)
        · exact .inl (.inl h)
        · exact .inl (.inr h)
        · exact .inr h
theorem mem_firsts {ns : List Int} {x : Int} : x ∈ firsts ns ↔ x ∈ ns := by
  unfold firsts
  rw [fs_mem_aux]
  simp
theorem fs_nd_aux : ∀ (ns k : List Int), k.Nodup → (ns.foldl fsS k).Nodup
  | [], k, h => h
  | n :: ns, k, h => by
    rw [List.foldl_cons]
    refine fs_nd_aux ns _ ?_
    unfold fsS
    split
    · exact h
    · rename_i c
      rw [List.nodup_append]
      exact ⟨h, by simp, fun a ha b hb => by
        rw [List.mem_singleton.mp hb]
        intro e
        rw [e] at ha
        exact c ha⟩
theorem nd_firsts (ns : List Int) : (firsts ns).Nodup := fs_nd_aux ns [] List.nodup_nil
theorem fs_map_aux (π : Int → Int) (S : Int → Prop) (inj : ∀ x y, S x → S y → π x = π y → x = y) : ∀ (ns k : List Int), (∀ x ∈ ns, S x) → (∀ x ∈ k, S x) → (ns.map π).foldl fsS (k.map π) = (ns.foldl fsS k).map π
  | [], k, _, _ => rfl
  | n :: ns, k, hn, hk => by
    rw [List.map_cons, List.foldl_cons, List.foldl_cons]
    have e : fsS (k.map π) (π n) = (fsS k n).map π := by
      unfold fsS
      by_cases c : n ∈ k
      · rw [if_pos c, if_pos (List.mem_map_of_mem c)]
      · have c2 : ¬ π n ∈ k.map π := fun h => by
          obtain ⟨m, hm, e⟩ := List.mem_map.mp h
          have := inj m n (hk m hm) (hn n (List.mem_cons_self ..)) e
          rw [this] at hm
          exact c hm
        rw [if_neg c, if_neg c2, List.map_append]
        rfl
    rw [e]
    refine fs_map_aux π S inj ns _ (fun x h => hn x (List.mem_cons_of_mem _ h)) fun x h => ?_
    unfold fsS at h
    split at h
    · exact hk x h
    · rcases List.mem_append.mp h with h | h
      · exact hk x h
      · rw [List.mem_singleton.mp h]
        exact hn n (List.mem_cons_self ..)
theorem firsts_map {π : Int → Int} {S : Int → Prop} (inj : ∀ x y, S x → S y → π x = π y → x = y) {ns : List Int} (h : ∀ x ∈ ns, S x) : firsts (ns.map π) = (firsts ns).map π := fs_map_aux π S inj ns [] h (by simp)
/-! ### places -/
def ixI (l : List Int) (s : Int) : Int := (l.idxOf s : Nat)
theorem ix_in {l : List Int} {s : Int} (h : s ∈ l) : InR l.length (ixI l s) := by
  unfold ixI InR
  have := List.idxOf_lt_length_of_mem h
  exact ⟨by omega, by omega⟩
theorem ix_at {l : List Int} {s : Int} (h : s ∈ l) : l[(ixI l s).toNat]? = some s := by
  unfold ixI
  rw [Int.toNat_natCast, List.getElem?_eq_getElem (List.idxOf_lt_length_of_mem h)]
  simp
theorem ix_inj {l : List Int} {s t : Int} (hs : s ∈ l) (ht : t ∈ l) (e : ixI l s = ixI l t) : s = t := by
  have h1 := ix_at hs
  have h2 := ix_at ht
  rw [e] at h1
  exact Option.some.inj (h1.symm.trans h2)
theorem ix_map {π : Int → Int} {S : Int → Prop} (inj : ∀ x y, S x → S y → π x = π y → x = y) : ∀ {l : List Int} {s : Int}, (∀ x ∈ l, S x) → S s → ixI (l.map π) (π s) = ixI l s := by
  have : ∀ (l : List Int) (s : Int), (∀ x ∈ l, S x) → S s → (l.map π).idxOf (π s) = l.idxOf s := by
    intro l
    induction l with
    | nil => intro s _ _; rfl
    | cons a l ih =>
      intro s hl hs
      rw [List.map_cons, List.idxOf_cons, List.idxOf_cons]
      by_cases e : a = s
      · subst e
        simp
      · have ne : ¬ π a = π s := fun z => e (inj a s (hl a (List.mem_cons_self ..)) hs z)
        have b1 : (a == s) = false := by simpa using e
        have b2 : (π a == π s) = false := by simpa using ne
        rw [b1, b2]
        simp only [cond_false]
        rw [ih s (fun x h => hl x (List.mem_cons_of_mem _ h)) hs]
  intro l s hl hs
  unfold ixI
  rw [this l s hl hs]
theorem ix_self {l : List Int} (nd : l.Nodup) : l.map (ixI l) = (List.range l.length).map fun i => ((i : Nat) : Int) := by
  refine List.ext_getElem (by simp) fun i h1 h2 => ?_
  rw [List.getElem_map, List.getElem_map, List.getElem_range]
  unfold ixI
  rw [List.Nodup.idxOf_getElem nd]
/-! ### signs, renamed -/
def flat (rs : List Rw) : List Int := rs.flatMap fun r => r.1 ++ r.2
def ltrF (rs : List Rw) : List Int := firsts ((flat rs).filter fun s => decide (0 ≤ s))
def unkF (rs : List Rw) : List Int := firsts (((flat rs).filter fun s => decide (s < 0)).map fun s => -1 - s)
def mvS (π τ : Int → Int) (s : Int) : Int := if 0 ≤ s then π s else -1 - τ (-1 - s)
def mvR (π τ : Int → Int) (r : Rw) : Rw := (r.1.map (mvS π τ), r.2.map (mvS π τ))
def renS (L U : List Int) : Int → Int := mvS (ixI L) (ixI U)
def cLet (rs : List Rw) : List Int := ltrF (keptF rs)
def cUnk (rs : List Rw) : List Int := unkF (keptF rs)
def cRows (rs : List Rw) : List Rw := (keptF rs).map (mvR (ixI (cLet rs)) (ixI (cUnk rs)))
def cDeeds (D : List (List Int)) (rs : List Rw) : List (List Int) := (cLet rs).map fun l => D.getD l.toNat []
def cEnds (n : Int) (E : List (Int × List Int)) (rs : List Rw) : List (Int × List Int) := (cUnk rs).map fun u => plainF n (E.getD u.toNat (0, []))
theorem mem_ltr {rs : List Rw} {s : Int} : s ∈ ltrF rs ↔ s ∈ flat rs ∧ 0 ≤ s := by
  unfold ltrF
  rw [mem_firsts, List.mem_filter]
  simp
theorem mem_unk {rs : List Rw} {u : Int} : u ∈ unkF rs ↔ (-1 - u) ∈ flat rs ∧ 0 ≤ u := by
  unfold unkF
  rw [mem_firsts, List.mem_map]
  constructor
  · rintro ⟨s, h, rfl⟩
    rw [List.mem_filter] at h
    obtain ⟨h1, h2⟩ := h
    have h2 := of_decide_eq_true h2
    exact ⟨by have : (-1 - (-1 - s)) = s := by omega
              rw [this]; exact h1, by omega⟩
  · rintro ⟨h1, h2⟩
    exact ⟨-1 - u, List.mem_filter.mpr ⟨h1, decide_eq_true (by omega)⟩, by omega⟩
/-- signs that may be renamed: π on the letters of S, τ on the unknowns of T -/
structure Ren (l u : Int → Prop) (π τ : Int → Int) : Prop where
  pi0 : ∀ x, l x → 0 ≤ π x
  pii : ∀ x y, l x → l y → π x = π y → x = y
  ta0 : ∀ x, u x → 0 ≤ τ x
  tai : ∀ x y, u x → u y → τ x = τ y → x = y
section
variable {l u : Int → Prop} {π τ : Int → Int}
def StG (l u : Int → Prop) (s : Int) : Prop := (0 ≤ s → l s) ∧ (¬ 0 ≤ s → u (-1 - s))
theorem st_l {s : Int} (h : StG l u s) (c : 0 ≤ s) : l s := h.1 c
theorem st_u {s : Int} (h : StG l u s) (c : ¬ 0 ≤ s) : u (-1 - s) := h.2 c
theorem mv_pos (R : Ren l u π τ) {s : Int} (h : StG l u s) : (0 ≤ mvS π τ s) ↔ 0 ≤ s := by
  unfold mvS
  by_cases c : 0 ≤ s
  · rw [if_pos c]
    exact ⟨fun _ => c, fun _ => R.pi0 s (st_l h c)⟩
  · rw [if_neg c]
    have := R.ta0 _ (st_u h c)
    constructor
    · intro; omega
    · intro; omega
theorem mv_inj (R : Ren l u π τ) {s t : Int} (hs : StG l u s) (ht : StG l u t) (e : mvS π τ s = mvS π τ t) : s = t := by
  have p1 := mv_pos R hs
  have p2 := mv_pos R ht
  rw [e] at p1
  have p := p1.symm.trans p2
  unfold mvS at e
  by_cases c : 0 ≤ s
  · have c2 := p.mp c
    rw [if_pos c, if_pos c2] at e
    exact R.pii _ _ (st_l hs c) (st_l ht c2) e
  · have c2 : ¬ 0 ≤ t := fun z => c (p.mpr z)
    rw [if_neg c, if_neg c2] at e
    have := R.tai _ _ (st_u hs c) (st_u ht c2) (by omega)
    omega
def StR (l u : Int → Prop) (r : Rw) : Prop := (∀ s ∈ r.1, StG l u s) ∧ ∀ s ∈ r.2, StG l u s
theorem map_inj_on {f : Int → Int} {S : Int → Prop} (inj : ∀ x y, S x → S y → f x = f y → x = y) : ∀ {a b : List Int}, (∀ x ∈ a, S x) → (∀ x ∈ b, S x) → a.map f = b.map f → a = b
  | [], [], _, _, _ => rfl
  | [], _ :: _, _, _, h => by cases h
  | _ :: _, [], _, _, h => by cases h
  | x :: a, y :: b, ha, hb, h => by
    rw [List.map_cons, List.map_cons] at h
    obtain ⟨h1, h2⟩ := List.cons.inj h
    rw [inj x y (ha x (List.mem_cons_self ..)) (hb y (List.mem_cons_self ..)) h1, map_inj_on inj (fun z hz => ha z (List.mem_cons_of_mem _ hz)) (fun z hz => hb z (List.mem_cons_of_mem _ hz)) h2]
theorem mvR_inj (R : Ren l u π τ) {r t : Rw} (hr : StR l u r) (ht : StR l u t) (e : mvR π τ r = mvR π τ t) : r = t := by
  unfold mvR at e
  have h1 := congrArg Prod.fst e
  have h2 := congrArg Prod.snd e
  exact Prod.ext (map_inj_on (fun _ _ a b c => mv_inj R a b c) hr.1 ht.1 h1) (map_inj_on (fun _ _ a b c => mv_inj R a b c) hr.2 ht.2 h2)
theorem kp_map_aux (R : Ren l u π τ) : ∀ (rs k : List Rw), (∀ r ∈ rs, StR l u r) → (∀ r ∈ k, StR l u r) → (rs.map (mvR π τ)).foldl kpS (k.map (mvR π τ)) = (rs.foldl kpS k).map (mvR π τ)
  | [], k, _, _ => rfl
  | r :: rs, k, hr, hk => by
    rw [List.map_cons, List.foldl_cons, List.foldl_cons]
    have sr := hr r (List.mem_cons_self ..)
    have sw : StR l u (swp r) := ⟨sr.2, sr.1⟩
    have es : swp (mvR π τ r) = mvR π τ (swp r) := rfl
    have m : ∀ {t : Rw}, StR l u t → (mvR π τ t ∈ k.map (mvR π τ) ↔ t ∈ k) := fun {t} st => by
      refine ⟨fun h => ?_, fun h => List.mem_map_of_mem h⟩
      obtain ⟨x, hx, e⟩ := List.mem_map.mp h
      rw [← mvR_inj R (hk x hx) st e]
      exact hx
    have e : kpS (k.map (mvR π τ)) (mvR π τ r) = (kpS k r).map (mvR π τ) := by
      have cc : (mvR π τ r ∈ k.map (mvR π τ) ∨ swp (mvR π τ r) ∈ k.map (mvR π τ)) ↔ (r ∈ k ∨ swp r ∈ k) := by
        rw [es]
        exact or_congr (m sr) (m sw)
      unfold kpS
      by_cases c : r ∈ k ∨ swp r ∈ k
      · rw [if_pos c, if_pos (cc.mpr c)]
      · rw [if_neg c, if_neg (fun z => c (cc.mp z)), List.map_append]
        rfl
    rw [e]
    refine kp_map_aux R rs _ (fun x h => hr x (List.mem_cons_of_mem _ h)) fun x h => ?_
    unfold kpS at h
    split at h
    · exact hk x h
    · rcases List.mem_append.mp h with h | h
      · exact hk x h
      · rw [List.mem_singleton.mp h]
        exact sr
theorem kept_map (R : Ren l u π τ) {rs : List Rw} (h : ∀ r ∈ rs, StR l u r) : keptF (rs.map (mvR π τ)) = (keptF rs).map (mvR π τ) := kp_map_aux R rs [] h (by simp)
theorem flat_mem {rs : List Rw} {s : Int} : s ∈ flat rs ↔ ∃ r ∈ rs, s ∈ r.1 ∨ s ∈ r.2 := by
  unfold flat
  rw [List.mem_flatMap]
  constructor
  · rintro ⟨r, h1, h2⟩
    exact ⟨r, h1, List.mem_append.mp h2⟩
  · rintro ⟨r, h1, h2⟩
    exact ⟨r, h1, List.mem_append.mpr h2⟩
theorem flat_st {rs : List Rw} (h : ∀ r ∈ rs, StR l u r) : ∀ s ∈ flat rs, StG l u s := fun s hs => by
  obtain ⟨r, hr, h2⟩ := flat_mem.mp hs
  exact h2.elim ((h r hr).1 s) ((h r hr).2 s)
theorem flat_map {f : Int → Int} : ∀ rs : List Rw, flat (rs.map fun r => (r.1.map f, r.2.map f)) = (flat rs).map f
  | [] => rfl
  | r :: rs => by
    have ih := flat_map (f := f) rs
    unfold flat at ih ⊢
    rw [List.map_cons, List.flatMap_cons, List.flatMap_cons, ih, List.map_append, List.map_append]
theorem ltr_map (R : Ren l u π τ) {rs : List Rw} (h : ∀ r ∈ rs, StR l u r) : ltrF (rs.map (mvR π τ)) = (ltrF rs).map π := by
  have st := flat_st h
  unfold ltrF
  have e : flat (rs.map (mvR π τ)) = (flat rs).map (mvS π τ) := flat_map rs
  rw [e, List.filter_map]
  have e2 : ((flat rs).filter ((fun s => decide (0 ≤ s)) ∘ mvS π τ)) = (flat rs).filter fun s => decide (0 ≤ s) := List.filter_congr fun s hs => by
    show decide (0 ≤ mvS π τ s) = decide (0 ≤ s)
    exact decide_eq_decide.mpr (mv_pos R (st s hs))
  rw [e2]
  have e3 : ((flat rs).filter fun s => decide (0 ≤ s)).map (mvS π τ) = ((flat rs).filter fun s => decide (0 ≤ s)).map π := List.map_congr_left fun s hs => by
    have c := of_decide_eq_true (List.mem_filter.mp hs).2
    unfold mvS
    rw [if_pos c]
  rw [e3]
  exact firsts_map (S := l) R.pii fun x hx => by
    obtain ⟨h1, h2⟩ := List.mem_filter.mp hx
    exact st_l (st x h1) (of_decide_eq_true h2)
theorem unk_map (R : Ren l u π τ) {rs : List Rw} (h : ∀ r ∈ rs, StR l u r) : unkF (rs.map (mvR π τ)) = (unkF rs).map τ := by
  have st := flat_st h
  unfold unkF
  have e : flat (rs.map (mvR π τ)) = (flat rs).map (mvS π τ) := flat_map rs
  rw [e, List.filter_map]
  have e2 : ((flat rs).filter ((fun s => decide (s < 0)) ∘ mvS π τ)) = (flat rs).filter fun s => decide (s < 0) := List.filter_congr fun s hs => by
    show decide (mvS π τ s < 0) = decide (s < 0)
    have := mv_pos R (st s hs)
    exact decide_eq_decide.mpr ⟨fun z => by
      by_cases c : 0 ≤ s
      · have := this.mpr c; omega
      · omega, fun z => by
      by_cases c : 0 ≤ mvS π τ s
      · have := this.mp c; omega
      · omega⟩
  rw [e2, List.map_map]
  have e3 : ((flat rs).filter fun s => decide (s < 0)).map ((fun s => -1 - s) ∘ mvS π τ) = (((flat rs).filter fun s => decide (s < 0)).map fun s => -1 - s).map τ := by
    rw [List.map_map]
    refine List.map_congr_left fun s hs => ?_
    have c := of_decide_eq_true (List.mem_filter.mp hs).2
    show -1 - mvS π τ s = τ (-1 - s)
    unfold mvS
    rw [if_neg (by omega)]
    omega
  rw [e3]
  exact firsts_map (S := u) R.tai fun x hx => by
    obtain ⟨s, hs, rfl⟩ := List.mem_map.mp hx
    obtain ⟨h1, h2⟩ := List.mem_filter.mp hs
    have h2 := of_decide_eq_true h2
    exact st_u (st s h1) (by omega)
theorem kept_sub {rs : List Rw} : ∀ r ∈ keptF rs, r ∈ rs := by
  have : ∀ (rs k : List Rw), ∀ r ∈ rs.foldl kpS k, r ∈ k ∨ r ∈ rs := by
    intro rs
    induction rs with
    | nil => intro k r h; exact .inl h
    | cons t rs ih =>
      intro k r h
      rw [List.foldl_cons] at h
      rcases ih _ r h with h | h
      · unfold kpS at h
        split at h
        · exact .inl h
        · rcases List.mem_append.mp h with h | h
          · exact .inl h
          · rw [List.mem_singleton.mp h]
            exact .inr (List.mem_cons_self ..)
      · exact .inr (List.mem_cons_of_mem _ h)
  intro r h
  rcases this rs [] r h with h | h
  · cases h
  · exact h
theorem kept_st {rs : List Rw} (h : ∀ r ∈ rs, StR l u r) : ∀ r ∈ keptF rs, StR l u r := fun r hr => h r (kept_sub r hr)
/-- a sign's place among the renamed ones -/
theorem ren_mv (R : Ren l u π τ) {rs : List Rw} (h : ∀ r ∈ rs, StR l u r) {s : Int} (hs : s ∈ flat rs) : mvS (ixI ((ltrF rs).map π)) (ixI ((unkF rs).map τ)) (mvS π τ s) = mvS (ixI (ltrF rs)) (ixI (unkF rs)) s := by
  have st := flat_st h
  have sl : ∀ x ∈ ltrF rs, l x := fun x hx => by
    obtain ⟨a, b⟩ := mem_ltr.mp hx
    exact st_l (st x a) b
  have su : ∀ x ∈ unkF rs, u x := fun x hx => by
    obtain ⟨a, b⟩ := mem_unk.mp hx
    have := st_u (st _ a) (by omega)
    have e : (-1 - (-1 - x)) = x := by omega
    rw [e] at this
    exact this
  have p := mv_pos R (st s hs)
  by_cases c : 0 ≤ s
  · have e1 : mvS π τ s = π s := if_pos c
    have c2 : 0 ≤ π s := R.pi0 s (st_l (st s hs) c)
    rw [e1]
    unfold mvS
    rw [if_pos c, if_pos c2]
    exact ix_map R.pii sl (st_l (st s hs) c)
  · have e1 : mvS π τ s = -1 - τ (-1 - s) := if_neg c
    have c2 : 0 ≤ τ (-1 - s) := R.ta0 _ (st_u (st s hs) c)
    rw [e1]
    unfold mvS
    rw [if_neg c, if_neg (by omega)]
    have e : (-1 - (-1 - τ (-1 - s))) = τ (-1 - s) := by omega
    rw [e, ix_map R.tai su (st_u (st s hs) c)]
theorem rows_mv (R : Ren l u π τ) {rs : List Rw} (h : ∀ r ∈ rs, StR l u r) : cLet (rs.map (mvR π τ)) = (cLet rs).map π ∧ cUnk (rs.map (mvR π τ)) = (cUnk rs).map τ ∧ cRows (rs.map (mvR π τ)) = cRows rs := by
  have e1 : cLet (rs.map (mvR π τ)) = (cLet rs).map π := by
    unfold cLet
    rw [kept_map R h, ltr_map R (kept_st h)]
  have e2 : cUnk (rs.map (mvR π τ)) = (cUnk rs).map τ := by
    unfold cUnk
    rw [kept_map R h, unk_map R (kept_st h)]
  refine ⟨e1, e2, ?_⟩
  unfold cRows
  rw [e1, e2, kept_map R h, List.map_map]
  refine List.map_congr_left fun r hr => ?_
  have hm : ∀ s, s ∈ r.1 ∨ s ∈ r.2 → s ∈ flat (keptF rs) := fun s hs => flat_mem.mpr ⟨r, hr, hs⟩
  show mvR _ _ (mvR π τ r) = mvR _ _ r
  unfold mvR
  rw [List.map_map, List.map_map]
  exact Prod.ext (List.map_congr_left fun s hs => ren_mv R (kept_st h) (hm s (.inl hs))) (List.map_congr_left fun s hs => ren_mv R (kept_st h) (hm s (.inr hs)))
end
/-! ### kept rows stay -/
theorem kp_stay : ∀ (t k : List Rw), (∀ r ∈ t, r ∈ k ∨ swp r ∈ k) → t.foldl kpS k = k
  | [], k, _ => rfl
  | r :: t, k, h => by
    rw [List.foldl_cons]
    have e : kpS k r = k := by
      unfold kpS
      rw [if_pos (h r (List.mem_cons_self ..))]
    rw [e]
    exact kp_stay t k fun x hx => h x (List.mem_cons_of_mem _ hx)
theorem kp_grow (t : List Rw) : ∀ (k : List Rw) (r : Rw), r ∈ k → r ∈ t.foldl kpS k := by
  induction t with
  | nil => intro k r h; exact h
  | cons x t ih =>
    intro k r h
    rw [List.foldl_cons]
    refine ih _ r ?_
    unfold kpS
    split
    · exact h
    · exact List.mem_append_left _ h
theorem kp_has : ∀ (rs k : List Rw), ∀ r ∈ rs, r ∈ rs.foldl kpS k ∨ swp r ∈ rs.foldl kpS k
  | [], _, _, h => by cases h
  | t :: rs, k, r, h => by
    rw [List.foldl_cons]
    rcases List.mem_cons.mp h with rfl | h
    · by_cases c : r ∈ k ∨ swp r ∈ k
      · exact c.imp (fun h => kp_grow rs _ _ (by unfold kpS; rw [if_pos c]; exact h)) fun h => kp_grow rs _ _ (by unfold kpS; rw [if_pos c]; exact h)
      · refine .inl (kp_grow rs _ _ ?_)
        unfold kpS
        rw [if_neg c]
        exact List.mem_append_right _ (List.mem_singleton.mpr rfl)
    · exact kp_has rs _ r h
theorem kept_more {rs t : List Rw} (h : ∀ r ∈ t, r ∈ rs) : keptF (rs ++ t) = keptF rs := by
  unfold keptF
  rw [List.foldl_append]
  exact kp_stay t _ fun r hr => kp_has rs [] r (h r hr)
/-- kept rows are kept -/
theorem kp_nd : ∀ (rs k : List Rw), (∀ (a : List Rw) (r : Rw) (b : List Rw), k = a ++ r :: b → r ∉ a ∧ swp r ∉ a) → ∀ (a : List Rw) (r : Rw) (b : List Rw), rs.foldl kpS k = a ++ r :: b → r ∉ a ∧ swp r ∉ a
  | [], _, h => h
  | t :: rs, k, h => by
    rw [List.foldl_cons]
    refine kp_nd rs _ fun a r b e => ?_
    unfold kpS at e
    split at e
    · exact h a r b e
    · rename_i c
      rcases List.eq_nil_or_concat b with rfl | ⟨b', z, rfl⟩
      · obtain ⟨e1, e2⟩ := List.append_inj' (show k ++ [t] = a ++ [r] from e) rfl
        cases e2
        rw [← e1]
        exact ⟨fun z => c (.inl z), fun z => c (.inr z)⟩
      · have e' : k ++ [t] = (a ++ r :: b') ++ [z] := by
          rw [e]
          simp
        obtain ⟨e1, _⟩ := List.append_inj' e' rfl
        exact h a r b' e1
theorem kept_idem (rs : List Rw) : keptF (keptF rs) = keptF rs := by
  have nd := kp_nd rs [] (fun a r b e => by cases a <;> cases e)
  have : ∀ (t a : List Rw), (rs.foldl kpS []) = a ++ t → t.foldl kpS a = a ++ t := by
    intro t
    induction t with
    | nil => intro a _; simp
    | cons r t ih =>
      intro a e
      rw [List.foldl_cons]
      obtain ⟨n1, n2⟩ := nd a r t e
      have e2 : kpS a r = a ++ [r] := by
        unfold kpS
        rw [if_neg (fun z => z.elim n1 n2)]
      rw [e2, ih (a ++ [r]) (by rw [e]; simp)]
      simp
  exact this _ [] rfl
/-! ### canonical of canonical -/
theorem st_of {l u s : Int} (h : Stands l u s) : StG (InR l) (InR u) s := ⟨fun c => ⟨c, h.1⟩, fun c => ⟨by omega, h.2⟩⟩
theorem ltr_flat {rs : List Rw} {s : Int} (h : s ∈ flat rs) : StG (· ∈ ltrF rs) (· ∈ unkF rs) s := ⟨fun c => mem_ltr.mpr ⟨h, c⟩, fun c => mem_unk.mpr ⟨by
  have e : (-1 - (-1 - s)) = s := by omega
  rw [e]
  exact h, by omega⟩⟩
theorem idem (rs : List Rw) : cRows (cRows rs) = cRows rs ∧ cLet (cRows rs) = (List.range (cLet rs).length).map (fun i => ((i : Nat) : Int)) ∧ cUnk (cRows rs) = (List.range (cUnk rs).length).map fun i => ((i : Nat) : Int) := by
  have R : Ren (· ∈ cLet rs) (· ∈ cUnk rs) (ixI (cLet rs)) (ixI (cUnk rs)) := ⟨fun x h => (ix_in h).1, fun x y hx hy e => ix_inj hx hy e, fun x h => (ix_in h).1, fun x y hx hy e => ix_inj hx hy e⟩
  have st : ∀ r ∈ keptF rs, StR (· ∈ cLet rs) (· ∈ cUnk rs) r := fun r hr => ⟨fun s hs => ltr_flat (flat_mem.mpr ⟨r, hr, .inl hs⟩), fun s hs => ltr_flat (flat_mem.mpr ⟨r, hr, .inr hs⟩)⟩
  obtain ⟨h1, h2, h3⟩ := rows_mv R st
  have e1 : cLet (keptF rs) = cLet rs := by
    unfold cLet
    rw [kept_idem]
  have e2 : cUnk (keptF rs) = cUnk rs := by
    unfold cUnk
    rw [kept_idem]
  have e3 : cRows (keptF rs) = cRows rs := by
    unfold cRows
    rw [e1, e2, kept_idem]
  rw [e1] at h1
  rw [e2] at h2
  rw [e3] at h3
  refine ⟨h3, h1.trans (ix_self (nd_firsts _)), h2.trans (ix_self (nd_firsts _))⟩
theorem getD_range {α : Type} (l : List α) (d : α) : ((List.range l.length).map fun i => ((i : Nat) : Int)).map (fun i => l.getD i.toNat d) = l := by
  rw [List.map_map]
  refine List.ext_getElem (by simp) fun i h1 h2 => ?_
  rw [List.getElem_map, List.getElem_range]
  show l.getD ((i : Nat) : Int).toNat d = _
  rw [Int.toNat_natCast, List.getD_eq_getElem?_getD, List.getElem?_eq_getElem h2]
  rfl
theorem deeds_idem (D : List (List Int)) (rs : List Rw) : cDeeds (cDeeds D rs) (cRows rs) = cDeeds D rs := by
  have e : cDeeds (cDeeds D rs) (cRows rs) = (cLet (cRows rs)).map fun l => (cDeeds D rs).getD l.toNat [] := rfl
  rw [e, (idem rs).2.1]
  have l : (cLet rs).length = (cDeeds D rs).length := by simp [cDeeds]
  rw [l]
  exact getD_range _ _
theorem plain_idem (n : Int) (e : Int × List Int) : plainF n (plainF n e) = plainF n e := by
  unfold plainF
  by_cases c : (e.2.length : Int) = n
  · simp only [c, if_true]
  · simp only [c, if_false]
theorem ends_idem (n : Int) (E : List (Int × List Int)) (rs : List Rw) : cEnds n (cEnds n E rs) (cRows rs) = cEnds n E rs := by
  have e : cEnds n (cEnds n E rs) (cRows rs) = (cUnk (cRows rs)).map fun u => plainF n ((cEnds n E rs).getD u.toNat (0, [])) := rfl
  rw [e, (idem rs).2.2]
  have l : (cUnk rs).length = (cEnds n E rs).length := by simp [cEnds]
  rw [l]
  have h := congrArg (List.map (plainF n)) (getD_range (cEnds n E rs) (0, []))
  rw [List.map_map] at h
  refine Eq.trans h ?_
  unfold cEnds
  rw [List.map_map]
  exact List.map_congr_left fun u _ => plain_idem n _
/-! ### a canonical book is a book -/
theorem let_in {rs : List Rw} {l u : Int} (h : ∀ r ∈ rs, (∀ s ∈ r.1, Stands l u s) ∧ ∀ s ∈ r.2, Stands l u s) : (∀ x ∈ cLet rs, InR l x) ∧ ∀ x ∈ cUnk rs, InR u x := by
  have st : ∀ s ∈ flat (keptF rs), Stands l u s := fun s hs => by
    obtain ⟨r, hr, h2⟩ := flat_mem.mp hs
    exact h2.elim ((h r (kept_sub r hr)).1 s) ((h r (kept_sub r hr)).2 s)
  refine ⟨fun x hx => ?_, fun x hx => ?_⟩
  · obtain ⟨a, b⟩ := mem_ltr.mp hx
    exact ⟨b, (st x a).1⟩
  · obtain ⟨a, b⟩ := mem_unk.mp hx
    have := (st _ a).2
    exact ⟨b, by omega⟩
theorem flat_len {c : Nat} : ∀ rs : List Rw, (∀ r ∈ rs, r.1.length + r.2.length ≤ c) → (flat rs).length ≤ rs.length * c
  | [], _ => by simp [flat]
  | r :: rs, h => by
    have ih := flat_len rs fun x hx => h x (List.mem_cons_of_mem _ hx)
    have := h r (List.mem_cons_self ..)
    unfold flat at ih ⊢
    rw [List.flatMap_cons, List.length_append, List.length_append, List.length_cons, Nat.succ_mul]
    omega
theorem let_len (rs : List Rw) : (cLet rs).length ≤ (flat (keptF rs)).length ∧ (cUnk rs).length ≤ (flat (keptF rs)).length := by
  refine ⟨Nat.le_trans (fs_len _) (List.length_filter_le _ _), Nat.le_trans (fs_len _) ?_⟩
  rw [List.length_map]
  exact List.length_filter_le _ _
theorem ren_st {rs : List Rw} {s : Int} (h : s ∈ flat (keptF rs)) : Stands (cLet rs).length (cUnk rs).length (mvS (ixI (cLet rs)) (ixI (cUnk rs)) s) := by
  have g := ltr_flat h
  unfold mvS
  by_cases c : 0 ≤ s
  · rw [if_pos c]
    have := ix_in (show s ∈ cLet rs from g.1 c)
    exact ⟨this.2, by have := this.1; omega⟩
  · rw [if_neg c]
    have := ix_in (show (-1 - s) ∈ cUnk rs from g.2 c)
    exact ⟨by have := this.1; omega, by have := this.2; omega⟩
theorem getD_mem {α : Type} {l : List α} {d : α} {x : Int} (h : InR l.length x) : l.getD x.toNat d ∈ l := by
  obtain ⟨h0, h1⟩ := h
  have : x.toNat < l.length := by omega
  rw [List.getD_eq_getElem?_getD, List.getElem?_eq_getElem this]
  exact List.getElem_mem _
theorem plain_ok {n : Int} (n1 : 1 ≤ n) {e : Int × List Int} (h : InR n e.1 ∧ e.2.length < 1000 ∧ (∀ i ∈ e.2, InR n i) ∧ Asc e.2) : InR n (plainF n e).1 ∧ (plainF n e).2.length < 1000 ∧ (∀ i ∈ (plainF n e).2, InR n i) ∧ Asc (plainF n e).2 := by
  unfold plainF
  split
  · exact ⟨⟨by show (0 : Int) ≤ 0; decide, by show (0 : Int) < n; omega⟩, h.2⟩
  · exact h
theorem canon_ok {R : List Rw} {D : List (List Int)} {E : List (Int × List Int)} {n : Int} (ok : BookOk R D E n) (hf : (flat (keptF R)).length < 1000) : BookOk (cRows R) (cDeeds D R) (cEnds n E R) n := by
  obtain ⟨l1, l2⟩ := let_len R
  obtain ⟨i1, i2⟩ := let_in (rs := R) (l := D.length) (u := E.length) fun r hr => ⟨(ok.r r hr).2.2.1, (ok.r r hr).2.2.2⟩
  have dl : (cDeeds D R).length = (cLet R).length := by simp [cDeeds]
  have el : (cEnds n E R).length = (cUnk R).length := by simp [cEnds]
  refine ⟨ok.n1, fun d hd => ?_, fun e he => ?_, fun r hr => ?_, ?_, by omega, by omega⟩
  · obtain ⟨x, hx, rfl⟩ := List.mem_map.mp hd
    exact ok.d _ (getD_mem (i1 x hx))
  · obtain ⟨x, hx, rfl⟩ := List.mem_map.mp he
    exact plain_ok ok.n1 (ok.e _ (getD_mem (i2 x hx)))
  · obtain ⟨t, ht, rfl⟩ := List.mem_map.mp hr
    obtain ⟨a, b, _, _⟩ := ok.r t (kept_sub t ht)
    rw [dl, el]
    refine ⟨by show (t.1.map _).length < 1000; rw [List.length_map]; exact a, by show (t.2.map _).length < 1000; rw [List.length_map]; exact b, fun s hs => ?_, fun s hs => ?_⟩
    · obtain ⟨s', hs', rfl⟩ := List.mem_map.mp hs
      exact ren_st (flat_mem.mpr ⟨t, ht, .inl hs'⟩)
    · obtain ⟨s', hs', rfl⟩ := List.mem_map.mp hs
      exact ren_st (flat_mem.mpr ⟨t, ht, .inr hs'⟩)
  · have := kp_len R
    have := ok.rl
    unfold cRows
    rw [List.length_map]
    omega
/-! ### the twin -/
theorem twin {l u : Int} {π τ : Int → Int} (R : Ren (InR l) (InR u) π τ) {rs : List Rw} (h : ∀ r ∈ rs, (∀ s ∈ r.1, Stands l u s) ∧ ∀ s ∈ r.2, Stands l u s) (t : List Rw) (ht : ∀ r ∈ t, r ∈ rs) :
    cLet ((rs ++ t).map (mvR π τ)) = (cLet rs).map π ∧ cUnk ((rs ++ t).map (mvR π τ)) = (cUnk rs).map τ ∧ cRows ((rs ++ t).map (mvR π τ)) = cRows rs := by
  have h' : ∀ r ∈ rs ++ t, StR (InR l) (InR u) r := fun r hr => by
    have hm : r ∈ rs := (List.mem_append.mp hr).elim id (ht r)
    exact ⟨fun s hs => st_of ((h r hm).1 s hs), fun s hs => st_of ((h r hm).2 s hs)⟩
  obtain ⟨h1, h2, h3⟩ := rows_mv R h'
  have e := kept_more ht
  have e1 : cLet (rs ++ t) = cLet rs := by
    unfold cLet
    rw [e]
  have e2 : cUnk (rs ++ t) = cUnk rs := by
    unfold cUnk
    rw [e]
  have e3 : cRows (rs ++ t) = cRows rs := by
    unfold cRows
    rw [e1, e2, e]
  exact ⟨h1.trans (by rw [e1]), h2.trans (by rw [e2]), h3.trans e3⟩
theorem twin_map {α β : Type} {f g : Int → β} {L : List Int} {π : Int → Int} (h : ∀ x ∈ L, f (π x) = g x) : (L.map π).map f = L.map g := by
  rw [List.map_map]
  exact List.map_congr_left h
end My
set_option maxHeartbeats 4000000
namespace My
open PySem PySem.Spec PyProof.Rows L2 Lcn Sq
open En
/-! ### data: equal to itself, at any small depth -/
def Flt (n : Nat) (d : PyData) : Prop := PyData.canLay0 d = true ∧ PyData.depth d ≤ n
theorem Flt.mono {n m : Nat} {d : PyData} (h : Flt n d) (e : n ≤ m) : Flt m d := ⟨h.1, Nat.le_trans h.2 e⟩
theorem Flt.sh {n : Nat} {d : PyData} (h : Flt n d) (e : n ≤ 64) : SeqAt.shaped d = true := by
  unfold SeqAt.shaped
  rw [h.1, decide_eq_true (Nat.le_trans h.2 e)]
  rfl
theorem Flt.eqv {n : Nat} {d : PyData} (h : Flt n d) : PyData.eqv d d = true := PySem.SeqAt.eqv_refl d h.1
def FltA (n : Nat) (ds : List PyData) : Prop := PyData.canLayAll0 ds = true ∧ PyData.depthAll ds ≤ n
theorem flta_nil {n : Nat} : FltA n [] := ⟨rfl, Nat.zero_le _⟩
theorem flta_cons {n : Nat} {d : PyData} {ds : List PyData} (h : Flt n d) (t : FltA n ds) : FltA n (d :: ds) := by
  refine ⟨?_, ?_⟩
  · rw [PyData.canLayAll0, h.1, t.1]
    rfl
  · rw [PyData.depthAll]
    exact Nat.max_le.mpr ⟨h.2, t.2⟩
theorem flta_map {α : Type} {n : Nat} {f : α → PyData} (h : ∀ z, Flt n (f z)) : ∀ zs : List α, FltA n (zs.map f)
  | [] => flta_nil
  | z :: r => flta_cons (h z) (flta_map h r)
theorem flt_tup {n : Nat} {ds : List PyData} (h : FltA n ds) : Flt (n + 1) (.tuple ds) := by
  refine ⟨?_, ?_⟩
  · rw [PyData.canLay0]
    exact h.1
  · rw [PyData.depth]
    exact Nat.succ_le_succ h.2
theorem flt_lst {n : Nat} {ds : List PyData} (h : FltA n ds) : Flt (n + 1) (.list ds) := by
  refine ⟨?_, ?_⟩
  · rw [PyData.canLay0]
    exact h.1
  · rw [PyData.depth]
    exact Nat.succ_le_succ h.2
theorem flt_int {n : Nat} (i : Int) : Flt n (.int i) := ⟨by rw [PyData.canLay0], by rw [PyData.depth]; exact Nat.zero_le _⟩
theorem flt_iD (ns : List Int) : Flt 1 (iD ns) := flt_tup (flta_map (fun i => flt_int i) ns)
def rwD (r : Rw) : PyData := .tuple [iD r.1, iD r.2]
def enD (e : Int × List Int) : PyData := .tuple [.int e.1, iD e.2]
def sqD {α : Type} (f : α → PyData) (zs : List α) : PyData := .tuple (zs.map f)
def lsD {α : Type} (f : α → PyData) (zs : List α) : PyData := .list (zs.map f)
theorem flt_rw (r : Rw) : Flt 2 (rwD r) := flt_tup (flta_cons (flt_iD _) (flta_cons (flt_iD _) flta_nil))
theorem flt_en (e : Int × List Int) : Flt 2 (enD e) := flt_tup (flta_cons (flt_int _) (flta_cons (flt_iD _) flta_nil))
theorem flt_sq {α : Type} {n : Nat} {f : α → PyData} (h : ∀ z, Flt n (f z)) (zs : List α) : Flt (n + 1) (sqD f zs) := flt_tup (flta_map h zs)
theorem flt_ls {α : Type} {n : Nat} {f : α → PyData} (h : ∀ z, Flt n (f z)) (zs : List α) : Flt (n + 1) (lsD f zs) := flt_lst (flta_map h zs)
theorem dpA_of {K : PySem.W.Frag} {H : Hp} {α : Type} {R : Hp → V → α → Prop} {f : α → PyData} (m : ∀ v z, R H v z → Dp K H v (f z)) : ∀ (xs : List V) (zs : List α), xs.length = zs.length → (∀ (i : Nat) (x : V) (z : α), xs[i]? = some x → zs[i]? = some z → R H x z) → DpAll K H xs (zs.map f)
  | [], [], _, _ => .nil
  | [], _ :: _, h, _ => by cases h
  | _ :: _, [], h, _ => by cases h
  | x :: xs, z :: zs, h, k => .cons (m _ _ (k 0 x z rfl rfl)) (dpA_of m xs zs (Nat.succ.inj h) fun i x z h1 h2 => k (i + 1) x z h1 h2)
theorem dp_row {K : PySem.W.Frag} {H : Hp} {v : V} {r : Rw} (h : RowT K H v r) : Dp K H v (rwD r) := by
  obtain ⟨a, x, y, rfl, h1, h2, h3⟩ := h
  exact .tup h1 (.cons (dp_ints h2) (.cons (dp_ints h3) .nil))
theorem dp_end {K : PySem.W.Frag} {H : Hp} {v : V} {e : Int × List Int} (h : EndT K H v e) : Dp K H v (enD e) := by
  obtain ⟨a, y, rfl, h1, h2⟩ := h
  exact .tup h1 (.cons (.int _) (.cons (dp_ints h2) .nil))
theorem dp_seq {K : PySem.W.Frag} {H : Hp} {α : Type} {R : Hp → V → α → Prop} {f : α → PyData} (m : ∀ v z, R H v z → Dp K H v (f z)) {v : V} {zs : List α} (h : SeqT K R H v zs) : Dp K H v (sqD f zs) := by
  obtain ⟨a, xs, rfl, h1, h2, h3⟩ := h
  exact .tup h1 (dpA_of m xs zs h2 h3)
theorem dp_lst {K : PySem.W.Frag} {H : Hp} {α : Type} {R : Hp → V → α → Prop} {f : α → PyData} (m : ∀ v z, R H v z → Dp K H v (f z)) {p : Addr} {zs : List α} (h : LstR K R H p zs) : Dp K H (.ref p) (lsD f zs) := by
  obtain ⟨xs, h1, h2, h3⟩ := h
  exact .lst (SqL.of h1) (dpA_of m xs zs h2 h3)
theorem dp_rows {K : PySem.W.Frag} {H : Hp} {v : V} {zs : List Rw} (h : SeqT K (RowT K) H v zs) : Dp K H v (sqD rwD zs) := dp_seq (fun _ _ h => dp_row h) h
theorem dp_deeds {K : PySem.W.Frag} {H : Hp} {v : V} {zs : List (List Int)} (h : SeqT K (IntsT K) H v zs) : Dp K H v (sqD iD zs) := dp_seq (fun _ _ h => dp_ints h) h
theorem dp_ends {K : PySem.W.Frag} {H : Hp} {v : V} {zs : List (Int × List Int)} (h : SeqT K (EndT K) H v zs) : Dp K H v (sqD enD zs) := dp_seq (fun _ _ h => dp_end h) h
/-- == of data that is the same -/
theorem rd_eqD {K : PySem.W.Frag} {x y : V} {H : Hp} {Q : VK} {n : Nat} {d : PyData} (h : Flt n d) (e : n ≤ 64) (h1 : Dp K H x d) (h2 : Dp K H y d) (q : Q (.bl true) H) : rEqD K x y H Q := ⟨d, d, h1, h2, h.sh e, h.sh e, by rw [h.eqv]; exact q⟩
theorem rd_neD {K : PySem.W.Frag} {x y : V} {H : Hp} {Q : VK} {n : Nat} {d : PyData} (h : Flt n d) (e : n ≤ 64) (h1 : Dp K H x d) (h2 : Dp K H y d) (q : Q (.bl false) H) : rNeD K x y H Q := ⟨d, d, h1, h2, h.sh e, h.sh e, by rw [h.eqv]; exact q⟩
/-! ### own == -/
/-- what an own class with == asks -/
structure EqC (K : PySem.W.Frag) (qual : Str) (st : Stmt) (C : Addr) where
  f : Addr
  fd : FuncData
  F : FunD K "__eq__" qual (defArgs st) (defBody st) (defScope st) [] [] f fd
  at_ : PySem.W.findIn K (.ref C) "__eq__" = some (some (.ref f))
  fn : PySem.W.isFn K (.ref f) = true
  b : Binds K fd ["self", "other"] []
  I : C8.InsC K C
def BookR (K : PySem.W.Frag) (C : Addr) : Addr → Addr → Hp → Prop := fun a b H => ∃ (dx dy : Addr) (r d e r' d' e' : V) (n : Int) (R : List Rw) (D : List (List Int)) (E : List (Int × List Int)), H a = some (.ins C dx (bookF r d e n)) ∧ H b = some (.ins C dy (bookF r' d' e' n)) ∧ BookAt K H R D E r d e ∧ BookAt K H R D E r' d' e'
theorem sc_Book_eq : FnScope ["self", "other"] ["self", "other"] (defScope s_Book_eq) := ⟨rfl, rfl, rfl, by decide +kernel, rfl, by decide +kernel, by decide +kernel⟩
theorem insTy {K : PySem.W.Frag} {C : Addr} (c : C8.InsC K C) {H : Hp} {a dx : Addr} {fs : List (Str × V)} (h : H a = some (.ins C dx fs)) : TyX K H (.ref a) (.ref C) := .base (TyOf.ins h c.cl c.ha c.hn c.htk c.hm)
section
variable {P : Program} {w : World} {K : PySem.W.Frag} {mg : Str → Option Value} {base : Heap}
theorem ok_Book_eq (C_Book : BookC K mg) (B : EqC K "Book.__eq__" s_Book_eq C_Book.C) (T : TB mg) : FnOk P w K mg base CX0 1 B.f B.fd ["self", "other"] (spEq (BookR K C_Book.C)) := by
  refine ok0 B.F sc_Book_eq (fun vs H Q E h => ?_) (fun cdv A outer s H vs Q E hr h => ?_)
  · obtain ⟨a, b, rfl, _⟩ := h
    rfl
  · obtain ⟨a, b, rfl, ⟨dx, dy, r, d, e, r', d', e', n, R, D, E', h1, h2, b1, b2⟩, k⟩ := h
    refine ⟨_, (pss_one (ps_ret (pe_and (pe_callB call_isi (by rfl) T.isinstance (by decide +kernel) (pa_cons (pv 1) (pa_cons (pe_glob (v := .ref C_Book.C) (by rfl) C_Book.m rfl) pa_nil))) (pe_and (pe_cmpR (op_eqD hr.units) (pe_fld (pv 0) rfl) (pe_fld (pv 1) rfl) (nomark _)) (pe_and (pe_cmpR (op_eqD hr.units) (pe_fld (pv 0) rfl) (pe_fld (pv 1) rfl) (nomark _)) (pe_and (pe_cmpR (op_eqD hr.units) (pe_fld (pv 0) rfl) (pe_fld (pv 1) rfl) (nomark _)) (pe_one (pe_cmpR (op_eqD hr.units) (pe_fld (pv 0) rfl) (pe_fld (pv 1) rfl) (nomark _))))))))), ?_⟩
    refine ⟨_, rfl, _, _, _, _, true, rfl, .own _, insTy B.I h2, B.I.me, _, rfl, iteT ?_⟩
    refine ⟨_, rfl, a, C_Book.C, dx, _, _, rfl, h1, C_Book.cl, C_Book.n1, rfl, _, rfl, b, C_Book.C, dy, _, _, rfl, h2, C_Book.cl, C_Book.n1, rfl, rd_eqD (flt_sq flt_rw R) (by decide) (dp_rows b1.r) (dp_rows b2.r) ⟨_, rfl, iteT ?_⟩⟩
    refine ⟨_, rfl, a, C_Book.C, dx, _, _, rfl, h1, C_Book.cl, C_Book.n2, rfl, _, rfl, b, C_Book.C, dy, _, _, rfl, h2, C_Book.cl, C_Book.n2, rfl, rd_eqD (flt_sq flt_iD D) (by decide) (dp_deeds b1.d) (dp_deeds b2.d) ⟨_, rfl, iteT ?_⟩⟩
    refine ⟨_, rfl, a, C_Book.C, dx, _, _, rfl, h1, C_Book.cl, C_Book.n3, rfl, _, rfl, b, C_Book.C, dy, _, _, rfl, h2, C_Book.cl, C_Book.n3, rfl, rd_eqD (flt_sq flt_en E') (by decide) (dp_ends b1.e) (dp_ends b2.e) ⟨_, rfl, iteT ?_⟩⟩
    refine ⟨_, rfl, a, C_Book.C, dx, _, _, rfl, h1, C_Book.cl, C_Book.n4, rfl, _, rfl, b, C_Book.C, dy, _, _, rfl, h2, C_Book.cl, C_Book.n4, rfl, ?_⟩
    exact rd_eqD (flt_int (n := 0) n) (by decide) (.int _) (.int _) (k H Ext.rfl')
end
end My
set_option maxHeartbeats 2000000
/-! != of instances of a class with an own ==, which has no own != -/
namespace Ne
open PySem PySem.Spec PyProof.Rows L2
section
variable {prog : Program} {w : World} {A : Around} {E : Value → Shared → Prop} {s : Shared} {K : PySem.W.Frag} {x C L f : Addr} {h₀ : Heap} {m : Str → Option Value} {ox : Obj} {od : Option Obj} {b tb : Value}
open PySem.W in
theorem ne_body {Q : Fin → Shared → Prop} (hu : A.units < cLine) (X : K.In s.heap) (I : InstAt s.heap x ox C od) (hs : findIn K (.ref C) "__eq__" = some (some (.ref f))) (hf : isFn K (.ref f) = true)
    (h : wpAny (model prog w) A (call (.ref f) [.ref x, b]) (fun v s' => ∃ r, v = .bool r ∧ Q (.done (.ret (.bool (!r)))) s') E s) :
    wpAny (model prog w) A (Builtin.«object.__ne__» ⟨[.ref x, b], []⟩) Q E s := by
  unfold Builtin.«object.__ne__»
  repeat (first
    | with_reducible refine wpAny_cRoomFor hu ?_
    | (refine wpAny_bind (m := callSpecialIfBound? (.ref x) (Str.ofString "__eq__") [b])
        (ifBound_K X I hs hf (wpAny_mono h (fun r s' hr => by
          obtain ⟨b, rfl, hq⟩ := hr
          repeat (first | exact hq | exact wpAny_pure hq | exact wpAny_truthy_bool hq | (refine wpAny_bind (m := truthy (.bool _)) (wpAny_truthy_bool ?_)) | wp_step)) fun _ _ e => e)))
    | wp_step)
open PySem.W in
theorem ne_bound {Q : Option Value → Shared → Prop} (hu : A.units + 1 < cLine) (X : K.In s.heap) (I : InstAt s.heap x ox C od) (hs : findIn K (.ref C) "__eq__" = some (some (.ref f))) (hf : isFn K (.ref f) = true)
    (hne : findIn K (.ref C) "__ne__" = some (some (.builtin "object.__ne__"))) (hm : mroIn K C (.type "object") = some true)
    (h : wpAny (model prog w) A.in1 (call (.ref f) [.ref x, b]) (fun v s' => ∃ r, v = .bool r ∧ Q (some (.bool (!r))) s') E s) :
    wpAny (model prog w) A (callSpecialIfBound? (.ref x) "__ne__" [b]) Q E s := by
  have S := F.cmp_object.ne
  simp only [callSpecialIfBound?, bindSpecialIfBound?]
  refine wpAny_holding (wpAny_bind (wpAny_bind (wpAny_bind (I.type.here ((looks_findIn X hne).here ?_)))))
  simp only [S.bind]
  have ii : Looks (model prog w) s.heap (isInstance (.ref x) (.type "object")) true := I.type.andThen (looks_mroIn X hm)
  have cl : wpAny (model prog w) A (call (.builtin "object.__ne__") [.ref x, b]) (fun v => Q (some v)) E s := by
    refine wpAny_call (codeAny_call_builtin S.plain F.cmpEntry_ne (check_slot F.cmpKind_ne F.cmpSplit_ne ii (F.cmpArgs_ne _ _) ?_))
    refine ne_body (A := A.in1) hu X I hs hf (wpAny_mono h (fun v s' hv => ?_) fun _ _ e => e)
    obtain ⟨r, rfl, hq⟩ := hv
    exact ⟨r, rfl, hq⟩
  refine wpAny_bind (wpAny_askSetting (wpAny_ite ?_))
  have fin : wpAny (model prog w) A (call (.builtin "object.__ne__") ([.ref x] ++ [b]) >>= fun v => pure (some v)) Q E s :=
    wpAny_bind (wpAny_mono cl (fun v s' h' => wpAny_pure h') fun _ _ h' => h')
  split
  · exact wpAny_bind (wpAny_pure (wpAny_pure fin))
  · exact wpAny_tryCatch (wpAny_bind (wpAny_pure (wpAny_pure fin)))
open PySem.W in
theorem ne_K {Q : Value → Shared → Prop} (hu : A.units + 1 < cLine) (F : Fr h₀ L s.heap m) (X₀ : K.In h₀) (I : InstAt s.heap x ox C od) (hb : Looks (model prog w) s.heap (typeOf b) tb) (hn : notFirst K C tb = true)
    (hs : findIn K (.ref C) "__eq__" = some (some (.ref f))) (hf : isFn K (.ref f) = true) (hne : findIn K (.ref C) "__ne__" = some (some (.builtin "object.__ne__"))) (hm : mroIn K C (.type "object") = some true)
    (h : wpAny (model prog w) A.in1 (call (.ref f) [.ref x, b]) (fun v s' => ∃ r, v = .bool r ∧ Q (.bool (!r)) s') E s) : wpAny (model prog w) A (richCompare .NotEq (.ref x) b) Q E s := by
  have X := X₀.keeps F.keep
  have one : wpAny (model prog w) A (tryCompare (.ref x) "__ne__" b) (fun r s' => ∃ v, r = some v ∧ Q v s') E s := by
    unfold tryCompare
    refine wpAny_bind (ne_bound hu X I hs hf hne hm (wpAny_mono h (fun v s' hv => ?_) fun _ _ e => e))
    obtain ⟨r, rfl, hq⟩ := hv
    exact ⟨r, rfl, wpAny_pure ⟨_, rfl, hq⟩⟩
  unfold richCompare
  simp only [oneThing_ref]
  refine wpAny_holding (wpAny_bind (wpAny_cRoomFor (Nat.lt_of_succ_lt hu) ?_))
  rw [cmpInfo_NotEq]
  dsimp only
  refine wpAny_bind (I.type.here (wpAny_bind (hb.here ?_)))
  split
  · rename_i q
    have e : subIn K tb (.ref C) = some false := by
      rcases Bool.or_eq_true_iff.mp hn with e | e
      · rw [beq_iff_eq.mp e] at q; simp at q
      · exact beq_iff_eq.mp e
    refine wpAny_bind ((looks_subIn X e).here ?_)
    simp only [Bool.false_eq_true, if_false]
    refine wpAny_bind (wpAny_mono one (fun r s' z => ?_) fun _ _ e => e)
    obtain ⟨v, rfl, hq⟩ := z
    exact wpAny_pure hq
  · refine wpAny_bind (wpAny_pure ?_)
    simp only [Bool.false_eq_true, if_false]
    refine wpAny_bind (wpAny_mono one (fun r s' z => ?_) fun _ _ e => e)
    obtain ⟨v, rfl, hq⟩ := z
    exact wpAny_pure hq
end
/-! ### the rule -/
section
variable {X : Cx} {n : Nat}
/-- != gives False for what D says, and only makes objects -/
def RcN (X : Cx) (n : Nat) (D : Eqv) : Prop :=
  ∀ (A : Around) (pins : List (Addr × Obj)) (s : Shared) (σ : L2.St) (H : Hp) (x y : V) (u v : Value), L2.Sub X n A → Inv X pins σ H s → RelV x u → RelV y v → D x y H →
    wpAny (model X.prog X.w) A (richCompare .NotEq u v) (fun r s' => r = .bool false ∧ ∃ H', Inv X pins σ H' s' ∧ Ext H H') X.xe s
theorem rcN_ins {CX : CXT} {C f : Addr} {fd : FuncData} {ps : List Str} {R : Addr → Addr → Hp → Prop} {E : XK} (F : FnOk X.prog X.w X.K X.mg X.base CX n f fd ps (spEq R))
    (hs : PySem.W.findIn X.K (.ref C) "__eq__" = some (some (.ref f))) (hf : PySem.W.isFn X.K (.ref f) = true) (hb : Binds X.K fd ps []) (hx : Passes CX X E)
    (hne : PySem.W.findIn X.K (.ref C) "__ne__" = some (some (.builtin "object.__ne__"))) (hm : PySem.W.mroIn X.K C (.type "object") = some true) : RcN X (n + 1) (DIns C R) := by
  intro A pins s σ H x y u v sb I rx ry d
  obtain ⟨a, b, dx, dy, fs, gs, rfl, rfl, ha, hb', hr⟩ := d
  cases rx
  cases ry
  obtain ⟨mA, J, _⟩ := ins_get I.hok ha
  obtain ⟨mB, J', _⟩ := ins_get I.hok hb'
  obtain ⟨od, J, _⟩ := J.look
  obtain ⟨od', J', _⟩ := J'.look
  have sb1 : L2.Sub X n A.in1 := sb.in1
  obtain ⟨m, hF⟩ := I.fr
  refine ne_K (tb := .ref C) (by have := sb1.room.units0; exact this) hF I.ok.mod.kin J J'.type (by simp [PySem.W.notFirst]) hs hf hne hm ?_
  have hsp : spEq R [.ref a, .ref b] H (fun v H' => v = .bl true ∧ Ext H H') E := ⟨a, b, rfl, hr, fun H' e => ⟨rfl, e⟩⟩
  have e0 : Env0 X.prog X.w X.K X.mg X.base A.in1 X.stack s H := by
    have e := I.env0
    exact ⟨by rw [sb1.fr]; exact e.frames, e.mod, e.bs, e.bsz, e.funs, e.frf, e.hok, e.bare⟩
  have hl := F.len _ _ _ _ hsp
  have r2 : Vals [V.ref a, V.ref b] [Value.ref a, Value.ref b] := .cons rfl (.cons rfl .nil)
  refine wpAny_call (codeAny_mono (F.run A.in1 X.stack s H ⟨[.ref a, .ref b], []⟩ [.ref a, .ref b] [.ref a, .ref b] _ E sb1.room e0 (by
    have := hb s [.ref a, .ref b] I.kIn (by simpa using hl)
    simpa using this) r2 hsp) fun r s' hq => ?_)
  cases r with
  | error e => exact hx pins σ H s e s' I hq
  | ok fl =>
    cases fl with
    | ret w =>
      obtain ⟨z, H', I', rz, ez, ex⟩ := I.after hq
      subst ez
      cases rz
      exact ⟨true, rfl, rfl, H', I', ex⟩
    | next => exact False.elim hq
    | brk => exact False.elim hq
    | cont => exact False.elim hq
/-- x != y as an expression -/
def rNeG (D : Eqv) : R2 := fun x y H Q => D x y H ∧ ∀ H', Ext H H' → Q (.bl false) H'
theorem op_neG {D : Eqv} (h : RcN X n D) (hr : Room n X.A) : OpR X (compareOp .NotEq) (rNeG D) := by
  intro pins s σ H x y v u Q I rx ry hq
  obtain ⟨d, q⟩ := hq
  show wpAny (model X.prog X.w) X.A (richCompare .NotEq v u) (EP X pins σ Q) X.xe s
  refine wpAny_mono (h X.A pins s σ H x y v u ⟨hr, rfl⟩ I rx ry d) (fun r s' z => ?_) fun _ _ x => x
  obtain ⟨hr', H', I', e⟩ := z
  subst hr'
  exact ⟨.bl false, H', I', rfl, q H' e⟩
end
end Ne
set_option maxHeartbeats 4000000
namespace My
open PySem PySem.Spec PyProof.Rows L2 Lcn Sq
open En DcN Ne
/-! ### book.key -/
structure KeyC (K : PySem.W.Frag) (C : Addr) where
  p : Addr
  f : Addr
  fd : FuncData
  P : PropOf K C "key" p f
  F : FunD K "key" "Book.key" (defArgs s_Book_key) (defBody s_Book_key) (defScope s_Book_key) [] [] f fd
  b : Binds K fd ["self"] []
def sp_Book_key (C : Addr) : Sp := fun vs H Q _ => ∃ (a dx : Addr) (r d e : V) (n : Int), vs = [.ref a] ∧ H a = some (.ins C dx (bookF r d e n)) ∧ ∀ p, H p = none → Q (.ref p) (upd H p (.tup [r, d, e, .int n]))
theorem sc_Book_key : FnScope ["self"] ["self"] (defScope s_Book_key) := ⟨rfl, rfl, rfl, by decide +kernel, rfl, by decide +kernel, by decide +kernel⟩
/-! ### the canonical one -/
structure CanonC (K : PySem.W.Frag) (mg : Str → Option Value) where
  C : Addr
  f : Addr
  fd : FuncData
  F : FunD K "__init__" "Canon.__init__" (defArgs s_Canon_init) (defBody s_Canon_init) (defScope s_Canon_init) [] [] f fd
  m : mg "Canon" = some (.ref C)
  M : Mk K C f
  cl : Cls K C
  b : Binds K fd ["self", "book", "letters", "unknowns"] []
  n1 : NoAttr K C "book"
  n2 : NoAttr K C "letters"
  n3 : NoAttr K C "unknowns"
def canonF (b l u : V) : List (Str × V) := [("book", b), ("letters", l), ("unknowns", u)]
def sp_Canon_init (K : PySem.W.Frag) (C : Addr) : Sp := fun vs H Q _ => ∃ (self : Addr) (b l u : V) (dx : Addr), vs = [.ref self, b, l, u] ∧ H self = some (.ins C dx []) ∧ ∀ (H' : Hp), Bt self H H' → H' self = some (.ins C dx (canonF b l u)) → Q .non H'
theorem sc_Canon_init : FnScope ["self", "book", "letters", "unknowns"] ["self", "book", "letters", "unknowns"] (defScope s_Canon_init) := ⟨rfl, rfl, rfl, by decide +kernel, rfl, by decide +kernel, by decide +kernel⟩
theorem sc_Canon_eq : FnScope ["self", "other"] ["self", "other"] (defScope s_Canon_eq) := ⟨rfl, rfl, rfl, by decide +kernel, rfl, by decide +kernel, by decide +kernel⟩
def CanonR (K : PySem.W.Frag) (CB CC : Addr) : Addr → Addr → Hp → Prop := fun a b H => ∃ (dx dy b1 b2 : Addr) (l u l' u' : V) (L U : List Int), H a = some (.ins CC dx (canonF (.ref b1) l u)) ∧ H b = some (.ins CC dy (canonF (.ref b2) l' u')) ∧ BookR K CB b1 b2 H ∧ IntsT K H l L ∧ IntsT K H l' L ∧ IntsT K H u U ∧ IntsT K H u' U
theorem ins_of {K : PySem.W.Frag} {CB : Addr} {a b : Addr} {H : Hp} (h : BookR K CB a b H) : DIns CB (BookR K CB) (.ref a) (.ref b) H := by
  obtain ⟨dx, dy, r, d, e, r', d', e', n, R, D, E, h1, h2, h3, h4⟩ := id h
  exact ⟨a, b, dx, dy, _, _, rfl, rfl, h1, h2, h⟩
theorem BookAt.kt {K : PySem.W.Frag} {H H' : Hp} {R : List Rw} {D : List (List Int)} {E : List (Int × List Int)} {r d e : V} (k : KT H H') (h : BookAt K H R D E r d e) : BookAt K H' R D E r d e :=
  ⟨h.r.kt (fun _ _ h => h.kt k) k, h.d.kt (fun _ _ h => h.kt k) k, h.e.kt (fun _ _ h => h.kt k) k⟩
theorem BookR.kt {K : PySem.W.Frag} {CB : Addr} {H H' : Hp} (k : KT H H') {a b : Addr} (h : BookR K CB a b H) : BookR K CB a b H' := by
  obtain ⟨dx, dy, r, d, e, r', d', e', n, R, D, E, h1, h2, h3, h4⟩ := h
  exact ⟨dx, dy, r, d, e, r', d', e', n, R, D, E, k _ _ rfl h1, k _ _ rfl h2, h3.kt k, h4.kt k⟩
theorem same_make {H H' : Hp} {x dx : Addr} {o o' : HO} (hx : H x = none) (hdx : H dx = none) (e : Bt x (upd (upd H dx o) x o') H') : Same H H' := fun b u h => by
  have n1 : b ≠ x := ne_of_none h hx
  refine e b u n1 ?_
  rw [upd_ne n1, upd_ne (ne_of_none h hdx)]
  exact h
/-- what canon told -/
def CanAt (K : PySem.W.Frag) (CB CC : Addr) (H : Hp) (t : Addr) (R : List Rw) (D : List (List Int)) (E : List (Int × List Int)) (n : Int) : Prop :=
  ∃ (dt bk db : Addr) (r d e l u : V), H t = some (.ins CC dt (canonF (.ref bk) l u)) ∧ H bk = some (.ins CB db (bookF r d e n)) ∧ BookAt K H (cRows R) (cDeeds D R) (cEnds n E R) r d e ∧ IntsT K H l (cLet R) ∧ IntsT K H u (cUnk R)
def sp_canon (K : PySem.W.Frag) (CB CC : Addr) : Sp := fun vs H Q _ => ∃ (b dx : Addr) (r d e : V) (n : Int) (R : List Rw) (D : List (List Int)) (E : List (Int × List Int)), vs = [.ref b] ∧ H b = some (.ins CB dx (bookF r d e n)) ∧ BookAt K H R D E r d e ∧ BookOk R D E n ∧ (flat R).length < 500 ∧
  ∀ (t : Addr) (H' : Hp), Same H H' → H t = none → CanAt K CB CC H' t R D E n → Q (.ref t) H'
/-! ### the flat list of signs -/
theorem flat_tk {rs : List Rw} {i : Nat} {r : Rw} (h : rs[i]? = some r) : flat (rs.take (i + 1)) = flat (rs.take i) ++ (r.1 ++ r.2) := by
  obtain ⟨p, e⟩ := List.getElem?_eq_some_iff.mp h
  unfold flat
  rw [List.take_succ_eq_append_getElem p, List.flatMap_append, e]
  simp
/-- the picked signs -/
def pk (p : Int → Bool) (f : Int → Int) (l : List Int) : List V := ((l.filter p).map f).map V.int
theorem pk_app {p : Int → Bool} {f : Int → Int} {a b : List Int} : pk p f (a ++ b) = pk p f a ++ pk p f b := by
  unfold pk
  rw [List.filter_append, List.map_append, List.map_append]
theorem pk_len {p : Int → Bool} {f : Int → Int} {l : List Int} : (pk p f l).length ≤ l.length := by
  unfold pk
  rw [List.length_map, List.length_map]
  exact List.length_filter_le _ _
theorem pk_step {p : Int → Bool} {f : Int → Int} {l : List Int} {j : Nat} {s : Int} (h : l[j]? = some s) : pk p f (l.take (j + 1)) = if p s = true then pk p f (l.take j) ++ [.int (f s)] else pk p f (l.take j) := by
  obtain ⟨q, e⟩ := List.getElem?_eq_some_iff.mp h
  rw [List.take_succ_eq_append_getElem q, pk_app, e]
  by_cases c : p s = true
  · rw [if_pos c]
    unfold pk
    rw [List.filter_cons, if_pos c]
    rfl
  · rw [if_neg c]
    unfold pk
    rw [List.filter_cons, if_neg c]
    simp
theorem flat_pre {rs : List Rw} {i : Nat} : (flat (rs.take i)).length ≤ (flat rs).length := by
  have e : flat rs = flat (rs.take i) ++ flat (rs.drop i) := by
    unfold flat
    rw [← List.flatMap_append, List.take_append_drop]
  rw [e, List.length_append]
  omega
section
variable {P : Program} {w : World} {K : PySem.W.Frag} {mg : Str → Option Value} {base : Heap}
theorem ok_Book_key (C_Book : BookC K mg) (Y : KeyC K C_Book.C) (T : TB mg) : FnOk P w K mg base CX0 1 Y.f Y.fd ["self"] (sp_Book_key C_Book.C) := by
  refine ok0 Y.F sc_Book_key (fun vs H Q E h => ?_) (fun cdv A outer s H vs Q E hr h => ?_)
  · obtain ⟨a, dx, r, d, e, n, rfl, _⟩ := h
    rfl
  · obtain ⟨a, dx, r, d, e, n, rfl, h1, k⟩ := h
    refine ⟨_, (pss_one (ps_ret (pe_tup (pa_cons (pe_fld (pv 0) rfl) (pa_cons (pe_fld (pv 0) rfl) (pa_cons (pe_fld (pv 0) rfl) (pa_cons (pe_fld (pv 0) rfl) pa_nil))))))), ?_⟩
    exact ⟨_, rfl, a, C_Book.C, dx, _, _, rfl, h1, C_Book.cl, C_Book.n1, rfl, _, rfl, a, C_Book.C, dx, _, _, rfl, h1, C_Book.cl, C_Book.n2, rfl, _, rfl, a, C_Book.C, dx, _, _, rfl, h1, C_Book.cl, C_Book.n3, rfl, _, rfl, a, C_Book.C, dx, _, _, rfl, h1, C_Book.cl, C_Book.n4, rfl, (by show 4 ≤ sizeLine; decide), fun p hp => k p hp⟩
theorem ok_Canon_init (C_Canon : CanonC K mg) : FnOk P w K mg base CX0 1 C_Canon.f C_Canon.fd ["self", "book", "letters", "unknowns"] (sp_Canon_init K C_Canon.C) := by
  refine ok0 C_Canon.F sc_Canon_init (fun vs H Q E h => ?_) (fun cdv A outer s H vs Q E hr h => ?_)
  · obtain ⟨self, b, l, u, dx, rfl, _⟩ := h
    rfl
  · obtain ⟨self, b, l, u, dx, rfl, hS, k'⟩ := h
    refine ⟨_, (pss_cons (ps_fld (pv 0) (pv 1) rfl)
  (pss_cons (ps_fld (pv 0) (pv 2) rfl)
  (pss_one (ps_fld (pv 0) (pv 3) rfl)))), ?_⟩
    refine ⟨_, rfl, _, rfl, self, C_Canon.C, dx, _, rfl, hS, C_Canon.cl, C_Canon.n1, (by decide), ?_⟩
    refine ⟨_, rfl, _, rfl, self, C_Canon.C, dx, _, rfl, upd_same, C_Canon.cl, C_Canon.n2, (by show 1 < 1000; decide), ?_⟩
    refine ⟨_, rfl, _, rfl, self, C_Canon.C, dx, _, rfl, upd_same, C_Canon.cl, C_Canon.n3, (by show 2 < 1000; decide), ?_⟩
    exact k' _ (fun b o nb h => by rw [upd_ne nb, upd_ne nb, upd_ne nb]; exact h) upd_same
theorem ok_Canon_eq (C_Book : BookC K mg) (Q_Book : EqC K "Book.__eq__" s_Book_eq C_Book.C) (G_Book_eq : FnOk P w K mg base CX0 1 Q_Book.f Q_Book.fd ["self", "other"] (spEq (BookR K C_Book.C))) (C_Canon : CanonC K mg) (Q_Canon : EqC K "Canon.__eq__" s_Canon_eq C_Canon.C) (T : TB mg) : FnOk P w K mg base CX0 2 Q_Canon.f Q_Canon.fd ["self", "other"] (spEq (CanonR K C_Book.C C_Canon.C)) := by
  refine ok0 Q_Canon.F sc_Canon_eq (fun vs H Q E h => ?_) (fun cdv A outer s H vs Q E hr h => ?_)
  · obtain ⟨a, b, rfl, _⟩ := h
    rfl
  · obtain ⟨a, b, rfl, ⟨dx, dy, b1, b2, l, u, l', u', L, U, h1, h2, hb, hl, hl', hu, hu'⟩, k⟩ := h
    refine ⟨_, (pss_one (ps_ret (pe_and (pe_callB call_isi (by rfl) T.isinstance (by decide +kernel) (pa_cons (pv 1) (pa_cons (pe_glob (v := .ref C_Canon.C) (by rfl) C_Canon.m rfl) pa_nil))) (pe_and (pe_cmpR (op_eqG (rcG_ins (CX := CX0) (E := C8.E0) G_Book_eq Q_Book.at_ Q_Book.fn Q_Book.b C8.pass0) (hr.mono (by decide))) (pe_fld (pv 0) rfl) (pe_fld (pv 1) rfl) (nomark _)) (pe_and (pe_cmpR (op_eqD hr.units) (pe_fld (pv 0) rfl) (pe_fld (pv 1) rfl) (nomark _)) (pe_one (pe_cmpR (op_eqD hr.units) (pe_fld (pv 0) rfl) (pe_fld (pv 1) rfl) (nomark _)))))))), ?_⟩
    refine ⟨_, rfl, _, _, _, _, true, rfl, .own _, insTy Q_Canon.I h2, Q_Canon.I.me, _, rfl, iteT ?_⟩
    refine ⟨_, rfl, a, C_Canon.C, dx, _, _, rfl, h1, C_Canon.cl, C_Canon.n1, rfl, _, rfl, b, C_Canon.C, dy, _, _, rfl, h2, C_Canon.cl, C_Canon.n1, rfl, ins_of hb, fun H1 s1 => ⟨_, rfl, iteT ?_⟩⟩
    have k1 : KT H H1 := KT.of s1
    refine ⟨_, rfl, a, C_Canon.C, dx, _, _, rfl, s1 _ _ h1, C_Canon.cl, C_Canon.n2, rfl, _, rfl, b, C_Canon.C, dy, _, _, rfl, s1 _ _ h2, C_Canon.cl, C_Canon.n2, rfl, rd_eqD (flt_iD L) (by decide) (dp_ints (hl.kt k1)) (dp_ints (hl'.kt k1)) ⟨_, rfl, iteT ?_⟩⟩
    refine ⟨_, rfl, a, C_Canon.C, dx, _, _, rfl, s1 _ _ h1, C_Canon.cl, C_Canon.n3, rfl, _, rfl, b, C_Canon.C, dy, _, _, rfl, s1 _ _ h2, C_Canon.cl, C_Canon.n3, rfl, ?_⟩
    exact rd_eqD (flt_iD U) (by decide) (dp_ints (hu.kt k1)) (dp_ints (hu'.kt k1)) (k H1 s1)
end
end My
set_option maxHeartbeats 4000000
namespace My
open PySem PySem.Spec PyProof.Rows L2 Lcn Sq
open En DcN Ne
theorem pk_step2 {p : Int → Bool} {f : Int → Int} {pre ns : List Int} {j : Nat} {s : Int} (h : ns[j]? = some s) : pk p f (pre ++ ns.take (j + 1)) = if p s = true then pk p f (pre ++ ns.take j) ++ [.int (f s)] else pk p f (pre ++ ns.take j) := by
  rw [pk_app, pk_app, pk_step h]
  split
  · rw [List.append_assoc]
  · rfl
/-- a row's sides, up to the j-th -/
def upto (r : Rw) : Nat → List Int
  | 0 => []
  | 1 => r.1
  | _ => r.1 ++ r.2
theorem flat_mono {rs : List Rw} {i : Nat} {r : Rw} (h : rs[i]? = some r) : (flat (rs.take i)).length + (r.1.length + r.2.length) ≤ (flat rs).length := by
  have := flat_pre (rs := rs) (i := i + 1)
  rw [flat_tk h, List.length_append, List.length_append] at this
  exact this
theorem flat_kept (R : List Rw) : (flat (keptF R)).length ≤ (flat R).length := by
  have c1 : ∀ (r : Rw) (R : List Rw), (flat (r :: R)).length = r.1.length + r.2.length + (flat R).length := fun r R => by
    unfold flat
    rw [List.flatMap_cons, List.length_append, List.length_append]
  have c2 : ∀ (k : List Rw) (r : Rw), (flat (k ++ [r])).length = (flat k).length + (r.1.length + r.2.length) := fun k r => by
    unfold flat
    rw [List.flatMap_append, List.length_append]
    simp
  have : ∀ (R k : List Rw), (flat (R.foldl kpS k)).length ≤ (flat k).length + (flat R).length := by
    intro R
    induction R with
    | nil => intro k; simp
    | cons r R ih =>
      intro k
      rw [List.foldl_cons]
      have := ih (kpS k r)
      have h2 : (flat (kpS k r)).length ≤ (flat k).length + (r.1.length + r.2.length) := by
        unfold kpS
        split
        · omega
        · rw [c2]; exact Nat.le_refl _
      rw [c1]
      omega
  have := this R []
  simpa [keptF, flat] using this
theorem enumT_rd {K : PySem.W.Frag} {ta : TA} {σ : L2.St} {H H1 : Hp} {R : It → Hp → Prop} {a : Addr} {xs : List V} (hs : SqT K H1 a xs) (q : R (IteT K a) H1) (hl : ∀ Q : List V → Hp → Prop, Q [.ref a] H1 → ta σ H Q) : iEnumT K ta σ H R := by
  unfold iEnumT
  exact hl _ ⟨a, xs, rfl, hs, q⟩
theorem nd_ix {l : List Int} (nd : l.Nodup) {i j : Nat} {s : Int} (a : l[i]? = some s) (b : l[j]? = some s) : i = j := by
  obtain ⟨h1, e1⟩ := List.getElem?_eq_some_iff.mp a
  obtain ⟨h2, e2⟩ := List.getElem?_eq_some_iff.mp b
  exact (List.getElem_inj nd).mp (e1.trans e2.symm)
/-! ### lists of new lists -/
theorem lc_gen {α : Type} {K : PySem.W.Frag} {R : Hp → V → α → Prop} {J : It} {n : Nat} {Gw : Hp → Prop} {Xt : Nat → V → Prop} (w : Walk J n Gw (YIs Xt)) (hn : n < sizeLine) {zs : List α} (hl : zs.length = n) {g : TG} {te : TE} {vs : List Nat} {σ : L2.St} {H1 : Hp} {D : Addr} {Qd : Hp → Prop}
    (m1 : ∀ H H' v z, Same H H' → R H v z → R H' v z) (m2 : ∀ H o v z, R H v z → R (upd H D o) v z) (hD : H1 D = none) (hGw : ∀ H', Same H1 H' → Gw H')
    (hs : ∀ i x z H' (Q : VK), i < n → Xt i x → zs[i]? = some z → Same H1 H' → (∃ o, H' D = some o) → (∀ y H4, Same H' H4 → R H4 y z → Q y H4) → g x (wipe σ vs) H' fun σ2 H2 => wipe σ2 vs = wipe σ vs ∧ te σ2 H2 Q)
    (hd : ∀ H', Same H1 H' → LstR K R H' D zs → Qd H') :
    ∃ W : Nat → Nat → Hp → Prop, (∃ m, W 0 m (upd H1 D (.lst []))) ∧ ∀ i m H, W i m H →
      (J.stop i H ∧ Qd H) ∨ (J.go i H ∧ ∃ Nx : Hp → Prop, (∀ H', Nx H' → ∃ m', m' < m ∧ W (i + 1) m' H') ∧ ∀ x H', J.yld i H x H' → g x (wipe σ vs) H' fun σ2 H2 => wipe σ2 vs = wipe σ vs ∧ tYes σ2 H2 fun b H3 =>
        if b = true then te σ2 H3 fun y H4 => ∃ acc, H4 D = some (.lst acc) ∧ acc.length < sizeLine ∧ Nx (upd H4 D (.lst (acc ++ [y]))) else Nx H3) := by
  refine lc_it w (fun i H => Same H1 H ∧ LstR K R H D (zs.take i)) ⟨same_new hD, lst_nil⟩ (fun i H _ p => hGw H p.1) (fun i x H H' hi p y => ?_) (fun H p => hd H p.1 (by
    have e : zs.take n = zs := by rw [← hl, List.take_length]
    rw [← e]
    exact p.2))
  obtain ⟨e, hx⟩ := y
  subst e
  obtain ⟨s1, ys, d1, d2, d3⟩ := p
  have hi2 : i < zs.length := by omega
  have hz : zs[i]? = some zs[i] := List.getElem?_eq_getElem hi2
  refine hs i x _ H' _ hi hx hz s1 ⟨_, d1⟩ fun y H4 s4 hy => ?_
  have d4 := s4 _ _ d1
  refine ⟨ys, d4, by rw [d2, List.length_take]; omega, same_upd (s1.trans s4) hD, ?_⟩
  rw [List.take_succ_eq_append_getElem hi2]
  exact lst_snoc2 (fun v z h => m2 _ _ _ _ h) d2 (fun j x z h1 h2 => m1 _ _ _ _ s4 (d3 j x z h1 h2)) hy
/-- a new list of ints, of two such lists, at other places than D -/
def IntN (D : Addr) (H : Hp) (v : V) (ns : List Int) : Prop := ∃ a, v = .ref a ∧ a ≠ D ∧ H a = some (.lst (ns.map V.int))
def RowN (D : Addr) (H : Hp) (v : V) (r : Rw) : Prop := ∃ a x y, v = .ref a ∧ a ≠ D ∧ H a = some (.lst [x, y]) ∧ IntN D H x r.1 ∧ IntN D H y r.2
theorem intN_same {D : Addr} (H H' : Hp) (v : V) (z : List Int) (e : Same H H') (h : IntN D H v z) : IntN D H' v z := by
  obtain ⟨a, r, n, h⟩ := h
  exact ⟨a, r, n, e _ _ h⟩
theorem intN_upd {D : Addr} (H : Hp) (o : HO) (v : V) (z : List Int) (h : IntN D H v z) : IntN D (upd H D o) v z := by
  obtain ⟨a, r, n, h⟩ := h
  exact ⟨a, r, n, by rw [upd_ne n]; exact h⟩
theorem rowN_same {D : Addr} (H H' : Hp) (v : V) (z : Rw) (e : Same H H') (h : RowN D H v z) : RowN D H' v z := by
  obtain ⟨a, x, y, r, n, h, h1, h2⟩ := h
  exact ⟨a, x, y, r, n, e _ _ h, intN_same _ _ _ _ e h1, intN_same _ _ _ _ e h2⟩
theorem rowN_upd {D : Addr} (H : Hp) (o : HO) (v : V) (z : Rw) (h : RowN D H v z) : RowN D (upd H D o) v z := by
  obtain ⟨a, x, y, r, n, h, h1, h2⟩ := h
  exact ⟨a, x, y, r, n, by rw [upd_ne n]; exact h, intN_upd _ _ _ _ h1, intN_upd _ _ _ _ h2⟩
theorem rowN_s {K : PySem.W.Frag} {D : Addr} {H : Hp} {v : V} {z : Rw} (h : RowN D H v z) : RowS K H v z := by
  obtain ⟨a, x, y, r, n, h, ⟨b, rfl, _, h1⟩, ⟨c, rfl, _, h2⟩⟩ := h
  exact ⟨a, _, _, r, .inl (SqL.of h), ⟨b, rfl, .inl (SqL.of h1)⟩, ⟨c, rfl, .inl (SqL.of h2)⟩⟩
/-- .. at other places than C, D -/
def IntM (C D : Addr) (H : Hp) (v : V) (ns : List Int) : Prop := ∃ a, v = .ref a ∧ a ≠ C ∧ a ≠ D ∧ H a = some (.lst (ns.map V.int))
theorem intM_same {C D : Addr} (H H' : Hp) (v : V) (z : List Int) (e : Same H H') (h : IntM C D H v z) : IntM C D H' v z := by
  obtain ⟨a, r, n, m, h⟩ := h
  exact ⟨a, r, n, m, e _ _ h⟩
theorem intM_upd {C D : Addr} (H : Hp) (o : HO) (v : V) (z : List Int) (h : IntM C D H v z) : IntM C D (upd H D o) v z := by
  obtain ⟨a, r, n, m, h⟩ := h
  exact ⟨a, r, n, m, by rw [upd_ne m]; exact h⟩
theorem got_map {D : Addr} {ns : List Int} {f : Int → Int} {H : Hp} (h : Got D ns.length (fun _ i y => ∀ s, ns[i]? = some s → y = .int (f s)) H) : H D = some (.lst ((ns.map f).map V.int)) := by
  obtain ⟨ys, h1, h2, h3⟩ := h
  rw [h1]
  refine congrArg some (congrArg HO.lst (List.ext_getElem (by simp [h2]) fun i g1 g2 => ?_))
  rw [List.getElem_map, List.getElem_map]
  have hi : i < ns.length := by simpa using g2
  exact h3 i _ (List.getElem?_eq_getElem g1) _ (List.getElem?_eq_getElem hi)
theorem same_free {H H' : Hp} (e : Same H H') {p : Addr} (h : H' p = none) : H p = none := by
  cases q : H p with
  | none => rfl
  | some o =>
    rw [e _ _ q] at h
    cases h
theorem upto_len (r : Rw) (j : Nat) : (upto r j).length ≤ r.1.length + r.2.length := by
  match j with
  | 0 => simp [upto]
  | 1 => simp [upto]
  | _ + 2 => simp [upto]
def sp_canon_of (K : PySem.W.Frag) (CB CC : Addr) : Sp := fun vs H Q _ => ∃ (r d e : V) (n : Int) (R : List Rw) (D : List (List Int)) (E : List (Int × List Int)), vs = [r, d, e, .int n] ∧ BookAt K H R D E r d e ∧ BookOk R D E n ∧ (flat R).length < 500 ∧
  ∀ (t : Addr) (H' : Hp), Same H H' → H t = none → CanAt K CB CC H' t R D E n → Q (.ref t) H'
theorem sc_canon_of : FnScope ["tidied", "old_deeds", "old_ends", "states", "rows", "letters", "unknowns", "signs", "renamed", "deeds", "ends", "new", "old", "row", "side", "sign"] ["tidied", "old_deeds", "old_ends", "states"] (defScope s_canon_of) := ⟨rfl, rfl, rfl, by decide +kernel, rfl, by decide +kernel, by decide +kernel⟩
section
variable {P : Program} {w : World} {K : PySem.W.Frag} {mg : Str → Option Value} {base : Heap}
theorem ok_canon_of (D_canon_of : Dn K mg "canon_of" s_canon_of ["tidied", "old_deeds", "old_ends", "states"]) (C_Canon : CanonC K mg) (G_Canon : FnOk P w K mg base CX0 1 C_Canon.f C_Canon.fd ["self", "book", "letters", "unknowns"] (sp_Canon_init K C_Canon.C)) (C_Book : BookC K mg) (G_Book : FnOk P w K mg base CX0 5 C_Book.f C_Book.fd ["self", "rows", "deeds", "ends", "states"] (sp_Book_init K C_Book.C)) (D_plain_ends : Dn K mg "plain_ends" s_plain_ends ["ends", "states"]) (G_plain_ends : FnOk P w K mg base CX0 1 D_plain_ends.f D_plain_ends.fd ["ends", "states"] (sp_plain_ends K)) (D_first_places : Dn K mg "first_places" s_first_places ["numbers"]) (G_first_places : FnOk P w K mg base CX0 1 D_first_places.f D_first_places.fd ["numbers"] (sp_first_places K)) (D_unlike_rows : Dn K mg "unlike_rows" s_unlike_rows ["rows"]) (G_unlike_rows : FnOk P w K mg base CX0 1 D_unlike_rows.f D_unlike_rows.fd ["rows"] (sp_unlike_rows K)) (T : TB mg) : FnOk P w K mg base CX0 7 D_canon_of.f D_canon_of.fd ["tidied", "old_deeds", "old_ends", "states"] (sp_canon_of K C_Book.C C_Canon.C) := by
  refine ok0 D_canon_of.F sc_canon_of (fun vs H Q E h => ?_) (fun cdv A outer s H vs Q E hr h => ?_)
  · obtain ⟨rV, dV, eV, n, R, D, E', rfl, hA, ok, fR, k⟩ := h
    rfl
  · obtain ⟨rV, dV, eV, n, R, D, E', rfl, hA, ok, fR, k⟩ := h
    refine ⟨_, (pss_cons (ps_set (i := 4) sc_canon_of.nd rfl (by first | exact Or.inl rfl | exact Or.inr rfl) (pe_call G_unlike_rows (hr.mono (by decide)) (by rfl) D_unlike_rows.m D_unlike_rows.F.kp D_unlike_rows.b .nil pass0 (pa_cons (pv 0) pa_nil)))
  (pss_cons (ps_set (i := 5) sc_canon_of.nd rfl (by first | exact Or.inl rfl | exact Or.inr rfl) (pe_call G_first_places (hr.mono (by decide)) (by rfl) D_first_places.m D_first_places.F.kp D_first_places.b .nil pass0 (pa_cons (pe_lcn (own := [(("row" : Str), 13), (("side" : Str), 14), (("sign" : Str), 15)]) rfl sc_canon_of.nd (pi_seq (pv 4)) (blkOk_by (own := [(("row" : Str), 13), (("side" : Str), 14), (("sign" : Str), 15)]) (N := ["tidied", "old_deeds", "old_ends", "states", "rows", "letters", "unknowns", "signs", "renamed", "deeds", "ends", "new", "old", "row", "side", "sign"]) (sc := defScope s_canon_of) (by decide +kernel)) (by decide) (fun _ _ _ _ _ => (pg_name (i := 13) sc_canon_of.nd rfl (Or.inl rfl))) (fun _ _ _ _ _ => pts_nil) (fun _ _ _ _ _ => (pb_cl (vs := [14, 15]) rfl rfl (by decide) rfl (pi_seqK (K := K) rfl (pv 13)) (pg_name (i := 14) sc_canon_of.nd rfl (Or.inl rfl)) pts_nil (pb_cl (vs := [15]) rfl rfl (by decide) rfl (pi_seqK (K := K) rfl (pv 14)) (pg_name (i := 15) sc_canon_of.nd rfl (Or.inl rfl)) (pts_one (pt_cmpR op_ge (pv 15) pe_int (nomark _))) (pb_end rfl rfl (pv 15)) (by decide)) (by decide))) (by decide)) pa_nil)))
  (pss_cons (ps_set (i := 6) sc_canon_of.nd rfl (by first | exact Or.inl rfl | exact Or.inr rfl) (pe_call G_first_places (hr.mono (by decide)) (by rfl) D_first_places.m D_first_places.F.kp D_first_places.b .nil pass0 (pa_cons (pe_lcn (own := [(("row" : Str), 13), (("side" : Str), 14), (("sign" : Str), 15)]) rfl sc_canon_of.nd (pi_seq (pv 4)) (blkOk_by (own := [(("row" : Str), 13), (("side" : Str), 14), (("sign" : Str), 15)]) (N := ["tidied", "old_deeds", "old_ends", "states", "rows", "letters", "unknowns", "signs", "renamed", "deeds", "ends", "new", "old", "row", "side", "sign"]) (sc := defScope s_canon_of) (by decide +kernel)) (by decide) (fun _ _ _ _ _ => (pg_name (i := 13) sc_canon_of.nd rfl (Or.inl rfl))) (fun _ _ _ _ _ => pts_nil) (fun _ _ _ _ _ => (pb_cl (vs := [14, 15]) rfl rfl (by decide) rfl (pi_seqK (K := K) rfl (pv 13)) (pg_name (i := 14) sc_canon_of.nd rfl (Or.inl rfl)) pts_nil (pb_cl (vs := [15]) rfl rfl (by decide) rfl (pi_seqK (K := K) rfl (pv 14)) (pg_name (i := 15) sc_canon_of.nd rfl (Or.inl rfl)) (pts_one (pt_cmpR op_lt (pv 15) pe_int (nomark _))) (pb_end rfl rfl (pe_op op_sub (pe_un un_neg pe_int) (pv 15))) (by decide)) (by decide))) (by decide)) pa_nil)))
  (pss_cons (ps_set (i := 7) sc_canon_of.nd rfl (by first | exact Or.inl rfl | exact Or.inr rfl) pe_dnewK)
  (C8.pss_cut (ps_for PassesOwn.never rfl (pi_enumT (by rfl) T.enumerate (pa_cons (pv 5) pa_nil)) (pg_tup (n := 2) rfl (pgs_cons (pg_name (i := 11) sc_canon_of.nd rfl (by first | exact Or.inl rfl | exact Or.inr rfl)) (pgs_cons (pg_name (i := 12) sc_canon_of.nd rfl (by first | exact Or.inl rfl | exact Or.inr rfl)) pgs_nil))) (pss_one (ps_asg (pv 11) (pg_sub (pv 7) (pv 12) (set_dict (u1 hr.units))))))
  (C8.pss_cut (ps_for PassesOwn.never rfl (pi_enumT (by rfl) T.enumerate (pa_cons (pv 6) pa_nil)) (pg_tup (n := 2) rfl (pgs_cons (pg_name (i := 11) sc_canon_of.nd rfl (by first | exact Or.inl rfl | exact Or.inr rfl)) (pgs_cons (pg_name (i := 12) sc_canon_of.nd rfl (by first | exact Or.inl rfl | exact Or.inr rfl)) pgs_nil))) (pss_one (ps_asg (pe_op op_sub (pe_un un_neg pe_int) (pv 11)) (pg_sub (pv 7) (pe_op op_sub (pe_un un_neg pe_int) (pv 12)) (set_dict (u1 hr.units))))))
  (pss_cons (ps_setLc (i := 8) (own := [(("row" : Str), 13)]) rfl sc_canon_of.nd rfl rfl (sw_true rfl rfl rfl (by decide +kernel)) (pi_seq (pv 4)) (blkOk_by (own := [(("row" : Str), 13)]) (N := ["tidied", "old_deeds", "old_ends", "states", "rows", "letters", "unknowns", "signs", "renamed", "deeds", "ends", "new", "old", "row", "side", "sign"]) (sc := defScope s_canon_of) (by decide +kernel)) (fun _ _ _ _ _ => (pg_name (i := 13) sc_canon_of.nd rfl (Or.inl rfl))) (fun _ _ _ _ _ => pts_nil) (fun _ _ _ _ _ => (pe_lc (own := [(("side" : Str), 14)]) rfl sc_canon_of.nd (pi_seqK (K := K) rfl (pv 13)) (blkOk_by (own := [(("side" : Str), 14)]) (by kernel_rfl)) (fun _ _ _ _ _ => (pg_name (i := 14) sc_canon_of.nd rfl (Or.inl rfl))) (fun _ _ _ _ _ => pts_nil) (fun _ _ _ _ _ => (pe_lc (own := [(("sign" : Str), 15)]) rfl sc_canon_of.nd (pi_seqK (K := K) rfl (pv 14)) (blkOk_by (own := [(("sign" : Str), 15)]) (by kernel_rfl)) (fun _ _ _ _ _ => (pg_name (i := 15) sc_canon_of.nd rfl (Or.inl rfl))) (fun _ _ _ _ _ => pts_nil) (fun _ _ _ _ _ => (pe_dget (u1 hr.units) (pv 7) (pv 15) (fun _ _ => rfl))))))))
  (pss_cons (ps_setLc (i := 9) (own := [(("old" : Str), 12)]) rfl sc_canon_of.nd rfl rfl (sw_true rfl rfl rfl (by decide +kernel)) (pi_seq (pv 5)) (blkOk_by (own := [(("old" : Str), 12)]) (N := ["tidied", "old_deeds", "old_ends", "states", "rows", "letters", "unknowns", "signs", "renamed", "deeds", "ends", "new", "old", "row", "side", "sign"]) (sc := defScope s_canon_of) (by decide +kernel)) (fun _ _ _ _ _ => (pg_name (i := 12) sc_canon_of.nd rfl (Or.inl rfl))) (fun _ _ _ _ _ => pts_nil) (fun _ _ _ _ _ => (pe_ix (ix_tupK (K := K) rfl) (pv 1) (pv 12) (fun _ _ => rfl))))
  (pss_cons (ps_setLc (i := 10) (own := [(("old" : Str), 12)]) rfl sc_canon_of.nd rfl rfl (sw_true rfl rfl rfl (by decide +kernel)) (pi_seq (pv 6)) (blkOk_by (own := [(("old" : Str), 12)]) (N := ["tidied", "old_deeds", "old_ends", "states", "rows", "letters", "unknowns", "signs", "renamed", "deeds", "ends", "new", "old", "row", "side", "sign"]) (sc := defScope s_canon_of) (by decide +kernel)) (fun _ _ _ _ _ => (pg_name (i := 12) sc_canon_of.nd rfl (Or.inl rfl))) (fun _ _ _ _ _ => pts_nil) (fun _ _ _ _ _ => (pe_call G_plain_ends (hr.mono (by decide)) (by rfl) D_plain_ends.m D_plain_ends.F.kp D_plain_ends.b .nil pass0 (pa_cons (pe_ix (ix_tupK (K := K) rfl) (pv 2) (pv 12) (fun _ _ => rfl)) (pa_cons (pv 3) pa_nil)))))
  (pss_one (ps_ret (pe_make C_Canon.M G_Canon (hr.mono (by decide)) (by rfl) C_Canon.m C_Canon.b .nil pass0 (pa_cons (pe_make C_Book.M G_Book (hr.mono (by decide)) (by rfl) C_Book.m C_Book.b .nil pass0 (pa_cons (pv 8) (pa_cons (pv 9) (pa_cons (pv 10) (pa_cons (pv 3) pa_nil))))) (pa_cons (pv 5) (pa_cons (pv 6) pa_nil))))))))))))))), ?_⟩
    refine ⟨_, rfl, rV, R, rfl, hA.r, ok.rl, fun pr H1 s1 n1 lk => ?_⟩
    have kl := kp_len R
    have rl := ok.rl
    obtain ⟨ks, hks⟩ : ∃ ks, ks = keptF R := ⟨_, rfl⟩
    rw [← hks] at lk
    have fl : (flat ks).length < 500 := by
      have : (flat (keptF R)).length ≤ (flat R).length := flat_kept R
      rw [hks]
      omega
    obtain ⟨xk, k1, k2, k3⟩ := lk
    refine seq_rd (H0 := H1) (Same.refl _) (fun _ q => ⟨_, rfl, q⟩) (.inl (SqL.of k1)) fun J Gw w1 gw L hL => ?_
    refine turns_yes w1 (fun i H' => Same H1 H' ∧ H' L = some (.lst (pk (fun s => decide (0 ≤ s)) (fun s => s) (flat (ks.take i))))) ⟨same_new hL, upd_same⟩ (fun i H' _ p => gw H' fun o h => p.1 _ o h) (fun i x H' hi hx p => ?_) (fun H' p => ?_)
    · obtain ⟨z, hz⟩ := seq_at k2 hx
      obtain ⟨ar, x1, y1, rfl, hrow, hx1, hy1⟩ := k3 i x z hx hz
      have fm := flat_mono hz
      refine ⟨rfl, ?_⟩
      refine seq_rd p.1 (fun _ q => ⟨_, rfl, q⟩) (.inr hrow) fun J2 Gw2 w2 gw2 => ?_
      refine turns_yes w2 (fun j H'' => Same H1 H'' ∧ H'' L = some (.lst (pk (fun s => decide (0 ≤ s)) (fun s => s) (flat (ks.take i) ++ upto z j)))) ⟨p.1, by rw [p.2]; simp [upto]⟩ (fun j H'' _ p => gw2 H'' fun o h => p.1 _ o h) (fun j x2 H'' hj hx2 p2 => ?_) (fun H'' p2 => ?_)
      · have hj2 : j < 2 := hj
        obtain ⟨ns, h1, h2⟩ : ∃ ns, IntsT K H1 x2 ns ∧ upto z (j + 1) = upto z j ++ ns := by
          rcases (by omega : j = 0 ∨ j = 1) with rfl | rfl
          · cases hx2
            exact ⟨_, hx1, by simp [upto]⟩
          · cases hx2
            exact ⟨_, hy1, rfl⟩
        obtain ⟨as, rfl, hs⟩ := h1
        have ul := upto_len z (j + 1)
        rw [h2, List.length_append] at ul
        refine ⟨rfl, ?_⟩
        refine seq_rd p2.1 (fun _ q => ⟨_, rfl, q⟩) (.inr hs) fun J3 Gw3 w3 gw3 => ?_
        refine turns_it w3 (fun l H3 => Same H1 H3 ∧ H3 L = some (.lst (pk (fun s => decide (0 ≤ s)) (fun s => s) ((flat (ks.take i) ++ upto z j) ++ ns.take l)))) ⟨p2.1, by rw [p2.2]; simp⟩ (fun l H3 _ p => gw3 H3 fun o h => p.1 _ o h) (fun l x3 H3 hl hx3 p3 => ?_) (fun H3 p3 => ?_)
        · obtain ⟨s, hs', rfl⟩ := map_at hx3
          have st := pk_step2 (p := (fun s => decide (0 ≤ s))) (f := (fun s => s)) (pre := flat (ks.take i) ++ upto z j) hs'
          have len : (pk (fun s => decide (0 ≤ s)) (fun s => s) ((flat (ks.take i) ++ upto z j) ++ ns.take l)).length < sizeLine := by
            refine Nat.lt_of_le_of_lt pk_len (k1000 ?_)
            rw [List.length_append, List.length_append, List.length_take]
            omega
          refine ⟨rfl, _, rfl, _, _, rfl, rfl, _, rfl, ite2 (fun c => ?_) (fun c => ?_)⟩
          · refine ⟨_, rfl, _, p3.2, len, same_upd p3.1 hL, ?_⟩
            rw [upd_same, st, if_pos (show (fun s => decide (0 ≤ s)) s = true from c)]
          · refine ⟨p3.1, ?_⟩
            rw [p3.2, st, if_neg (show ¬ (fun s => decide (0 ≤ s)) s = true from c)]
        · refine ⟨p3.1, ?_⟩
          rw [p3.2, h2, List.length_map, List.take_length, List.append_assoc]
      · refine ⟨p2.1, ?_⟩
        rw [p2.2, flat_tk hz]
        rfl
    obtain ⟨s2, g2⟩ := p
    rw [k2, List.take_length] at g2
    refine ⟨L, ((flat ks).filter (fun s => decide (0 ≤ s))).map (fun s => s), rfl, g2, ?_, fun lv H2 s3 t3 => ?_⟩
    · rw [List.length_map]
      exact Nat.lt_of_le_of_lt (List.length_filter_le _ _) (k1000 (by omega))
    rw [List.map_id'] at t3
    have s12 := s2.trans s3
    have m1 := s12 _ _ k1
    have m2 := k2
    have m3 : ∀ (i : Nat) (x : V) (z : Rw), xk[i]? = some x → ks[i]? = some z → RowT K H2 x z := fun i x z h1 h2 => (k3 i x z h1 h2).kt (KT.of s12)
    obtain ⟨Lt, hLt⟩ : ∃ l, l = ltrF ks := ⟨_, rfl⟩
    have t3 : IntsT K H2 lv Lt := by
      rw [hLt]
      exact t3
    refine seq_rd (H0 := H2) (Same.refl _) (fun _ q => ⟨_, rfl, q⟩) (.inl (SqL.of m1)) fun J Gw w1 gw L hL => ?_
    refine turns_yes w1 (fun i H' => Same H2 H' ∧ H' L = some (.lst (pk (fun s => decide (s < 0)) (fun s => -1 - s) (flat (ks.take i))))) ⟨same_new hL, upd_same⟩ (fun i H' _ p => gw H' fun o h => p.1 _ o h) (fun i x H' hi hx p => ?_) (fun H' p => ?_)
    · obtain ⟨z, hz⟩ := seq_at m2 hx
      obtain ⟨ar, x1, y1, rfl, hrow, hx1, hy1⟩ := m3 i x z hx hz
      have fm := flat_mono hz
      refine ⟨rfl, ?_⟩
      refine seq_rd p.1 (fun _ q => ⟨_, rfl, q⟩) (.inr hrow) fun J2 Gw2 w2 gw2 => ?_
      refine turns_yes w2 (fun j H'' => Same H2 H'' ∧ H'' L = some (.lst (pk (fun s => decide (s < 0)) (fun s => -1 - s) (flat (ks.take i) ++ upto z j)))) ⟨p.1, by rw [p.2]; simp [upto]⟩ (fun j H'' _ p => gw2 H'' fun o h => p.1 _ o h) (fun j x2 H'' hj hx2 p2 => ?_) (fun H'' p2 => ?_)
      · have hj2 : j < 2 := hj
        obtain ⟨ns, h1, h2⟩ : ∃ ns, IntsT K H2 x2 ns ∧ upto z (j + 1) = upto z j ++ ns := by
          rcases (by omega : j = 0 ∨ j = 1) with rfl | rfl
          · cases hx2
            exact ⟨_, hx1, by simp [upto]⟩
          · cases hx2
            exact ⟨_, hy1, rfl⟩
        obtain ⟨as, rfl, hs⟩ := h1
        have ul := upto_len z (j + 1)
        rw [h2, List.length_append] at ul
        refine ⟨rfl, ?_⟩
        refine seq_rd p2.1 (fun _ q => ⟨_, rfl, q⟩) (.inr hs) fun J3 Gw3 w3 gw3 => ?_
        refine turns_it w3 (fun l H3 => Same H2 H3 ∧ H3 L = some (.lst (pk (fun s => decide (s < 0)) (fun s => -1 - s) ((flat (ks.take i) ++ upto z j) ++ ns.take l)))) ⟨p2.1, by rw [p2.2]; simp⟩ (fun l H3 _ p => gw3 H3 fun o h => p.1 _ o h) (fun l x3 H3 hl hx3 p3 => ?_) (fun H3 p3 => ?_)
        · obtain ⟨s, hs', rfl⟩ := map_at hx3
          have st := pk_step2 (p := (fun s => decide (s < 0))) (f := (fun s => -1 - s)) (pre := flat (ks.take i) ++ upto z j) hs'
          have len : (pk (fun s => decide (s < 0)) (fun s => -1 - s) ((flat (ks.take i) ++ upto z j) ++ ns.take l)).length < sizeLine := by
            refine Nat.lt_of_le_of_lt pk_len (k1000 ?_)
            rw [List.length_append, List.length_append, List.length_take]
            omega
          refine ⟨rfl, _, rfl, _, _, rfl, rfl, _, rfl, ite2 (fun c => ?_) (fun c => ?_)⟩
          · refine ⟨_, rfl, _, rfl, _, _, rfl, rfl, _, p3.2, len, same_upd p3.1 hL, ?_⟩
            rw [upd_same, st, if_pos (show (fun s => decide (s < 0)) s = true from c)]
          · refine ⟨p3.1, ?_⟩
            rw [p3.2, st, if_neg (show ¬ (fun s => decide (s < 0)) s = true from c)]
        · refine ⟨p3.1, ?_⟩
          rw [p3.2, h2, List.length_map, List.take_length, List.append_assoc]
      · refine ⟨p2.1, ?_⟩
        rw [p2.2, flat_tk hz]
        rfl
    obtain ⟨s4, g4⟩ := p
    rw [m2, List.take_length] at g4
    refine ⟨L, ((flat ks).filter (fun s => decide (s < 0))).map (fun s => -1 - s), rfl, g4, ?_, fun uv H3 s5 t5 => ?_⟩
    · rw [List.length_map]
      exact Nat.lt_of_le_of_lt (List.length_filter_le _ _) (k1000 (by omega))
    obtain ⟨Un, hUn⟩ : ∃ l, l = unkF ks := ⟨_, rfl⟩
    have t5 : IntsT K H3 uv Un := by
      rw [hUn]
      exact t5
    have s25 := s4.trans s5
    have tL := t3.kt (KT.of s25)
    have ndL : Lt.Nodup := by rw [hLt]; exact nd_firsts _
    have ndU : Un.Nodup := by rw [hUn]; exact nd_firsts _
    have lL : Lt.length < 500 := by
      have := fs_len ((flat ks).filter (fun s => decide (0 ≤ s)))
      have := List.length_filter_le (fun s => decide (0 ≤ s)) (flat ks)
      have e : Lt.length ≤ ((flat ks).filter (fun s => decide (0 ≤ s))).length := by rw [hLt]; exact fs_len _
      omega
    have lU : Un.length < 500 := by
      have e : Un.length ≤ (((flat ks).filter fun s => decide (s < 0)).map fun s => -1 - s).length := by rw [hUn]; exact fs_len _
      rw [List.length_map] at e
      have := List.length_filter_le (fun s => decide (s < 0)) (flat ks)
      omega
    refine fun d hd => ?_
    have sd : Same H3 (upd H3 d (.dK [])) := same_new hd
    obtain ⟨al, rfl, sl⟩ := tL
    obtain ⟨au, rfl, su⟩ := t5
    refine ⟨fun σ' H' => ∃ (o5 o6 o7 o8 o9 o10 o11 o12 : Option V) (kvs : List (Key × V)), σ' = [some rV, some dV, some eV, some (.int n), some (.ref pr), some (.ref al), some (.ref au), some (.ref d), o5, o6, o7, o8, o9, o10, o11, o12] ∧ Same H3 H' ∧ H' d = some (.dK kvs) ∧ kvs.length ≤ Lt.length ∧ ∀ s ∈ Lt, valV kvs (.inl s) = some (.int (ixI Lt s)), ?_, ?_⟩
    · refine enumT_rd (SqT.same sd sl) ?_ fun Q q => ⟨_, rfl, q⟩
      refine for_it walk_enumT (fun i σ H' => ∃ (o5 o6 o7 o8 o9 o10 o11 o12 : Option V) (kvs : List (Key × V)), σ = [some rV, some dV, some eV, some (.int n), some (.ref pr), some (.ref al), some (.ref au), some (.ref d), o5, o6, o7, o8, o9, o10, o11, o12] ∧ Same H3 H' ∧ H' d = some (.dK kvs) ∧ kvs.length ≤ i ∧ ∀ (j : Nat) (s : Int), j < i → Lt[j]? = some s → valV kvs (.inl s) = some (.int j)) ⟨_, _, _, _, _, _, _, _, [], rfl, sd, upd_same, Nat.le_refl _, fun j s h => absurd h (Nat.not_lt_zero _)⟩ (fun i σ H' _ p => by
        obtain ⟨_, _, _, _, _, _, _, _, _, _, s, _⟩ := p
        exact SqT.same s sl) (fun i x σ H4 H5 hi p y => ?_) (fun σ H4 p => ?_)
      · obtain ⟨T', z, rfl, hT, rfl, hz⟩ := y
        obtain ⟨o5, o6, o7, o8, o9, o10, o11, o12, kvs, rfl, s6, hd6, kl6, hv6⟩ := p
        obtain ⟨old, hold, rfl⟩ := map_at hz
        have sT := same_new (o := .tup [.int (i : Nat), .int old]) hT
        have hi' : i < Lt.length := by
          rw [List.length_map] at hi
          exact hi
        refine ⟨T', _, rfl, SqT.of upd_same, rfl, _, _, rfl, _, _, rfl, rfl, ?_⟩
        refine ⟨_, rfl, _, rfl, _, rfl, d, _, rfl, DPut.k (k := .inl old) (sT _ _ hd6) (k1000 (by omega)), ?_⟩
        have hdn : H3 d = none := hd
        refine ⟨_, _, _, _, _, _, _, _, _, rfl, same_upd (s6.trans sT) hdn, upd_same, Nat.le_trans (length_putK _ _ _) (by omega), fun j s hj hs => ?_⟩
        rw [valV_put]
        by_cases e : s = old
        · subst e
          rw [if_pos rfl, nd_ix ndL hs hold]
        · have ne : ¬ (Sum.inl s : Key) = .inl old := fun z => e (Sum.inl.inj z)
          rw [if_neg ne]
          refine hv6 j s ?_ hs
          rcases (by omega : j < i ∨ j = i) with h | rfl
          · exact h
          · rw [hs] at hold
            exact absurd (Option.some.inj hold) e
      · obtain ⟨o5, o6, o7, o8, o9, o10, o11, o12, kvs, rfl, s6, hd6, kl6, hv6⟩ := p
        rw [List.length_map] at kl6 hv6
        refine ⟨_, _, _, _, _, _, _, _, kvs, rfl, s6, hd6, kl6, fun s hs => ?_⟩
        have a1 := ix_at hs
        have a2 := ix_in hs
        have := hv6 (ixI Lt s).toNat s (by have := a2.1; have := a2.2; omega) a1
        rw [this]
        have : (((ixI Lt s).toNat : Nat) : Int) = ixI Lt s := Int.toNat_of_nonneg a2.1
        rw [this]
    rintro σ4 H4 ⟨o5, o6, o7, o8, o9, o10, o11, o12, kvs, rfl, s6, hd6, kl6, hv6⟩
    have st1 : ∀ s ∈ Lt, 0 ≤ s := fun s hs => by
      rw [hLt] at hs
      exact (mem_ltr.mp hs).2
    have st2 : ∀ s ∈ Un, 0 ≤ s := fun s hs => by
      rw [hUn] at hs
      exact (mem_unk.mp hs).2
    have hd0 : H3 d = none := hd
    refine ⟨fun σ' H' => ∃ (o5 o6 o7 o8 o9 o10 o11 o12 : Option V) (kvs : List (Key × V)), σ' = [some rV, some dV, some eV, some (.int n), some (.ref pr), some (.ref al), some (.ref au), some (.ref d), o5, o6, o7, o8, o9, o10, o11, o12] ∧ Same H3 H' ∧ H' d = some (.dK kvs) ∧ ∀ s ∈ flat ks, valV kvs (.inl s) = some (.int (renS Lt Un s)), ?_, ?_⟩
    · refine enumT_rd (SqT.same s6 su) ?_ fun Q q => ⟨_, rfl, q⟩
      refine for_it walk_enumT (fun i σ H' => ∃ (o5 o6 o7 o8 o9 o10 o11 o12 : Option V) (kvs : List (Key × V)), σ = [some rV, some dV, some eV, some (.int n), some (.ref pr), some (.ref al), some (.ref au), some (.ref d), o5, o6, o7, o8, o9, o10, o11, o12] ∧ Same H3 H' ∧ H' d = some (.dK kvs) ∧ kvs.length ≤ Lt.length + i ∧ (∀ s ∈ Lt, valV kvs (.inl s) = some (.int (ixI Lt s))) ∧ ∀ (j : Nat) (s : Int), j < i → Un[j]? = some s → valV kvs (.inl (-1 - s)) = some (.int (-1 - (j : Int)))) ⟨_, _, _, _, _, _, _, _, kvs, rfl, s6, hd6, kl6, hv6, fun j s h => absurd h (Nat.not_lt_zero _)⟩ (fun i σ H' _ p => by
        obtain ⟨_, _, _, _, _, _, _, _, _, _, s, _⟩ := p
        exact SqT.same s su) (fun i x σ H5 H6 hi p y => ?_) (fun σ H5 p => ?_)
      · obtain ⟨T', z, rfl, hT, rfl, hz⟩ := y
        obtain ⟨o5, o6, o7, o8, o9, o10, o11, o12, kvs, rfl, s7, hd7, kl7, hv7, hw7⟩ := p
        obtain ⟨old, hold, rfl⟩ := map_at hz
        have sT := same_new (o := .tup [.int (i : Nat), .int old]) hT
        have hi' : i < Un.length := by
          rw [List.length_map] at hi
          exact hi
        have o0 := st2 old (List.mem_of_getElem? hold)
        refine ⟨T', _, rfl, SqT.of upd_same, rfl, _, _, rfl, _, _, rfl, rfl, ?_⟩
        refine ⟨_, rfl, _, rfl, _, _, rfl, rfl, _, rfl, _, rfl, _, rfl, _, _, rfl, rfl, d, _, rfl, DPut.k (k := .inl (-1 - old)) (sT _ _ hd7) (k1000 (by omega)), ?_⟩
        refine ⟨_, _, _, _, _, _, _, _, _, rfl, same_upd (s7.trans sT) hd0, upd_same, Nat.le_trans (length_putK _ _ _) (by omega), fun s hs => ?_, fun j s hj hs => ?_⟩
        · rw [valV_put]
          have := st1 s hs
          have ne : ¬ (Sum.inl s : Key) = .inl (-1 - old) := fun z => by
            have := Sum.inl.inj z
            omega
          rw [if_neg ne]
          exact hv7 s hs
        · rw [valV_put]
          by_cases e : s = old
          · subst e
            rw [if_pos rfl, nd_ix ndU hs hold]
          · have ne : ¬ (Sum.inl (-1 - s) : Key) = .inl (-1 - old) := fun z => e (by
              have := Sum.inl.inj z
              omega)
            rw [if_neg ne]
            refine hw7 j s ?_ hs
            rcases (by omega : j < i ∨ j = i) with h | rfl
            · exact h
            · rw [hs] at hold
              exact absurd (Option.some.inj hold) e
      · obtain ⟨o5, o6, o7, o8, o9, o10, o11, o12, kvs, rfl, s7, hd7, kl7, hv7, hw7⟩ := p
        rw [List.length_map] at hw7
        refine ⟨_, _, _, _, _, _, _, _, kvs, rfl, s7, hd7, fun s hs => ?_⟩
        have gl : StG (· ∈ Lt) (· ∈ Un) s := by
          rw [hLt, hUn]
          exact ltr_flat hs
        unfold renS mvS
        by_cases c : 0 ≤ s
        · rw [if_pos c]
          exact hv7 s (gl.1 c)
        · rw [if_neg c]
          have hm := gl.2 c
          have a1 := ix_at hm
          have a2 := ix_in hm
          have := hw7 (ixI Un (-1 - s)).toNat (-1 - s) (by have := a2.1; have := a2.2; omega) a1
          have e0 : (-1 - (-1 - s)) = s := by omega
          rw [e0] at this
          rw [this]
          have : (((ixI Un (-1 - s)).toNat : Nat) : Int) = ixI Un (-1 - s) := Int.toNat_of_nonneg a2.1
          rw [this]
    rintro σ5 H5 ⟨p5, p6, p7, p8, p9, p10, p11, p12, kvs2, rfl, s7, hd7, hv7⟩
    have n1' := s7 _ _ (s25 _ _ m1)
    have n3 : ∀ (i : Nat) (x : V) (z : Rw), xk[i]? = some x → ks[i]? = some z → RowT K H5 x z := fun i x z h1 h2 => ((m3 i x z h1 h2).kt (KT.of s25)).kt (KT.of s7)
    have kz : (ks.map (mvR (ixI Lt) (ixI Un))).length = xk.length := by rw [List.length_map, k2]
    have kr : xk.length < 1000 := by
      rw [k2, hks]
      omega
    refine seq_rd (H0 := H5) (Same.refl _) (fun _ q => ⟨_, rfl, q⟩) (.inl (SqL.of n1')) fun J Gw w1 gw D1 hD1 => ?_
    refine lc_gen (K := K) (zs := ks.map (mvR (ixI Lt) (ixI Un))) w1 (k1000 kr) kz (m1 := fun H H' v z e h => rowN_same (D := D1) H H' v z e h) (m2 := fun H o v z h => rowN_upd H o v z h) hD1 (fun H' e => gw H' fun o h => e _ o h) (fun i x z H6 Q6 hi hx hz s8 hD8 q6 => ?_) (fun H6 s8 l8 => ?_)
    · rw [List.getElem?_map] at hz
      obtain ⟨r0, hr0, rfl⟩ := Option.map_eq_some_iff.mp hz
      obtain ⟨ar, x1, y1, rfl, hrow, hx1, hy1⟩ := n3 i x r0 hx hr0
      have hm : ∀ s, s ∈ r0.1 ∨ s ∈ r0.2 → s ∈ flat ks := fun s hs => flat_mem.mpr ⟨r0, List.mem_of_getElem? hr0, hs⟩
      have fm := flat_mono hr0
      obtain ⟨oD8, hD8⟩ := hD8
      refine ⟨rfl, ?_⟩
      refine seq_rd s8 (fun _ q => ⟨_, rfl, q⟩) (.inr hrow) fun J2 Gw2 w2 gw2 D2 hD2 => ?_
      have n21 : D2 ≠ D1 := fun z => by
        rw [z, hD8] at hD2
        cases hD2
      refine lc_gen (K := K) (R := IntM D1 D2) (zs := [r0.1.map (renS Lt Un), r0.2.map (renS Lt Un)]) w2 (by show 2 < sizeLine; decide) rfl (m1 := fun H H' v z e h => intM_same H H' v z e h) (m2 := fun H o v z h => intM_upd H o v z h) hD2 (fun H' e => gw2 H' fun o h => e _ o (s8 _ o h)) (fun j x2 z2 H7 Q7 hj hx2 hz2 s9 hD9 q7 => ?_) (fun H7 s9 l9 => ?_)
      · obtain ⟨oD9, hD9⟩ := hD9
        have hj2 : j < 2 := hj
        obtain ⟨ns, h1, h2, h3, h4⟩ : ∃ ns, IntsT K H5 x2 ns ∧ z2 = ns.map (renS Lt Un) ∧ (∀ s ∈ ns, s ∈ flat ks) ∧ ns.length < 1000 := by
          rcases (by omega : j = 0 ∨ j = 1) with rfl | rfl
          · cases hx2
            cases hz2
            exact ⟨_, hx1, rfl, fun s hs => hm s (.inl hs), by omega⟩
          · cases hx2
            cases hz2
            exact ⟨_, hy1, rfl, fun s hs => hm s (.inr hs), by omega⟩
        subst h2
        obtain ⟨as, rfl, hs⟩ := h1
        have s89 := s8.trans s9
        refine ⟨rfl, ?_⟩
        refine seq_rd s89 (fun _ q => ⟨_, rfl, q⟩) (.inr hs) fun J3 Gw3 w3 gw3 D3 hD3 => ?_
        refine lc_fr (R := fun _ i y => ∀ s, ns[i]? = some s → y = .int (renS Lt Un s)) w3 (by rw [List.length_map]; exact k1000 h4) (fun _ _ _ _ _ h => h) gd0 hD3 trivial (fun H' e => gw3 H' fun o h => F0.same e _ o (s89 _ o h)) (fun l x3 H8 Q8 hl hx3 e q8 => ?_) (fun H8 e got => ?_)
        · obtain ⟨s, hs', rfl⟩ := map_at hx3
          refine ⟨rfl, _, rfl, _, rfl, d, .int (renS Lt Un s), rfl, ?_, q8 _ _ (F0.of (Same.refl _)) fun s' hs2 => ?_⟩
          · have g := DGet.k (k := .inl s) ((s89.trans (F0.same e)) _ _ hd7)
            rw [hv7 s (h3 s (List.mem_of_getElem? hs'))] at g
            exact g
          · rw [hs'] at hs2
            cases hs2
            rfl
        · rw [List.length_map] at got
          have s10 := F0.same e
          refine q7 _ H8 s10 ⟨D3, rfl, fun z => ?_, fun z => ?_, got_map got⟩
          · rw [z, s9 _ _ hD8] at hD3
            cases hD3
          · rw [z, hD9] at hD3
            cases hD3
      · obtain ⟨ys, g1, g2, g3⟩ := l9
        obtain ⟨y1', y2', rfl⟩ : ∃ p q, ys = [p, q] := by
          match ys, g2 with
          | [p, q], _ => exact ⟨p, q, rfl⟩
        obtain ⟨a1, rfl, u1', _, u2⟩ := g3 0 _ _ rfl rfl
        obtain ⟨a2, rfl, v1', _, v2⟩ := g3 1 _ _ rfl rfl
        exact q6 _ H7 s9 ⟨D2, _, _, rfl, n21, g1, ⟨a1, rfl, u1', u2⟩, ⟨a2, rfl, v1', v2⟩⟩
    · obtain ⟨yr, y1, y2, y3⟩ := l8
      have s35 : Same H3 H6 := s7.trans s8
      have sl6 := SqT.same s35 sl
      have su6 := SqT.same s35 su
      have s06 : Same H H6 := (s1.trans (s12.trans s25)).trans s35
      have A6 := hA.kt (KT.of s06)
      obtain ⟨i1, i2⟩ := let_in (rs := R) (l := D.length) (u := E'.length) fun r hr => ⟨(ok.r r hr).2.2.1, (ok.r r hr).2.2.2⟩
      subst hks
      have eL : Lt = cLet R := hLt
      have eU : Un = cUnk R := hUn
      rw [eL] at sl6 lL ndL
      rw [eU] at su6 lU
      have hrows : (keptF R).map (mvR (ixI Lt) (ixI Un)) = cRows R := by
        rw [eL, eU]
        rfl
      rw [hrows] at y2 y3
      have cdl : (cDeeds D R).length = (cLet R).length := by simp [cDeeds]
      have cel : (cEnds n E' R).length = (cUnk R).length := by simp [cEnds]
      refine seq_rd (H0 := H6) (Same.refl _) (fun _ q => ⟨_, rfl, q⟩) (.inr sl6) fun J4 Gw4 w4 gw4 D4 hD4 => ?_
      refine lc_fr (R := fun H i y => ∀ z, (cDeeds D R)[i]? = some z → IntsT K H y z) w4 (by rw [List.length_map]; exact k1000 (by omega)) (stb_seq fun _ _ _ _ k h => h.kt k) gd0 hD4 trivial (fun H' e => gw4 H' fun o h => F0.same e _ o h) (fun l x3 H8 Q8 hl hx3 e q8 => ?_) (fun H8 e got => ?_)
      · obtain ⟨s, hs', rfl⟩ := map_at hx3
        have k8 := KT.of (F0.same e)
        obtain ⟨a1, xs1, xv, zv, e1, e2, e3, e4, e5⟩ := at_seq (A6.kt k8).d (i1 s (List.mem_of_getElem? hs')) rfl
        refine ⟨rfl, _, rfl, _, rfl, a1, xs1, s, xv, e1, rfl, e2, e3, q8 _ _ (F0.of (Same.refl _)) fun z hz => ?_⟩
        unfold cDeeds at hz
        rw [List.getElem?_map, hs'] at hz
        have hz : D.getD s.toNat [] = z := Option.some.inj hz
        rw [List.getD_eq_getElem?_getD, e4] at hz
        have hz : zv = z := hz
        rw [← hz]
        exact e5
      have s8' := F0.same e
      obtain ⟨yd, yd1, yd2, yd3⟩ := got
      have s08 := s06.trans s8'
      refine seq_rd s8' (fun _ q => ⟨_, rfl, q⟩) (.inr su6) fun J5 Gw5 w5 gw5 D5 hD5 => ?_
      refine lc_fr (R := fun H i y => ∀ z, (cEnds n E' R)[i]? = some z → EndT K H y z) w5 (by rw [List.length_map]; exact k1000 (by omega)) (stb_seq fun _ _ _ _ k h => h.kt k) gd0 hD5 trivial (fun H' e => gw5 H' fun o h => F0.same e _ o (s8' _ o h)) (fun l x3 H9 Q9 hl hx3 e9 q9 => ?_) (fun H9 e9 got9 => ?_)
      · obtain ⟨s, hs', rfl⟩ := map_at hx3
        have s9' := s08.trans (F0.same e9)
        obtain ⟨a1, xs1, xv, zv, e1, e2, e3, e4, e5⟩ := at_seq (hA.kt (KT.of s9')).e (i2 s (List.mem_of_getElem? hs')) rfl
        refine ⟨rfl, _, rfl, _, rfl, a1, xs1, s, xv, e1, rfl, e2, e3, _, rfl, xv, zv, n, rfl, e5, fun v' H10 s10 t10 => ?_⟩
        refine q9 _ _ (F0.of s10) fun z hz => ?_
        unfold cEnds at hz
        rw [List.getElem?_map, hs'] at hz
        have hz : plainF n (E'.getD s.toNat (0, [])) = z := Option.some.inj hz
        rw [List.getD_eq_getElem?_getD, e4] at hz
        have hz : plainF n zv = z := hz
        rw [← hz]
        exact t10
      obtain ⟨ye, ye1, ye2, ye3⟩ := got9
      have s9' := F0.same e9
      have s09 := s08.trans s9'
      have s69 := s8'.trans s9'
      rw [List.length_map] at yd2 ye2
      refine ⟨_, rfl, _, rfl, _, rfl, _, rfl, fun q dq hq hdq ndq => ?_⟩
      have sM : Same H9 (upd (upd H9 dq (.own q)) q (.ins C_Book.C dq [])) := fun b u h => by
        rw [upd_ne (ne_of_none h hq), upd_ne (ne_of_none h hdq)]
        exact h
      refine ⟨q, _, _, _, n, dq, cRows R, cDeeds D R, cEnds n E' R, rfl, upd_same, ⟨D1, yr, rfl, .inl (SqL.of (sM _ _ (s69 _ _ y1))), y2, fun i x z h1 h2 => rowN_s (rowN_same _ _ _ _ (s69.trans sM) (y3 i x z h1 h2))⟩, ⟨D4, yd, rfl, .inl (SqL.of (sM _ _ (s9' _ _ yd1))), by rw [cdl]; exact yd2, fun i x z h1 h2 => ((yd3 i x h1 z h2).kt (KT.of (s9'.trans sM))).s⟩, ⟨D5, ye, rfl, .inl (SqL.of (sM _ _ ye1)), by rw [cel]; exact ye2, fun i x z h1 h2 => ((ye3 i x h1 z h2).kt (KT.of sM)).p⟩, canon_ok ok (by omega), fun r' d' e' H10 bt hs hA' => ⟨rfl, ?_⟩⟩
      have s910 := same_make hq hdq bt
      refine ⟨_, rfl, _, rfl, fun t dt ht hdt ndt => ?_⟩
      refine ⟨t, .ref q, .ref al, .ref au, dt, rfl, upd_same, fun H11 bt2 hs2 => ⟨rfl, ?_⟩⟩
      have s1011 := same_make ht hdt bt2
      have s6z := (s69.trans s910).trans s1011
      refine k t H11 (s06.trans s6z) (same_free ((s06.trans s69).trans s910) ht) ⟨dt, q, dq, r', d', e', .ref al, .ref au, hs2, s1011 _ _ hs, hA'.kt (KT.of s1011), ⟨al, rfl, SqT.same s6z sl6⟩, ⟨au, rfl, SqT.same s6z su6⟩⟩
end
theorem sc_canon : FnScope ["book"] ["book"] (defScope s_canon) := ⟨rfl, rfl, rfl, by decide +kernel, rfl, by decide +kernel, by decide +kernel⟩
section
variable {P : Program} {w : World} {K : PySem.W.Frag} {mg : Str → Option Value} {base : Heap}
theorem ok_canon (C_Book : BookC K mg) (C_Canon : CanonC K mg) (D_canon : Dn K mg "canon" s_canon ["book"]) (D_canon_of : Dn K mg "canon_of" s_canon_of ["tidied", "old_deeds", "old_ends", "states"]) (G_canon_of : FnOk P w K mg base CX0 7 D_canon_of.f D_canon_of.fd ["tidied", "old_deeds", "old_ends", "states"] (sp_canon_of K C_Book.C C_Canon.C)) (T : TB mg) : FnOk P w K mg base CX0 8 D_canon.f D_canon.fd ["book"] (sp_canon K C_Book.C C_Canon.C) := by
  refine ok0 D_canon.F sc_canon (fun vs H Q E h => ?_) (fun cdv A outer s H vs Q E hr h => ?_)
  · obtain ⟨b, dx, r, d, e, n, R, D, E', rfl, hB, hA, ok, fR, k⟩ := h
    rfl
  · obtain ⟨b, dx, r, d, e, n, R, D, E', rfl, hB, hA, ok, fR, k⟩ := h
    refine ⟨_, (pss_one (ps_ret (pe_call G_canon_of (hr.mono (by decide)) (by rfl) D_canon_of.m D_canon_of.F.kp D_canon_of.b .nil pass0 (pa_cons (pe_fld (pv 0) rfl) (pa_cons (pe_fld (pv 0) rfl) (pa_cons (pe_fld (pv 0) rfl) (pa_cons (pe_fld (pv 0) rfl) pa_nil))))))), ?_⟩
    exact ⟨_, rfl, b, C_Book.C, dx, _, _, rfl, hB, C_Book.cl, C_Book.n1, rfl, _, rfl, b, C_Book.C, dx, _, _, rfl, hB, C_Book.cl, C_Book.n2, rfl, _, rfl, b, C_Book.C, dx, _, _, rfl, hB, C_Book.cl, C_Book.n3, rfl, _, rfl, b, C_Book.C, dx, _, _, rfl, hB, C_Book.cl, C_Book.n4, rfl, r, d, e, n, R, D, E', rfl, hA, ok, fR, k⟩
end
end My
set_option maxHeartbeats 4000000
namespace My
open PySem PySem.Spec PyProof.Rows L2 Lcn Sq
open En DcN Ne
theorem sf_sub : ∀ (l r : List Int), (∀ s ∈ (sf l r).1, s ∈ l) ∧ (∀ s ∈ (sf l r).2, s ∈ r) ∧ (sf l r).1.length ≤ l.length ∧ (sf l r).2.length ≤ r.length
  | [], r => by rw [sf_nil (.inl rfl)]; simp
  | a :: l, [] => by rw [sf_nil (.inr rfl)]; simp
  | a :: l, b :: r => by
    by_cases h : a = b
    · subst h
      rw [sf_eq]
      obtain ⟨h1, h2, h3, h4⟩ := sf_sub l r
      exact ⟨fun s hs => List.mem_cons_of_mem _ (h1 s hs), fun s hs => List.mem_cons_of_mem _ (h2 s hs), Nat.le_succ_of_le h3, Nat.le_succ_of_le h4⟩
    · rw [sf_ne h]
      simp
theorem strip_sub (l r : List Int) : (∀ s ∈ (strip l r).1, s ∈ l) ∧ (∀ s ∈ (strip l r).2, s ∈ r) ∧ (strip l r).1.length ≤ l.length ∧ (strip l r).2.length ≤ r.length := by
  obtain ⟨h1, h2, h3, h4⟩ := sf_sub l r
  obtain ⟨g1, g2, g3, g4⟩ := sf_sub (sf l r).1.reverse (sf l r).2.reverse
  unfold strip sb
  refine ⟨fun s hs => h1 s (by simpa using g1 s (by simpa using hs)), fun s hs => h2 s (by simpa using g2 s (by simpa using hs)), ?_, ?_⟩
  · rw [List.length_reverse]
    rw [List.length_reverse] at g3
    omega
  · rw [List.length_reverse]
    rw [List.length_reverse] at g4
    omega
/-- what tidying keeps are stripped rows -/
theorem tid_all {rs : List Rw} : ∀ (l : List Rw) (k : Nat) (acc ts : List Rw), (∀ r ∈ acc, ∃ r0 ∈ rs, r = strip r0.1 r0.2) → (∀ r ∈ l, r ∈ rs) → tidF l k acc = .inl ts → (∀ r ∈ ts, ∃ r0 ∈ rs, r = strip r0.1 r0.2) ∧ ts.length ≤ acc.length + l.length
  | [], k, acc, ts, ha, _, h => by
    cases h
    exact ⟨ha, Nat.le_refl _⟩
  | r :: l, k, acc, ts, ha, hl, h => by
    unfold tidF at h
    split at h
    · cases h
    · have hl' : ∀ r ∈ l, r ∈ rs := fun x hx => hl x (List.mem_cons_of_mem _ hx)
      split at h
      · obtain ⟨a, b⟩ := tid_all l (k + 1) acc ts ha hl' h
        exact ⟨a, by rw [List.length_cons]; omega⟩
      · obtain ⟨a, b⟩ := tid_all l (k + 1) (acc ++ [strip r.1 r.2]) ts (fun x hx => by
          rcases List.mem_append.mp hx with h | h
          · exact ha x h
          · rw [List.mem_singleton.mp h]
            exact ⟨r, hl r (List.mem_cons_self ..), rfl⟩) hl' h
        refine ⟨a, ?_⟩
        rw [List.length_append] at b
        rw [List.length_cons]
        have b : ts.length ≤ acc.length + 1 + l.length := b
        omega
/-- a short row of signs that stand -/
def SgS (l u : Int) (r : Rw) : Prop := (∀ s ∈ r.1, Stands l u s) ∧ (∀ s ∈ r.2, Stands l u s) ∧ r.1.length ≤ 4 ∧ r.2.length ≤ 4
theorem SgS.swp {l u : Int} {r : Rw} (h : SgS l u r) : SgS l u (swp r) := ⟨h.2.1, h.1, h.2.2.2, h.2.2.1⟩
theorem SgS.strip {l u : Int} {r : Rw} (h : SgS l u r) : SgS l u (strip r.1 r.2) := by
  obtain ⟨a, b, c, d⟩ := strip_sub r.1 r.2
  exact ⟨fun s hs => h.1 s (a s hs), fun s hs => h.2.1 s (b s hs), Nat.le_trans c h.2.2.1, Nat.le_trans d h.2.2.2⟩
theorem sd_sgs {l u : Int} {s t : List Int} (hs : SdOk l u 4 s) (ht : SdOk l u 4 t) : SgS l u (s, t) := ⟨fun x hx => (hs.2.2 x hx).1, fun x hx => (ht.2.2 x hx).1, hs.2.1, ht.2.1⟩
def sp__law_plain_rows (K : PySem.W.Frag) : Sp := fun vs H Q _ => ∃ (a L : Addr) (ns : List Int) (l u : Int) (m : Nat), vs = [.ref a, .int m, .int l, .int u, .int 4] ∧ Src H a L ns ∧ 0 < l ∧ l < 500 ∧ 0 < u ∧ u < 500 ∧ m ≤ 4 ∧
  ∀ (p : Addr) (H' : Hp) (rs : List Rw), Fs a L ns H H' → H p = none → LstR K (RowT K) H' p rs → rs.length = m → (∀ r ∈ rs, SgS l u r) → Q (.ref p) H'
def sp__law_tidy_rows (K : PySem.W.Frag) : Sp := fun vs H Q _ => ∃ (a L : Addr) (ns : List Int) (l u : Int), vs = [.ref a, .int l, .int u] ∧ Src H a L ns ∧ 0 < l ∧ l < 500 ∧ 0 < u ∧ u < 500 ∧
  ∀ (p : Addr) (H' : Hp) (rs : List Rw), Fs a L ns H H' → H p = none → LstR K (RowT K) H' p rs → rs.length ≤ 8 → (∀ r ∈ rs, SgS l u r) → Q (.ref p) H'
/-- an order of the numbers below n -/
structure Shuf (n : Int) (zs : List Int) : Prop where
  len : (zs.length : Int) = n
  nd : zs.Nodup
  inr : ∀ z ∈ zs, InR n z
  all : ∀ x, InR n x → x ∈ zs
def sp__law_shuffled : Sp := fun vs H Q _ => ∃ (a L : Addr) (ns : List Int) (n : Int), vs = [.ref a, .int n] ∧ Src H a L ns ∧ 0 ≤ n ∧ n < 500 ∧ ∀ (p : Addr) (H' : Hp) (zs : List Int), Fs a L ns H H' → H p = none → H' p = some (.lst (zs.map V.int)) → Shuf n zs → Q (.ref p) H'
theorem perm_pop : ∀ {l : List Int} {k : Nat} {y : Int}, l[k]? = some y → ([y] ++ l.eraseIdx k).Perm l
  | [], k, y, h => by cases h
  | a :: l, 0, y, h => by
    cases h
    exact .refl _
  | a :: l, k + 1, y, h => by
    have ih := perm_pop (l := l) (k := k) (y := y) h
    show (y :: a :: l.eraseIdx k).Perm (a :: l)
    exact (List.Perm.swap a y _).trans (List.Perm.cons a ih)
theorem er_map : ∀ (l : List Int) (k : Nat), (l.map V.int).eraseIdx k = (l.eraseIdx k).map V.int
  | [], _ => rfl
  | _ :: _, 0 => rfl
  | a :: l, k + 1 => by
    show V.int a :: (l.map V.int).eraseIdx k = V.int a :: (l.eraseIdx k).map V.int
    rw [er_map l k]
theorem rgI_nd (n : Int) : (rgI n).Nodup := by
  unfold rgI
  refine List.pairwise_map.mpr (List.nodup_range.imp fun {a b} h z => h ?_)
  omega
theorem seqIx {j n : Nat} (h : j < n) : seqIndex? (j : Int) n = some j := by
  unfold seqIndex?
  simp
  omega
theorem lst_set {α : Type} {K : PySem.W.Frag} {R : Hp → V → α → Prop} (m : ∀ H H' v z, KT H H' → R H v z → R H' v z) {H : Hp} {p : Addr} {xs : List V} {zs : List α} {y : V} {z : α} {j : Nat} (h : H p = some (.lst xs)) (l : xs.length = zs.length) (f : ∀ (i : Nat) (x : V) (z : α), xs[i]? = some x → zs[i]? = some z → R H x z) (hy : R H y z) : LstR K R (upd H p (.lst (xs.set j y))) p (zs.set j z) := by
  have k : KT H (upd H p (.lst (xs.set j y))) := KT.lst h
  refine ⟨_, upd_same, by rw [List.length_set, List.length_set, l], fun i x t hx ht => ?_⟩
  rw [List.getElem?_set] at hx ht
  by_cases e : j = i
  · subst e
    rw [if_pos rfl] at hx ht
    by_cases c : j < xs.length
    · rw [if_pos c] at hx
      rw [if_pos (by omega)] at ht
      cases hx
      cases ht
      exact m _ _ _ _ k hy
    · rw [if_neg c] at hx
      cases hx
  · rw [if_neg e] at hx ht
    exact m _ _ _ _ k (f i x t hx ht)
def sp__law_led (K : PySem.W.Frag) : Sp := fun vs H Q _ => ∃ (α : Type) (R : Hp → V → α → Prop) (p q : Addr) (zs : List α) (to : List Int), (∀ H H' v z, KT H H' → R H v z → R H' v z) ∧ vs = [.ref p, .ref q] ∧ LstR K R H p zs ∧ H q = some (.lst (to.map V.int)) ∧ Shuf zs.length to ∧ zs.length < 500 ∧
  ∀ (D : Addr) (H' : Hp) (ys : List α), Same H H' → H D = none → LstR K R H' D ys → ys.length = zs.length → (∀ (k : Nat) (t : Int) (z : α), to[k]? = some t → zs[k]? = some z → ys[t.toNat]? = some z) → Q (.ref D) H'
def atF (zs : List Int) (x : Int) : Int := zs.getD x.toNat 0
def sp__law_renamed (K : PySem.W.Frag) : Sp := fun vs H Q _ => ∃ (v : V) (p q : Addr) (ss zs ys : List Int), vs = [v, .ref p, .ref q] ∧ IntsT K H v ss ∧ H p = some (.lst (zs.map V.int)) ∧ H q = some (.lst (ys.map V.int)) ∧ ss.length < 1000 ∧ (∀ s ∈ ss, Stands zs.length ys.length s) ∧ ∀ (v' : V) (H' : Hp), Same H H' → IntsT K H' v' (ss.map (mvS (atF zs) (atF ys))) → Q v' H'
theorem sc__law_plain_rows : FnScope ["_law_source_here", "_law_many", "_law_letters", "_law_unknowns", "_law_most", "_law_told", "_law_k", "_law_left"] ["_law_source_here", "_law_many", "_law_letters", "_law_unknowns", "_law_most"] (defScope s__law_plain_rows) := ⟨rfl, rfl, rfl, by decide +kernel, rfl, by decide +kernel, by decide +kernel⟩
section
variable {P : Program} {w : World} {K : PySem.W.Frag} {mg : Str → Option Value} {base : Heap}
theorem ok__law_plain_rows (D__law_plain_rows : Dn K mg "_law_plain_rows" s__law_plain_rows ["_law_source_here", "_law_many", "_law_letters", "_law_unknowns", "_law_most"]) (D__law_side : Dn K mg "_law_side" s__law_side ["_law_source_here", "_law_letters", "_law_unknowns", "_law_most"]) (G__law_side : FnOk P w K mg base CX0 2 D__law_side.f D__law_side.fd ["_law_source_here", "_law_letters", "_law_unknowns", "_law_most"] (sp__law_side K)) (T : TB mg) : FnOk P w K mg base CX0 3 D__law_plain_rows.f D__law_plain_rows.fd ["_law_source_here", "_law_many", "_law_letters", "_law_unknowns", "_law_most"] (sp__law_plain_rows K) := by
  refine ok0 D__law_plain_rows.F sc__law_plain_rows (fun vs H Q E h => ?_) (fun cdv A outer s H vs Q E hr h => ?_)
  · obtain ⟨a, L, ns, l, u, m, rfl, S, l0, l1, u0, u1, m4, k⟩ := h
    rfl
  · obtain ⟨a, L, ns, l, u, m, rfl, S, l0, l1, u0, u1, m4, k⟩ := h
    refine ⟨_, (pss_cons (ps_set (i := 5) sc__law_plain_rows.nd rfl (by first | exact Or.inl rfl | exact Or.inr rfl) (pe_lst pa_nil))
  (pss_cons (ps_for PassesOwn.never rfl (pi_range1 (by rfl) T.range (pa_cons (pv 1) pa_nil)) (pg_name (i := 6) sc__law_plain_rows.nd rfl (by first | exact Or.inl rfl | exact Or.inr rfl)) (pss_cons (ps_set (i := 7) sc__law_plain_rows.nd rfl (by first | exact Or.inl rfl | exact Or.inr rfl) (pe_call G__law_side (hr.mono (by decide)) (by rfl) D__law_side.m D__law_side.F.kp D__law_side.b .nil pass0 (pa_cons (pv 0) (pa_cons (pv 2) (pa_cons (pv 3) (pa_cons (pv 4) pa_nil))))))
  (pss_one (ps_expr (pe_bm PySem.F.plainAttrs_list PySem.F.slot_list_append PySem.F.type_list_append mt_append (pv 5) (pa_cons (pe_tup (pa_cons (pv 7) (pa_cons (pe_call G__law_side (hr.mono (by decide)) (by rfl) D__law_side.m D__law_side.F.kp D__law_side.b .nil pass0 (pa_cons (pv 0) (pa_cons (pv 2) (pa_cons (pv 3) (pa_cons (pv 4) pa_nil))))) pa_nil))) pa_nil))))))
  (pss_one (ps_ret (pv 5))))), ?_⟩
    refine ⟨(by show 0 ≤ sizeLine; decide), fun D hD => ?_⟩
    have nD : D ≠ a := Ne.symm (S.ne hD)
    have eD : Fs a L ns H (upd H D (.lst [])) := fs_same (same_new hD)
    refine ⟨_, rfl, _, rfl, mlo (by omega), m62 (by omega), ?_⟩
    refine for_it walk_at_range (fun i σ H' => ∃ (o6 o7 : Option V) (rs : List Rw), σ = [some (.ref a), some (.int m), some (.int l), some (.int u), some (.int 4), some (.ref D), o6, o7] ∧ Fs a L ns H H' ∧ LstR K (RowT K) H' D rs ∧ rs.length = i ∧ ∀ r ∈ rs, SgS l u r) ⟨_, _, [], rfl, eD, lst_nil, rfl, by simp⟩ (fun _ _ _ _ _ => trivial) (fun i x σ H' H2 hi p y => ?_) (fun σ H' p => ?_)
    · obtain ⟨rfl, rfl⟩ := y
      obtain ⟨o6, o7, rs, rfl, e2, ⟨xD, d1, d2, df⟩, d3, d4⟩ := p
      refine ⟨_, rfl, _, rfl, _, rfl, _, rfl, a, L, ns, l, u, 4, rfl, e2.on S, l0, l1, u0, u1, by decide, by decide, fun v3 H3 s3 e3 t3 q3 => ?_⟩
      refine ⟨_, rfl, .inl ⟨rfl, _, SqL.of (e3.keep _ _ nD d1)⟩, _, rfl, _, rfl, _, rfl, _, rfl, _, rfl, a, L, ns, l, u, 4, rfl, e3.on (e2.on S), l0, l1, u0, u1, by decide, by decide, fun v4 H4 s4 e4 t4 q4 => ?_⟩
      refine ⟨(by show 2 ≤ sizeLine; decide), fun q hq => ?_⟩
      have sq := same_new (o := .tup [v3, v4]) hq
      have e24 := (e3.trans e4).trans (fs_same (a := a) (L := L) (ns := ns) sq)
      refine ⟨D, _, _, rfl, rfl, e24.keep _ _ nD d1, by rw [d2]; exact k1000 (by omega), ?_⟩
      obtain ⟨a3, rfl, t3⟩ := t3.kt (e4.trans (fs_same (a := a) (L := L) (ns := ns) sq)).kt
      obtain ⟨a4, rfl, t4⟩ := t4.kt (KT.of sq)
      refine ⟨_, _, rs ++ [(s3, s4)], rfl, fs_upd S (e2.trans e24) hD, lst_snoc kR (e24.keep _ _ nD d1) d2 (fun i x z h1 h2 => (df i x z h1 h2).kt e24.kt) ⟨q, _, _, rfl, SqT.of upd_same, ⟨a3, rfl, t3⟩, ⟨a4, rfl, t4⟩⟩, by simp [d3], fun z hz => ?_⟩
      rcases List.mem_append.mp hz with h | h
      · exact d4 z h
      · rw [List.mem_singleton.mp h]
        exact sd_sgs q3 q4
    · obtain ⟨o6, o7, rs, rfl, e2, d1, d3, d4⟩ := p
      exact ⟨_, rfl, k D _ rs e2 hD d1 (by omega) d4⟩
end
theorem sc__law_shuffled : FnScope ["_law_source_here", "_law_many", "_law_left", "_law_told", "_law_k"] ["_law_source_here", "_law_many"] (defScope s__law_shuffled) := ⟨rfl, rfl, rfl, by decide +kernel, rfl, by decide +kernel, by decide +kernel⟩
section
variable {P : Program} {w : World} {K : PySem.W.Frag} {mg : Str → Option Value} {base : Heap}
theorem ok__law_shuffled (D__law_shuffled : Dn K mg "_law_shuffled" s__law_shuffled ["_law_source_here", "_law_many"]) (D__law_take : Dn K mg "_law_take" s__law_take ["_law_source_here", "_law_many"]) (G__law_take : FnOk P w K mg base CX0 1 D__law_take.f D__law_take.fd ["_law_source_here", "_law_many"] (sp__law_take)) (T : TB mg) : FnOk P w K mg base CX0 2 D__law_shuffled.f D__law_shuffled.fd ["_law_source_here", "_law_many"] sp__law_shuffled := by
  refine ok0 D__law_shuffled.F sc__law_shuffled (fun vs H Q E h => ?_) (fun cdv A outer s H vs Q E hr h => ?_)
  · obtain ⟨a, L, ns, n, rfl, S, n0, n1, k⟩ := h
    rfl
  · obtain ⟨a, L, ns, n, rfl, S, n0, n1, k⟩ := h
    refine ⟨_, (pss_cons (ps_set (i := 2) sc__law_shuffled.nd rfl (by first | exact Or.inl rfl | exact Or.inr rfl) (pe_listRg rfl (by rfl) T.list_ (prg_1 (by rfl) T.range (pv 1))))
  (pss_cons (ps_set (i := 3) sc__law_shuffled.nd rfl (by first | exact Or.inl rfl | exact Or.inr rfl) (pe_lst pa_nil))
  (pss_cons (ps_for PassesOwn.never rfl (pi_range1 (by rfl) T.range (pa_cons (pv 1) pa_nil)) (pg_name (i := 4) sc__law_shuffled.nd rfl (by first | exact Or.inl rfl | exact Or.inr rfl)) (pss_one (ps_expr (pe_bm PySem.F.plainAttrs_list PySem.F.slot_list_append PySem.F.type_list_append mt_append (pv 3) (pa_cons (pe_bm PySem.F.plainAttrs_list PySem.F.slot_list_pop PySem.F.type_list_pop mt_popAt (pv 2) (pa_cons (pe_call G__law_take (hr.mono (by decide)) (by rfl) D__law_take.m D__law_take.F.kp D__law_take.b .nil pass0 (pa_cons (pv 0) (pa_cons (pe_callB call_len_seq (by rfl) T.len PySem.boot_len (pa_cons (pv 2) pa_nil)) pa_nil))) pa_nil)) pa_nil)))))
  (pss_one (ps_ret (pv 3)))))), ?_⟩
    refine ⟨_, rfl, n, rfl, rgOk n0 (by omega), fun q hq => ?_⟩
    rw [rgI_v]
    have sq := same_new (o := .lst ((rgI n).map V.int)) hq
    have nq : q ≠ a := Ne.symm (S.ne hq)
    refine ⟨(by show 0 ≤ sizeLine; decide), fun D hD => ?_⟩
    have nDq : D ≠ q := fun z => by
      rw [z, upd_same] at hD
      cases hD
    have hD0 : H D = none := by
      rw [upd_ne nDq] at hD
      exact hD
    have nD : D ≠ a := Ne.symm (S.ne hD0)
    have sD := sq.trans (same_new (o := .lst []) hD)
    have eD : Fs a L ns H _ := fs_same sD
    refine ⟨_, rfl, _, rfl, mlo (by omega), m62 (by omega), ?_⟩
    refine for_it walk_at_range (fun i σ H' => ∃ (o4 : Option V) (ts ls : List Int), σ = [some (.ref a), some (.int n), some (.ref q), some (.ref D), o4] ∧ Fs a L ns H H' ∧ H' D = some (.lst (ts.map V.int)) ∧ H' q = some (.lst (ls.map V.int)) ∧ ts.length = i ∧ (ts ++ ls).Perm (rgI n)) ⟨_, [], rgI n, rfl, eD, upd_same, ?_, rfl, .refl _⟩ (fun _ _ _ _ _ => trivial) (fun i x σ H' H2 hi p y => ?_) (fun σ H' p => ?_)
    · rw [upd_ne (Ne.symm nDq)]
      exact upd_same
    · obtain ⟨rfl, rfl⟩ := y
      obtain ⟨o4, ts, ls, rfl, e2, d1, d2, d3, d4⟩ := p
      have ll := d4.length_eq
      rw [List.length_append, rgI_len] at ll
      have lp : 0 < ls.length := by omega
      refine ⟨_, rfl, .inl ⟨rfl, _, SqL.of d1⟩, _, rfl, .inl ⟨rfl, _, SqL.of d2⟩, _, rfl, _, rfl, q, _, rfl, .inl (SqL.of d2), a, L, ns, _, rfl, e2.on S, ?_, ?_, fun r H3 hr e3 => ?_⟩
      · rw [List.length_map]
        omega
      · rw [List.length_map]
        exact m200 (by omega)
      · rw [List.length_map] at hr
        obtain ⟨r0, r1⟩ := hr
        have hk : r.toNat < ls.length := by omega
        have hy : ls[r.toNat]? = some ls[r.toNat] := List.getElem?_eq_getElem hk
        refine ⟨q, _, r, r.toNat, .int ls[r.toNat], rfl, rfl, e3.keep _ _ nq d2, by omega, by omega, ?_, ?_, ?_⟩
        · rw [List.length_map]
          obtain ⟨j, rfl⟩ : ∃ j : Nat, r = (j : Int) := ⟨r.toNat, by omega⟩
          exact seqIx (by simpa using hk)
        · rw [List.getElem?_map, hy]
          rfl
        · have nqD : q ≠ D := Ne.symm nDq
          have d1' : (upd H3 q (.lst ((ls.map V.int).eraseIdx r.toNat))) D = some (.lst (ts.map V.int)) := by
            rw [upd_ne nDq]
            exact e3.keep _ _ nD d1
          refine ⟨D, _, _, rfl, rfl, d1', by rw [List.length_map]; exact k1000 (by omega), ?_⟩
          refine ⟨_, ts ++ [ls[r.toNat]], ls.eraseIdx r.toNat, rfl, fs_upd S (fs_upd S (e2.trans e3) hq) hD0, ?_, ?_, by simp [d3], ?_⟩
          · rw [upd_same]
            simp
          · rw [upd_ne nqD, upd_same, er_map]
          · rw [List.append_assoc]
            refine ((List.Perm.append_left ts (perm_pop hy)).trans d4)
    · obtain ⟨o4, ts, ls, rfl, e2, d1, d2, d3, d4⟩ := p
      have ll := d4.length_eq
      rw [List.length_append, rgI_len] at ll
      have l0 : ls = [] := List.eq_nil_of_length_eq_zero (by omega)
      subst l0
      rw [List.append_nil] at d4
      exact ⟨_, rfl, k D _ ts e2 hD0 d1 ⟨by omega, (d4.nodup_iff).mpr (rgI_nd n), fun z hz => rgI_in (d4.mem_iff.mp hz), fun x hx => d4.mem_iff.mpr (List.mem_map.mpr ⟨x.toNat, List.mem_range.mpr (by have := hx.1; have := hx.2; omega), by have := hx.1; omega⟩)⟩⟩
end
theorem sc__law_renamed : FnScope ["_law_side_here", "_law_to_letter", "_law_to_unknown", "_law_sign"] ["_law_side_here", "_law_to_letter", "_law_to_unknown"] (defScope s__law_renamed) := ⟨rfl, rfl, rfl, by decide +kernel, rfl, by decide +kernel, by decide +kernel⟩
section
variable {P : Program} {w : World} {K : PySem.W.Frag} {mg : Str → Option Value} {base : Heap}
theorem ok__law_renamed (D__law_renamed : Dn K mg "_law_renamed" s__law_renamed ["_law_side_here", "_law_to_letter", "_law_to_unknown"]) (T : TB mg) : FnOk P w K mg base CX0 1 D__law_renamed.f D__law_renamed.fd ["_law_side_here", "_law_to_letter", "_law_to_unknown"] (sp__law_renamed K) := by
  refine ok0 D__law_renamed.F sc__law_renamed (fun vs H Q E h => ?_) (fun cdv A outer s H vs Q E hr h => ?_)
  · obtain ⟨v, p, q, ss, zs, ys, rfl, hs, hp, hq, sl, st, k⟩ := h
    rfl
  · obtain ⟨v, p, q, ss, zs, ys, rfl, hs, hp, hq, sl, st, k⟩ := h
    refine ⟨_, (pss_one (ps_ret (pe_callTy call_tupR (by rfl) T.tuple_ (by decide +kernel) (pa_cons (pe_lc (own := [(("_law_sign" : Str), 3)]) rfl sc__law_renamed.nd (pi_seq (pv 0)) (blkOk_by (own := [(("_law_sign" : Str), 3)]) (N := ["_law_side_here", "_law_to_letter", "_law_to_unknown", "_law_sign"]) (sc := defScope s__law_renamed) (by decide +kernel)) (fun _ _ _ _ _ => (pg_name (i := 3) sc__law_renamed.nd rfl (Or.inl rfl))) (fun _ _ _ _ _ => pts_nil) (fun _ _ _ _ _ => (pe_ifExp (pt_cmpR op_ge (pv 3) pe_int (nomark _)) (pe_ix (ix_listK (K := K) rfl) (pv 1) (pv 3) (fun _ _ => rfl)) (pe_op op_sub (pe_un un_neg pe_int) (pe_ix (ix_listK (K := K) rfl) (pv 2) (pe_op op_sub (pe_un un_neg pe_int) (pv 3)) (fun _ _ => rfl)))))) pa_nil)))), ?_⟩
    obtain ⟨as, rfl, hs⟩ := hs
    refine seq_rd (H0 := H) (Same.refl _) (fun _ q => ⟨_, rfl, q⟩) (.inr hs) fun J Gw w1 gw D hD => ?_
    refine lc_fr (R := fun _ i y => ∀ s, ss[i]? = some s → y = .int (mvS (atF zs) (atF ys) s)) w1 (by rw [List.length_map]; exact k1000 sl) (fun _ _ _ _ _ h => h) gd0 hD trivial (fun H' e => gw H' fun o h => F0.same e _ o h) (fun l x3 H8 Q8 hl hx3 e q8 => ?_) (fun H8 e got => ?_)
    · obtain ⟨s, hs', rfl⟩ := map_at hx3
      have s8 := F0.same e
      obtain ⟨b1, b2⟩ := st s (List.mem_of_getElem? hs')
      have fin : ∀ {y : V}, y = .int (mvS (atF zs) (atF ys) s) → Q8 y H8 := fun e => q8 _ _ (F0.of (Same.refl _)) fun s' h' => by
        rw [hs'] at h'
        cases h'
        exact e
      refine ⟨rfl, _, rfl, _, _, rfl, rfl, _, rfl, ite2 (fun c => ?_) (fun c => ?_)⟩
      · have c : 0 ≤ s := of_decide_eq_true c
        obtain ⟨z, z1, z2⟩ := at_int (ns := zs) (i := s) ⟨c, b1⟩ rfl
        refine ⟨_, rfl, _, rfl, p, _, s, .int z, rfl, rfl, SqL.of (s8 _ _ hp), z2, fin ?_⟩
        unfold mvS atF
        rw [if_pos c, List.getD_eq_getElem?_getD, z1]
        rfl
      · have c : ¬ 0 ≤ s := fun z => c (decide_eq_true z)
        obtain ⟨z, z1, z2⟩ := at_int (ns := ys) (i := -1 - s) ⟨by omega, b2⟩ rfl
        refine ⟨_, rfl, _, rfl, _, rfl, _, rfl, _, _, rfl, rfl, q, _, _, .int z, rfl, rfl, SqL.of (s8 _ _ hq), z2, _, _, rfl, rfl, fin ?_⟩
        unfold mvS atF
        rw [if_neg c, List.getD_eq_getElem?_getD, z1]
        rfl
    · rw [List.length_map] at got
      exact rd_tup (.inl (SqL.of (got_map got))) fun b H9 s9 t9 => k _ _ ((F0.same e).trans s9) ⟨b, rfl, t9⟩
end
theorem sc__law_led : FnScope ["_law_things", "_law_to", "_law_told", "_law_k"] ["_law_things", "_law_to"] (defScope s__law_led) := ⟨rfl, rfl, rfl, by decide +kernel, rfl, by decide +kernel, by decide +kernel⟩
section
variable {P : Program} {w : World} {K : PySem.W.Frag} {mg : Str → Option Value} {base : Heap}
theorem ok__law_led (D__law_led : Dn K mg "_law_led" s__law_led ["_law_things", "_law_to"]) (T : TB mg) : FnOk P w K mg base CX0 1 D__law_led.f D__law_led.fd ["_law_things", "_law_to"] (sp__law_led K) := by
  refine ok0 D__law_led.F sc__law_led (fun vs H Q E h => ?_) (fun cdv A outer s H vs Q E hr h => ?_)
  · obtain ⟨α, R, p, q, zs, to, mo, rfl, hp, hq, sh, zl, k⟩ := h
    rfl
  · obtain ⟨α, R, p, q, zs, to, mo, rfl, hp, hq, sh, zl, k⟩ := h
    refine ⟨_, (pss_cons (ps_set (i := 2) sc__law_led.nd rfl (by first | exact Or.inl rfl | exact Or.inr rfl) (pe_callTy call_list_of (by rfl) T.list_ (by decide +kernel) (pa_cons (pv 0) pa_nil)))
  (pss_cons (ps_for PassesOwn.never rfl (pi_range1 (by rfl) T.range (pa_cons (pe_callB call_len_seq (by rfl) T.len PySem.boot_len (pa_cons (pv 0) pa_nil)) pa_nil)) (pg_name (i := 3) sc__law_led.nd rfl (by first | exact Or.inl rfl | exact Or.inr rfl)) (pss_one (ps_asg (pe_ix ix_list (pv 0) (pv 3) (fun _ _ => rfl)) (pg_sub (pv 2) (pe_ix ix_list (pv 1) (pv 3) (fun _ _ => rfl)) set_list))))
  (pss_one (ps_ret (pv 2))))), ?_⟩
    obtain ⟨xs, p1, p2, p3⟩ := id hp
    refine ⟨_, rfl, p, xs, rfl, .inl (SqL.of p1), fun D hD => ?_⟩
    have sD := same_new (o := .lst xs) hD
    refine ⟨_, rfl, p, xs, rfl, .inl (SqL.of (sD _ _ p1)), _, rfl, mlo (by omega), m62 (by omega), ?_⟩
    have tl := sh.len
    refine for_it walk_at_range (fun i σ H' => ∃ (o3 : Option V) (ys : List α), σ = [some (.ref p), some (.ref q), some (.ref D), o3] ∧ Same H H' ∧ LstR K R H' D ys ∧ ys.length = zs.length ∧ ∀ (k : Nat) (t : Int) (z : α), k < i → to[k]? = some t → zs[k]? = some z → ys[t.toNat]? = some z) ⟨_, zs, rfl, sD, ⟨xs, upd_same, p2, fun i x z h1 h2 => mo _ _ _ _ (KT.of sD) (p3 i x z h1 h2)⟩, rfl, fun k t z h => absurd h (Nat.not_lt_zero _)⟩ (fun _ _ _ _ _ => trivial) (fun i x σ H' H2 hi pp y => ?_) (fun σ H' pp => ?_)
    · obtain ⟨rfl, rfl⟩ := y
      obtain ⟨o3, ys, rfl, s2, ⟨yv, d1, d2, d3⟩, d4, d5⟩ := pp
      have hi1 : i < xs.length := by omega
      have hi2 : i < zs.length := by omega
      have hi3 : i < to.length := by omega
      have ht : to[i]? = some to[i] := List.getElem?_eq_getElem hi3
      have hx : xs[i]? = some xs[i] := List.getElem?_eq_getElem hi1
      have hz : zs[i]? = some zs[i] := List.getElem?_eq_getElem hi2
      have tr := sh.inr _ (List.mem_of_getElem? ht)
      have ez : (0 : Int) + (i : Int) = (i : Int) := Int.zero_add _
      have at1 : atI xs (0 + (i : Int)) = some xs[i] := by
        rw [ez]
        exact atI_nat hx
      have at2 : atI (to.map V.int) (0 + (i : Int)) = some (.int to[i]) := by
        rw [ez]
        exact atI_nat (by rw [List.getElem?_map, ht]; rfl)
      refine ⟨_, rfl, _, rfl, p, xs, _, _, rfl, rfl, SqL.of (s2 _ _ p1), at1, _, rfl, _, rfl, _, rfl, q, _, _, _, rfl, rfl, SqL.of (s2 _ _ hq), at2, D, yv, to[i], to[i].toNat, rfl, rfl, d1, ?_, ?_⟩
      · obtain ⟨r0, r1⟩ := tr
        unfold ixN
        rw [if_pos r0, if_pos (by omega)]
      · refine ⟨_, ys.set to[i].toNat zs[i], rfl, same_upd s2 hD, lst_set mo d1 d2 d3 (mo _ _ _ _ (KT.of s2) (p3 i _ _ hx hz)), by rw [List.length_set, d4], fun k t z hk hkt hkz => ?_⟩
        rw [List.getElem?_set]
        by_cases e : to[i].toNat = t.toNat
        · have tr2 := sh.inr t (List.mem_of_getElem? hkt)
          have e2 : to[i] = t := by
            have := tr.1
            have := tr2.1
            omega
          have ki : k = i := nd_ix sh.nd (hkt.trans (by rw [e2])) ht
          subst ki
          rw [if_pos e, if_pos (by rw [e2] at tr; have := tr.1; have := tr.2; rw [d4]; omega)]
          rw [hz] at hkz
          exact hkz
        · rw [if_neg e]
          refine d5 k t z ?_ hkt hkz
          rcases (by omega : k < i ∨ k = i) with h | rfl
          · exact h
          · rw [ht] at hkt
            exact absurd (congrArg Int.toNat (Option.some.inj hkt)) e
    · obtain ⟨o3, ys, rfl, s2, d1, d4, d5⟩ := pp
      refine ⟨_, rfl, k D _ ys s2 hD d1 d4 fun j t z h1 h2 => d5 j t z ?_ h1 h2⟩
      have := (List.getElem?_eq_some_iff.mp h2).1
      omega
end
end My
set_option maxHeartbeats 4000000
namespace My
open PySem PySem.Spec PyProof.Rows L2 Lcn Sq
open En DcN Ne
theorem tupTy {K : PySem.W.Frag} {H : Hp} {a : Addr} {xs : List V} (h : SqT K H a xs) : TyX K H (.ref a) (.type "tuple") := by
  rcases h with (h | ⟨o, h⟩) | ⟨o, its, n, h, c, _⟩
  · exact .base (.tup h)
  · exact .fTuple h
  · exact .kTuple h c
theorem lst_cat {α : Type} {K : PySem.W.Frag} {R : Hp → V → α → Prop} (m : ∀ H H' v z, KT H H' → R H v z → R H' v z) {H : Hp} {p : Addr} {xs ys : List V} {zs ws : List α} (h : H p = some (.lst xs)) (l : xs.length = zs.length) (f : ∀ (i : Nat) (x : V) (z : α), xs[i]? = some x → zs[i]? = some z → R H x z) (l2 : ys.length = ws.length) (f2 : ∀ (i : Nat) (x : V) (z : α), ys[i]? = some x → ws[i]? = some z → R H x z) : LstR K R (upd H p (.lst (xs ++ ys))) p (zs ++ ws) := by
  have k : KT H (upd H p (.lst (xs ++ ys))) := KT.lst h
  refine ⟨_, upd_same, by rw [List.length_append, List.length_append, l, l2], fun i x t hx ht => ?_⟩
  rcases Nat.lt_or_ge i xs.length with lt | ge
  · rw [List.getElem?_append_left lt] at hx
    rw [List.getElem?_append_left (by omega)] at ht
    exact m _ _ _ _ k (f i x t hx ht)
  · rw [List.getElem?_append_right ge] at hx
    rw [List.getElem?_append_right (by omega), ← l] at ht
    exact m _ _ _ _ k (f2 _ x t hx ht)
theorem tid_one {l u : Int} {r : Rw} {ts : List Rw} (h : tidF [r] 0 [] = .inl ts) (hr : SgS l u r) : ts.length ≤ 1 ∧ ∀ t ∈ ts, SgS l u t := by
  obtain ⟨h1, h2⟩ := tid_all (rs := [r]) [r] 0 [] ts (by simp) (fun r h => h) h
  refine ⟨by simpa using h2, fun t ht => ?_⟩
  obtain ⟨r0, hr0, rfl⟩ := h1 t ht
  rw [List.mem_singleton.mp hr0]
  exact hr.strip
theorem sc__law_tidy_rows : FnScope ["_law_source_here", "_law_letters", "_law_unknowns", "_law_kept", "_law_row", "_law_again", "_law_told", "_law_left", "_law_right", "_law_turn"] ["_law_source_here", "_law_letters", "_law_unknowns"] (defScope s__law_tidy_rows) := ⟨rfl, rfl, rfl, by decide +kernel, rfl, by decide +kernel, by decide +kernel⟩
section
variable {P : Program} {w : World} {K : PySem.W.Frag} {mg : Str → Option Value} {base : Heap}
theorem ok__law_tidy_rows (D__law_tidy_rows : Dn K mg "_law_tidy_rows" s__law_tidy_rows ["_law_source_here", "_law_letters", "_law_unknowns"]) (D__law_take : Dn K mg "_law_take" s__law_take ["_law_source_here", "_law_many"]) (G__law_take : FnOk P w K mg base CX0 1 D__law_take.f D__law_take.fd ["_law_source_here", "_law_many"] (sp__law_take)) (D__law_plain_rows : Dn K mg "_law_plain_rows" s__law_plain_rows ["_law_source_here", "_law_many", "_law_letters", "_law_unknowns", "_law_most"]) (G__law_plain_rows : FnOk P w K mg base CX0 3 D__law_plain_rows.f D__law_plain_rows.fd ["_law_source_here", "_law_many", "_law_letters", "_law_unknowns", "_law_most"] (sp__law_plain_rows K)) (D__law_tidy : Dn K mg "_law_tidy" s__law_tidy ["_law_rows"]) (G__law_tidy : FnOk P w K mg base CX0 2 D__law_tidy.f D__law_tidy.fd ["_law_rows"] (sp__law_tidy K)) (T : TB mg) : FnOk P w K mg base CX0 4 D__law_tidy_rows.f D__law_tidy_rows.fd ["_law_source_here", "_law_letters", "_law_unknowns"] (sp__law_tidy_rows K) := by
  refine ok0 D__law_tidy_rows.F sc__law_tidy_rows (fun vs H Q E h => ?_) (fun cdv A outer s H vs Q E hr h => ?_)
  · obtain ⟨a, L, ns, l, u, rfl, S, l0, l1, u0, u1, k⟩ := h
    rfl
  · obtain ⟨a, L, ns, l, u, rfl, S, l0, l1, u0, u1, k⟩ := h
    refine ⟨_, (pss_cons (ps_set (i := 3) sc__law_tidy_rows.nd rfl (by first | exact Or.inl rfl | exact Or.inr rfl) (pe_lst pa_nil))
  (pss_cons (ps_for PassesOwn.never rfl (pi_list (pe_call G__law_plain_rows (hr.mono (by decide)) (by rfl) D__law_plain_rows.m D__law_plain_rows.F.kp D__law_plain_rows.b .nil pass0 (pa_cons (pv 0) (pa_cons (pe_op op_add pe_int (pe_call G__law_take (hr.mono (by decide)) (by rfl) D__law_take.m D__law_take.F.kp D__law_take.b .nil pass0 (pa_cons (pv 0) (pa_cons pe_int pa_nil)))) (pa_cons (pv 1) (pa_cons (pv 2) (pa_cons pe_int pa_nil))))))) (pg_name (i := 4) sc__law_tidy_rows.nd rfl (by first | exact Or.inl rfl | exact Or.inr rfl)) (pss_cons (ps_set (i := 6) sc__law_tidy_rows.nd rfl (by first | exact Or.inl rfl | exact Or.inr rfl) (pe_call G__law_tidy (hr.mono (by decide)) (by rfl) D__law_tidy.m D__law_tidy.F.kp D__law_tidy.b .nil pass0 (pa_cons (pe_lst (pa_cons (pv 4) pa_nil)) pa_nil)))
  (pss_one (ps_if (pt_val (pe_callB call_isi (by rfl) T.isinstance (by decide +kernel) (pa_cons (pv 6) (pa_cons (pe_bltn (v := .ty "list") (by rfl) T.list_ (by decide +kernel) rfl) pa_nil)))) (pss_one (ps_expr (pe_bm PySem.F.plainAttrs_list PySem.F.slot_list_extend PySem.F.type_list_extend mt_extend (pv 3) (pa_cons (pv 6) pa_nil)))) pss_nil))))
  (pss_cons (ps_set (i := 5) sc__law_tidy_rows.nd rfl (by first | exact Or.inl rfl | exact Or.inr rfl) (pe_lst pa_nil))
  (pss_cons (ps_for PassesOwn.never rfl (pi_seq (pv 3)) (pg_tup (n := 2) rfl (pgs_cons (pg_name (i := 7) sc__law_tidy_rows.nd rfl (by first | exact Or.inl rfl | exact Or.inr rfl)) (pgs_cons (pg_name (i := 8) sc__law_tidy_rows.nd rfl (by first | exact Or.inl rfl | exact Or.inr rfl)) pgs_nil))) (pss_cons (ps_expr (pe_bm PySem.F.plainAttrs_list PySem.F.slot_list_append PySem.F.type_list_append mt_append (pv 5) (pa_cons (pe_tup (pa_cons (pv 7) (pa_cons (pv 8) pa_nil))) pa_nil)))
  (pss_cons (ps_set (i := 9) sc__law_tidy_rows.nd rfl (by first | exact Or.inl rfl | exact Or.inr rfl) (pe_call G__law_take (hr.mono (by decide)) (by rfl) D__law_take.m D__law_take.F.kp D__law_take.b .nil pass0 (pa_cons (pv 0) (pa_cons pe_int pa_nil))))
  (C8.pss_cut (ps_if (pt_cmpR op_eq (pv 9) pe_int (nomark _)) (pss_one (ps_expr (pe_bm PySem.F.plainAttrs_list PySem.F.slot_list_append PySem.F.type_list_append mt_append (pv 5) (pa_cons (pe_tup (pa_cons (pv 8) (pa_cons (pv 7) pa_nil))) pa_nil)))) pss_nil)
  (pss_one (ps_if (pt_cmpR op_eq (pv 9) pe_int (nomark _)) (pss_one (ps_expr (pe_bm PySem.F.plainAttrs_list PySem.F.slot_list_append PySem.F.type_list_append mt_append (pv 5) (pa_cons (pe_tup (pa_cons (pv 7) (pa_cons (pv 8) pa_nil))) pa_nil)))) pss_nil))))))
  (pss_one (ps_ret (pv 5))))))), ?_⟩
    refine ⟨(by show 0 ≤ sizeLine; decide), fun D hD => ?_⟩
    have nD : D ≠ a := Ne.symm (S.ne hD)
    have eD : Fs a L ns H (upd H D (.lst [])) := fs_same (same_new hD)
    refine ⟨_, rfl, _, rfl, a, L, ns, 4, rfl, eD.on S, by decide, by decide, fun r1 H1 hr1 e1 => ⟨_, _, rfl, rfl, _, rfl, _, rfl, a, L, ns, l, u, (1 + r1).toNat, ?_, e1.on (eD.on S), l0, l1, u0, u1, ?_, fun pp H2 rs e2 n2 lr rl rg => ?_⟩⟩
    · obtain ⟨r0, r4⟩ := hr1
      have : (((1 + r1).toNat : Nat) : Int) = 1 + r1 := Int.toNat_of_nonneg (by omega)
      rw [this]
      rfl
    · obtain ⟨r0, r4⟩ := hr1
      omega
    · have rl4 : rs.length ≤ 4 := by
        obtain ⟨r0, r4⟩ := hr1
        omega
      obtain ⟨xp, p1, p2, p3⟩ := lr
      have e02 := eD.trans (e1.trans e2)
      have hD2 : H2 D = some (.lst []) := e2.keep _ _ nD (e1.keep _ _ nD upd_same)
      have npp : pp ≠ a := Ne.symm ((e1.on (eD.on S)).ne n2)
      refine ⟨pp, rfl, ⟨_, SqL.of p1⟩, ?_⟩
      refine for_it (walk_at_list (K := K) (a := pp) (xs := xp)) (fun i σ H' => ∃ (o4 o5 o6 o7 o8 o9 : Option V) (acc : List Rw), σ = [some (.ref a), some (.int l), some (.int u), some (.ref D), o4, o5, o6, o7, o8, o9] ∧ Fs a L ns H H' ∧ KT H2 H' ∧ H' pp = some (.lst xp) ∧ LstR K (RowT K) H' D acc ∧ acc.length ≤ i ∧ ∀ r ∈ acc, SgS l u r) ⟨_, _, _, _, _, _, [], rfl, e02, KT.refl _, p1, ⟨[], hD2, rfl, by simp⟩, by simp, by simp⟩ (fun i σ H' _ p => by
        obtain ⟨_, _, _, _, _, _, _, _, _, _, h, _⟩ := p
        exact SqL.of h) (fun i x σ H' H3 hi p y => ?_) (fun σ H5 p => ?_)
      · obtain ⟨rfl, hx⟩ := y
        obtain ⟨o4, o5, o6, o7, o8, o9, acc, rfl, e3, k3, hp3, ⟨xD, d1, d2, df⟩, d3, d4⟩ := p
        obtain ⟨r, hr⟩ := seq_at p2 hx
        have hrt := (p3 i x r hx hr).kt k3
        have rs1 := rg r (List.mem_of_getElem? hr)
        have npD : pp ≠ D := fun z => by
          have := e1.keep D _ nD upd_same
          rw [← z, n2] at this
          cases this
        refine ⟨_, rfl, (by show 1 ≤ sizeLine; decide), fun q1 n1 => ⟨q1, [r], rfl, ⟨[x], upd_same, rfl, fun j x' z h1 h2 => ?_⟩, (by show 1 ≤ 500; decide), fun q H4 ts s4 nq lq ht => ?_, fun q H4 w kk s4 sq ht => ?_⟩⟩
        · cases j with
          | zero =>
            cases h1
            cases h2
            exact hrt.kt (KT.new n1)
          | succ j => cases h1
        · obtain ⟨xq, q1', q2', q3'⟩ := lq
          have s34 := (same_new (o := .lst [x]) n1).trans s4
          obtain ⟨t1, t2⟩ := tid_one ht rs1
          have d1' := s34 _ _ d1
          refine ⟨_, rfl, _, _, _, _, true, rfl, .ty _, .base (.lst q1'), kit_ty (by decide +kernel), _, rfl, iteT ?_⟩
          have hi1 : i < 1000 := by omega
          refine ⟨_, rfl, .inl ⟨rfl, _, SqL.of d1'⟩, _, rfl, D, q, xD, xq, rfl, rfl, d1', q1', by rw [d2, q2']; exact Nat.le_of_lt (k1000 (by omega)), ?_⟩
          refine ⟨_, _, _, _, _, _, acc ++ ts, rfl, fs_upd S (e3.trans (fs_same s34)) hD, (k3.trans (KT.of s34)).trans (KT.lst d1'), ?_, lst_cat kR d1' d2 (fun j x z h1 h2 => (df j x z h1 h2).kt (KT.of s34)) q2' q3', by rw [List.length_append]; omega, fun z hz => ?_⟩
          · rw [upd_ne npD]
            exact s34 _ _ hp3
          · rcases List.mem_append.mp hz with h | h
            · exact d4 z h
            · exact t2 z h
        · have s34 := (same_new (o := .lst [x]) n1).trans s4
          refine ⟨_, rfl, _, _, _, _, false, rfl, .ty _, tupTy sq, kit_ty (by decide +kernel), _, rfl, iteF ?_⟩
          exact ⟨_, _, _, _, _, _, acc, rfl, e3.trans (fs_same s34), k3.trans (KT.of s34), s34 _ _ hp3, ⟨xD, s34 _ _ d1, d2, fun j x z h1 h2 => (df j x z h1 h2).kt (KT.of s34)⟩, by omega, d4⟩
      · obtain ⟨o4, o5, o6, o7, o8, o9, acc, rfl, e3, k3, hp3, ⟨xD, d1, d2, df⟩, d3, d4⟩ := p
        have al : acc.length ≤ 4 := by omega
        refine ⟨(by show 0 ≤ sizeLine; decide), fun B hB => ?_⟩
        have nB : B ≠ a := Ne.symm ((e3.on S).ne hB)
        have sB : Same H5 (upd H5 B (.lst [])) := same_new hB
        have hB0 : H B = none := e3.free gdS S hB
        refine seq_rd sB (fun _ q => ⟨_, rfl, q⟩) (.inl (SqL.of d1)) fun J Gw w1 gw => ?_
        refine for_it w1 (fun i σ H' => ∃ (o4 o6 o7 o8 o9 : Option V) (rs' : List Rw), σ = [some (.ref a), some (.int l), some (.int u), some (.ref D), o4, some (.ref B), o6, o7, o8, o9] ∧ Fs a L ns H5 H' ∧ LstR K (RowT K) H' B rs' ∧ rs'.length ≤ 2 * i ∧ ∀ r ∈ rs', SgS l u r) ⟨_, _, _, _, _, [], rfl, fs_same sB, lst_nil, by simp, by simp⟩ (fun i σ H' _ p => gw H' fun o h => by
          obtain ⟨_, _, _, _, _, _, _, e, _⟩ := p
          exact e.keep _ _ nD h) (fun i x σ H6 H7 hi p y => ?_) (fun σ H6 p => ?_)
        · obtain ⟨rfl, hx⟩ := y
          obtain ⟨o4, o6, o7, o8, o9, rs', rfl, e6, ⟨xB, b1, b2, bf⟩, b3, b4⟩ := p
          obtain ⟨r, hr⟩ := seq_at d2 hx
          have rsg := d4 r (List.mem_of_getElem? hr)
          obtain ⟨ar, x1, y1, rfl, hrow, hx1, hy1⟩ := (df i x r hx hr).kt e6.kt
          have hi1 : i < 4 := by omega
          have S5 := e3.on S
          have more : ∀ {H8 : Hp} {vx vy : V} {sx sy : List Int} {rs1 : List Rw} {xs1 : List V} {q : Addr}, Fs a L ns H5 H8 → H8 B = some (.lst xs1) → xs1.length = rs1.length → (∀ (i : Nat) (x : V) (z : Rw), xs1[i]? = some x → rs1[i]? = some z → RowT K H8 x z) → (∀ r ∈ rs1, SgS l u r) → H8 q = none → IntsT K H8 vx sx → IntsT K H8 vy sy → SgS l u (sx, sy) →
              (upd H8 q (.tup [vx, vy])) B = some (.lst xs1) ∧ Fs a L ns H5 (upd (upd H8 q (.tup [vx, vy])) B (.lst (xs1 ++ [.ref q]))) ∧ LstR K (RowT K) (upd (upd H8 q (.tup [vx, vy])) B (.lst (xs1 ++ [.ref q]))) B (rs1 ++ [(sx, sy)]) ∧ KT H8 (upd (upd H8 q (.tup [vx, vy])) B (.lst (xs1 ++ [.ref q]))) ∧ ∀ r ∈ rs1 ++ [(sx, sy)], SgS l u r := fun {H8 vx vy sx sy rs1 xs1 q} e hb hl hf hg hq tx ty sg => by
            have sq := same_new (o := .tup [vx, vy]) hq
            have hb' := sq _ _ hb
            refine ⟨hb', fs_upd S5 (e.trans (fs_same sq)) hB, lst_snoc kR hb' hl (fun i x z h1 h2 => (hf i x z h1 h2).kt (KT.of sq)) ⟨_, _, _, rfl, SqT.of upd_same, tx.kt (KT.of sq), ty.kt (KT.of sq)⟩, (KT.of sq).trans (KT.lst hb'), fun z hz => ?_⟩
            rcases List.mem_append.mp hz with h | h
            · exact hg z h
            · rw [List.mem_singleton.mp h]
              exact sg
          refine ⟨ar, _, rfl, hrow, rfl, _, _, rfl, _, _, rfl, rfl, ?_⟩
          refine ⟨_, rfl, .inl ⟨rfl, _, SqL.of b1⟩, _, rfl, _, rfl, (by show 2 ≤ sizeLine; decide), fun q1 n1 => ?_⟩
          obtain ⟨c1, c2, ⟨xC, c3, c4, c5⟩, c6, c7⟩ := more (rs1 := rs') e6 b1 b2 bf b4 n1 hx1 hy1 rsg
          refine ⟨B, _, _, rfl, rfl, c1, by rw [b2]; exact k1000 (by omega), ?_⟩
          have hx2 := hx1.kt c6
          have hy2 := hy1.kt c6
          refine ⟨_, rfl, a, L, ns, 4, rfl, c2.on S5, by decide, by decide, fun t H8 ht e8 => ?_⟩
          have c38 := e8.keep _ _ nB c3
          have hx3 := hx2.kt e8.kt
          have hy3 := hy2.kt e8.kt
          have c58 : ∀ (i : Nat) (x : V) (z : Rw), xC[i]? = some x → (rs' ++ [(r.1, r.2)])[i]? = some z → RowT K H8 x z := fun i x z h1 h2 => (c5 i x z h1 h2).kt e8.kt
          refine ⟨fun σ' H' => ∃ (rs2 : List Rw), σ' = [some (.ref a), some (.int l), some (.int u), some (.ref D), o4, some (.ref B), o6, some x1, some y1, some (.int t)] ∧ Fs a L ns H5 H' ∧ LstR K (RowT K) H' B rs2 ∧ (t = 0 → rs2.length ≤ 2 * i + 2) ∧ (t ≠ 0 → rs2.length ≤ 2 * i + 1) ∧ (∀ r ∈ rs2, SgS l u r) ∧ IntsT K H' x1 r.1 ∧ IntsT K H' y1 r.2, ?_, ?_⟩
          · refine ⟨_, rfl, rfl, _, rfl, ite2 (fun c => ?_) (fun c => ?_)⟩
            · have t0 : t = 0 := int_eq c
              refine ⟨_, rfl, .inl ⟨rfl, _, SqL.of c38⟩, _, rfl, _, rfl, (by show 2 ≤ sizeLine; decide), fun q2 n2 => ?_⟩
              obtain ⟨g1, g2, g3, g6, g7⟩ := more (c2.trans e8) c38 c4 c58 c7 n2 hy3 hx3 rsg.swp
              refine ⟨B, _, _, rfl, rfl, g1, by rw [c4, List.length_append]; exact k1000 (by show rs'.length + 1 < 1000; omega), ?_⟩
              exact ⟨_, rfl, g2, g3, fun _ => by simp; omega, fun h => absurd t0 h, g7, hx3.kt g6, hy3.kt g6⟩
            · have t0 : t ≠ 0 := fun z => c (by rw [z]; simp)
              exact ⟨_, rfl, c2.trans e8, ⟨xC, c38, c4, c58⟩, fun h => absurd h t0, fun _ => by simp; omega, c7, hx3, hy3⟩
          · rintro σ9 H9 ⟨rs2, rfl, e9, ⟨xE, g1, g2, g3⟩, g4, g5, g6, g7, g8⟩
            refine ⟨_, rfl, rfl, _, rfl, ite2 (fun c => ?_) (fun c => ?_)⟩
            · have t1 : t = 1 := int_eq c
              have := g5 (by omega)
              refine ⟨_, rfl, .inl ⟨rfl, _, SqL.of g1⟩, _, rfl, _, rfl, (by show 2 ≤ sizeLine; decide), fun q2 n2 => ?_⟩
              obtain ⟨f1, f2, f3, f6, f7⟩ := more e9 g1 g2 g3 g6 n2 g7 g8 rsg
              refine ⟨B, _, _, rfl, rfl, f1, by rw [g2]; exact k1000 (by omega), ?_⟩
              exact ⟨_, _, _, _, _, _, rfl, f2, f3, by simp; omega, f7⟩
            · refine ⟨_, _, _, _, _, rs2, rfl, e9, ⟨xE, g1, g2, g3⟩, ?_, g6⟩
              by_cases t0 : t = 0
              · have := g4 t0
                omega
              · have := g5 t0
                omega
        · obtain ⟨o4, o6, o7, o8, o9, rs', rfl, e6, b1, b3, b4⟩ := p
          exact ⟨_, rfl, k B _ rs' (e3.trans e6) hB0 b1 (by omega) b4⟩
end
end My
set_option maxHeartbeats 4000000
namespace My
open PySem PySem.Spec PyProof.Rows L2 Lcn Sq
open En DcN Ne
theorem u65 {k : Nat} {A : Around} (r : Room k A) : A.units + 65 < cLine := by
  have := r.un
  omega
theorem eqv_rw (a b : Rw) : PyData.eqv (rwD a) (rwD b) = decide (a = b) := by
  unfold rwD
  rw [PyData.eqv, PyData.eqvAll, PyData.eqvAll, PyData.eqvAll, eqv_iD, eqv_iD, Bool.and_true]
  rw [← Bool.decide_and]
  exact decide_eq_decide.mpr (by rw [Prod.ext_iff])
theorem any_rw (ks : List Rw) (r : Rw) : ((ks.map rwD).any fun z => PyData.eqv z (rwD r)) = decide (r ∈ ks) := by
  induction ks with
  | nil => simp
  | cons a ks ih =>
    rw [List.map_cons, List.any_cons, ih, eqv_rw]
    by_cases e : a = r
    · subst e
      simp
    · have : ¬ r = a := fun z => e z.symm
      simp [e, this]
theorem inV_ints (n : Int) (ns : List Int) : inV (.int n) (ns.map V.int) = decide (n ∈ ns) := by
  unfold inV
  induction ns with
  | nil => simp
  | cons a ns ih =>
    rw [List.map_cons, List.any_cons, ih]
    show ((a == n) || _) = _
    by_cases e : a = n
    · subst e
      simp
    · have : ¬ n = a := fun z => e z.symm
      have h : (a == n) = false := by simpa using e
      rw [h]
      simp [this]
theorem flat_is (ns : List Int) : (ns.map V.int).all flatV = true := by
  rw [List.all_map]
  exact List.all_eq_true.mpr fun _ _ => rfl
/-- the letters, the unknowns of a list of signs, by first place -/
def ltS (l : List Int) : List Int := firsts (l.filter fun s => decide (0 ≤ s))
def unS (l : List Int) : List Int := firsts ((l.filter fun s => decide (s < 0)).map fun s => -1 - s)
theorem lt_snoc (l : List Int) (s : Int) : ltS (l ++ [s]) = if 0 ≤ s then fsS (ltS l) s else ltS l := by
  unfold ltS firsts
  rw [List.filter_append]
  by_cases c : 0 ≤ s
  · rw [if_pos c, List.filter_cons, if_pos (decide_eq_true c), List.filter_nil, List.foldl_append]
    rfl
  · rw [if_neg c, List.filter_cons, if_neg (by simpa using c), List.filter_nil, List.append_nil]
theorem un_snoc (l : List Int) (s : Int) : unS (l ++ [s]) = if s < 0 then fsS (unS l) (-1 - s) else unS l := by
  unfold unS firsts
  rw [List.filter_append]
  by_cases c : s < 0
  · rw [if_pos c, List.filter_cons, if_pos (decide_eq_true c), List.filter_nil, List.map_append, List.foldl_append]
    rfl
  · rw [if_neg c, List.filter_cons, if_neg (by simpa using c), List.filter_nil, List.append_nil]
theorem ltS_len (l : List Int) : (ltS l).length ≤ l.length := Nat.le_trans (fs_len _) (List.length_filter_le _ _)
theorem unS_len (l : List Int) : (unS l).length ≤ l.length := Nat.le_trans (fs_len _) (by rw [List.length_map]; exact List.length_filter_le _ _)
theorem rd_ix {K : PySem.W.Frag} {H : Hp} {a : Addr} {l : List Int} {s : Int} {Q : VK} (h : H a = some (.lst (l.map V.int))) (hs : s ∈ l) (q : Q (.int (ixI l s)) H) : rIndex K (.ref a) [.int s] H Q := by
  have hlt : l.idxOf s < l.length := List.idxOf_lt_length_of_mem hs
  refine ⟨a, _, _, l.idxOf s, .int s, rfl, rfl, SqL.of h, rfl, flat_is l, ?_, ?_, fun m z' hm hz => ?_, q⟩
  · rw [List.getElem?_map, List.getElem?_eq_getElem hlt, List.getElem_idxOf hlt]
    rfl
  · show (s == s) = true
    simp
  · obtain ⟨t, ht, rfl⟩ := map_at hz
    show (t == s) = false
    have := List.not_of_lt_findIdx (p := (· == s)) (xs := l) (i := m) hm
    obtain ⟨hm', e⟩ := List.getElem?_eq_some_iff.mp ht
    rw [← e]
    simpa using this
theorem at_lst {α : Type} {K : PySem.W.Frag} {R : Hp → V → α → Prop} {H : Hp} {p : Addr} {zs : List α} {i n : Int} (s : LstR K R H p zs) (h : InR n i) (hl : (zs.length : Int) = n) : ∃ xs x z, H p = some (.lst xs) ∧ atI xs i = some x ∧ zs[i.toNat]? = some z ∧ R H x z := by
  obtain ⟨xs, h1, h2, h3⟩ := s
  obtain ⟨h0, h1'⟩ := h
  obtain ⟨j, rfl⟩ : ∃ j : Nat, i = (j : Int) := ⟨i.toNat, by omega⟩
  have hj : j < zs.length := by omega
  have hx : xs[j]? = some (xs[j]'(by omega)) := List.getElem?_eq_getElem (by omega)
  have hz : zs[j]? = some zs[j] := List.getElem?_eq_getElem hj
  exact ⟨xs, _, _, h1, atI_nat hx, hz, h3 j _ _ hx hz⟩
theorem kS {K : PySem.W.Frag} : ∀ (H H' : Hp) (v : V) (z : List Int), KT H H' → IntsT K H v z → IntsT K H' v z := fun _ _ _ _ k h => h.kt k
/-- what the law's own canon tells -/
def DueAt (K : PySem.W.Frag) (H : Hp) (q : Addr) (R : List Rw) (D : List (List Int)) (E : List (Int × List Int)) (n : Int) : Prop :=
  ∃ (b : Addr) (l u r d e : V), SqT K H q [.ref b, l, u] ∧ SqT K H b [r, d, e, .int n] ∧ BookAt K H (cRows R) (cDeeds D R) (cEnds n E R) r d e ∧ IntsT K H l (cLet R) ∧ IntsT K H u (cUnk R)
def sp__law_canon (K : PySem.W.Frag) : Sp := fun vs H Q _ => ∃ (pr pd pe : Addr) (n : Int) (R : List Rw) (D : List (List Int)) (E : List (Int × List Int)), vs = [.ref pr, .ref pd, .ref pe, .int n] ∧ LstR K (RowT K) H pr R ∧ LstR K (IntsT K) H pd D ∧ LstR K (EndT K) H pe E ∧ R.length < 500 ∧ (flat R).length < 500 ∧
  (∀ r ∈ R, (∀ s ∈ r.1, Stands D.length E.length s) ∧ ∀ s ∈ r.2, Stands D.length E.length s) ∧ ∀ (q : Addr) (H' : Hp), Same H H' → DueAt K H' q R D E n → Q (.ref q) H'
theorem sc__law_canon : FnScope ["_law_rows", "_law_deeds", "_law_ends", "_law_states", "_law_kept", "_law_letters", "_law_unknowns", "_law_told", "_law_new_ends", "_law_j", "_law_book", "_law_left", "_law_right", "_law_sign", "_law_sides", "_law_side_here", "_law_start", "_law_goals", "_law_i"] ["_law_rows", "_law_deeds", "_law_ends", "_law_states"] (defScope s__law_canon) := ⟨rfl, rfl, rfl, by decide +kernel, rfl, by decide +kernel, by decide +kernel⟩
section
variable {P : Program} {w : World} {K : PySem.W.Frag} {mg : Str → Option Value} {base : Heap}
theorem ok__law_canon (D__law_canon : Dn K mg "_law_canon" s__law_canon ["_law_rows", "_law_deeds", "_law_ends", "_law_states"]) (T : TB mg) : FnOk P w K mg base CX0 1 D__law_canon.f D__law_canon.fd ["_law_rows", "_law_deeds", "_law_ends", "_law_states"] (sp__law_canon K) := by
  refine ok0 D__law_canon.F sc__law_canon (fun vs H Q E h => ?_) (fun cdv A outer s H vs Q E hr h => ?_)
  · obtain ⟨pr, pd, pe, n, R, D, E', rfl, hpr, hpd, hpe, rl, fl, st, k⟩ := h
    rfl
  · obtain ⟨pr, pd, pe, n, R, D, E', rfl, hpr, hpd, hpe, rl, fl, st, k⟩ := h
    refine ⟨_, (pss_cons (ps_set (i := 4) sc__law_canon.nd rfl (by first | exact Or.inl rfl | exact Or.inr rfl) (pe_lst pa_nil))
  (C8.pss_cut (ps_for PassesOwn.never rfl (pi_seq (pv 0)) (pg_tup (n := 2) rfl (pgs_cons (pg_name (i := 11) sc__law_canon.nd rfl (by first | exact Or.inl rfl | exact Or.inr rfl)) (pgs_cons (pg_name (i := 12) sc__law_canon.nd rfl (by first | exact Or.inl rfl | exact Or.inr rfl)) pgs_nil))) (pss_one (ps_if (PW.pt (pw_and (pt_cmpR (op_notInD (u65 hr)) (pe_tup (pa_cons (pv 11) (pa_cons (pv 12) pa_nil))) (pv 4) (by rfl)) (pw_and1 (pt_cmpR (op_notInD (u65 hr)) (pe_tup (pa_cons (pv 12) (pa_cons (pv 11) pa_nil))) (pv 4) (by rfl))))) (pss_one (ps_expr (pe_bm PySem.F.plainAttrs_list PySem.F.slot_list_append PySem.F.type_list_append mt_append (pv 4) (pa_cons (pe_tup (pa_cons (pv 11) (pa_cons (pv 12) pa_nil))) pa_nil)))) pss_nil)))
  (pss_cons (ps_set (i := 5) sc__law_canon.nd rfl (by first | exact Or.inl rfl | exact Or.inr rfl) (pe_lst pa_nil))
  (pss_cons (ps_set (i := 6) sc__law_canon.nd rfl (by first | exact Or.inl rfl | exact Or.inr rfl) (pe_lst pa_nil))
  (C8.pss_cut (ps_for PassesOwn.never rfl (pi_seq (pv 4)) (pg_tup (n := 2) rfl (pgs_cons (pg_name (i := 11) sc__law_canon.nd rfl (by first | exact Or.inl rfl | exact Or.inr rfl)) (pgs_cons (pg_name (i := 12) sc__law_canon.nd rfl (by first | exact Or.inl rfl | exact Or.inr rfl)) pgs_nil))) (pss_one (ps_for PassesOwn.never rfl (pi_tup (pe_op op_catA (pv 11) (pv 12))) (pg_name (i := 13) sc__law_canon.nd rfl (by first | exact Or.inl rfl | exact Or.inr rfl)) (C8.pss_cut (ps_if (PW.pt (pw_and (pt_cmpR op_ge (pv 13) pe_int (nomark _)) (pw_and1 (pt_cmpR op_notIn_seq (pv 13) (pv 5) (by rfl))))) (pss_one (ps_expr (pe_bm PySem.F.plainAttrs_list PySem.F.slot_list_append PySem.F.type_list_append mt_append (pv 5) (pa_cons (pv 13) pa_nil)))) pss_nil)
  (pss_one (ps_if (PW.pt (pw_and (pt_cmpR op_lt (pv 13) pe_int (nomark _)) (pw_and1 (pt_cmpR op_notIn_seq (pe_op op_sub (pe_un un_neg pe_int) (pv 13)) (pv 6) (by rfl))))) (pss_one (ps_expr (pe_bm PySem.F.plainAttrs_list PySem.F.slot_list_append PySem.F.type_list_append mt_append (pv 6) (pa_cons (pe_op op_sub (pe_un un_neg pe_int) (pv 13)) pa_nil)))) pss_nil))))))
  (pss_cons (ps_set (i := 7) sc__law_canon.nd rfl (by first | exact Or.inl rfl | exact Or.inr rfl) (pe_lst pa_nil))
  (C8.pss_cut (ps_for PassesOwn.never rfl (pi_seq (pv 4)) (pg_tup (n := 2) rfl (pgs_cons (pg_name (i := 11) sc__law_canon.nd rfl (by first | exact Or.inl rfl | exact Or.inr rfl)) (pgs_cons (pg_name (i := 12) sc__law_canon.nd rfl (by first | exact Or.inl rfl | exact Or.inr rfl)) pgs_nil))) (pss_cons (ps_set (i := 14) sc__law_canon.nd rfl (by first | exact Or.inl rfl | exact Or.inr rfl) (pe_lst pa_nil))
  (pss_cons (ps_for PassesOwn.never rfl (pi_tup (pe_tup (pa_cons (pv 11) (pa_cons (pv 12) pa_nil)))) (pg_name (i := 15) sc__law_canon.nd rfl (by first | exact Or.inl rfl | exact Or.inr rfl)) (pss_one (ps_expr (pe_bm PySem.F.plainAttrs_list PySem.F.slot_list_append PySem.F.type_list_append mt_append (pv 14) (pa_cons (pe_callTy call_tupR (by rfl) T.tuple_ (by decide +kernel) (pa_cons (pe_lc (own := [(("_law_sign" : Str), 13)]) rfl sc__law_canon.nd (pi_seq (pv 15)) (blkOk_by (own := [(("_law_sign" : Str), 13)]) (N := ["_law_rows", "_law_deeds", "_law_ends", "_law_states", "_law_kept", "_law_letters", "_law_unknowns", "_law_told", "_law_new_ends", "_law_j", "_law_book", "_law_left", "_law_right", "_law_sign", "_law_sides", "_law_side_here", "_law_start", "_law_goals", "_law_i"]) (sc := defScope s__law_canon) (by decide +kernel)) (fun _ _ _ _ _ => (pg_name (i := 13) sc__law_canon.nd rfl (Or.inl rfl))) (fun _ _ _ _ _ => pts_nil) (fun _ _ _ _ _ => (pe_ifExp (pt_cmpR op_ge (pv 13) pe_int (nomark _)) (pe_bmK (K := K) rfl PySem.F.plainAttrs_list PySem.F.slot_list_index PySem.F.type_list_index (mt_indexK (K := K) rfl) (pv 5) (pa_cons (pv 13) pa_nil)) (pe_op op_sub (pe_un un_neg pe_int) (pe_bmK (K := K) rfl PySem.F.plainAttrs_list PySem.F.slot_list_index PySem.F.type_list_index (mt_indexK (K := K) rfl) (pv 6) (pa_cons (pe_op op_sub (pe_un un_neg pe_int) (pv 13)) pa_nil)))))) pa_nil)) pa_nil)))))
  (pss_one (ps_expr (pe_bm PySem.F.plainAttrs_list PySem.F.slot_list_append PySem.F.type_list_append mt_append (pv 7) (pa_cons (pe_tup (pa_cons (pe_ix ix_list (pv 14) pe_int (fun _ _ => rfl)) (pa_cons (pe_ix ix_list (pv 14) pe_int (fun _ _ => rfl)) pa_nil))) pa_nil)))))))
  (pss_cons (ps_set (i := 8) sc__law_canon.nd rfl (by first | exact Or.inl rfl | exact Or.inr rfl) (pe_lst pa_nil))
  (C8.pss_cut (ps_for PassesOwn.never rfl (pi_seq (pv 6)) (pg_name (i := 9) sc__law_canon.nd rfl (by first | exact Or.inl rfl | exact Or.inr rfl)) (pss_cons (ps_asg (pe_ix ix_list (pv 2) (pv 9) (fun _ _ => rfl)) (pg_tup (n := 2) rfl (pgs_cons (pg_name (i := 16) sc__law_canon.nd rfl (by first | exact Or.inl rfl | exact Or.inr rfl)) (pgs_cons (pg_name (i := 17) sc__law_canon.nd rfl (by first | exact Or.inl rfl | exact Or.inr rfl)) pgs_nil))))
  (C8.pss_cut (ps_if (pt_cmpR op_eq (pe_callB call_len_seq (by rfl) T.len PySem.boot_len (pa_cons (pv 17) pa_nil)) (pv 3) (nomark _)) (pss_one (ps_set (i := 16) sc__law_canon.nd rfl (by first | exact Or.inl rfl | exact Or.inr rfl) pe_int)) pss_nil)
  (pss_one (ps_expr (pe_bm PySem.F.plainAttrs_list PySem.F.slot_list_append PySem.F.type_list_append mt_append (pv 8) (pa_cons (pe_tup (pa_cons (pv 16) (pa_cons (pv 17) pa_nil))) pa_nil)))))))
  (pss_cons (ps_set (i := 10) sc__law_canon.nd rfl (by first | exact Or.inl rfl | exact Or.inr rfl) (pe_tup (pa_cons (pe_callTy call_tupR (by rfl) T.tuple_ (by decide +kernel) (pa_cons (pv 7) pa_nil)) (pa_cons (pe_callTy call_tupR (by rfl) T.tuple_ (by decide +kernel) (pa_cons (pe_lc (own := [(("_law_i" : Str), 18)]) rfl sc__law_canon.nd (pi_seq (pv 5)) (blkOk_by (own := [(("_law_i" : Str), 18)]) (N := ["_law_rows", "_law_deeds", "_law_ends", "_law_states", "_law_kept", "_law_letters", "_law_unknowns", "_law_told", "_law_new_ends", "_law_j", "_law_book", "_law_left", "_law_right", "_law_sign", "_law_sides", "_law_side_here", "_law_start", "_law_goals", "_law_i"]) (sc := defScope s__law_canon) (by decide +kernel)) (fun _ _ _ _ _ => (pg_name (i := 18) sc__law_canon.nd rfl (Or.inl rfl))) (fun _ _ _ _ _ => pts_nil) (fun _ _ _ _ _ => (pe_ix (ix_listK (K := K) rfl) (pv 1) (pv 18) (fun _ _ => rfl)))) pa_nil)) (pa_cons (pe_callTy call_tupR (by rfl) T.tuple_ (by decide +kernel) (pa_cons (pv 8) pa_nil)) (pa_cons (pv 3) pa_nil))))))
  (pss_one (ps_ret (pe_tup (pa_cons (pv 10) (pa_cons (pe_callTy call_tupR (by rfl) T.tuple_ (by decide +kernel) (pa_cons (pv 5) pa_nil)) (pa_cons (pe_callTy call_tupR (by rfl) T.tuple_ (by decide +kernel) (pa_cons (pv 6) pa_nil)) pa_nil)))))))))))))))), ?_⟩
    obtain ⟨xr, r1, r2, r3⟩ := id hpr
    refine ⟨(by show 0 ≤ sizeLine; decide), fun B hB => ?_⟩
    have sB := same_new (o := .lst []) hB
    refine ⟨fun σ' H' => ∃ (o5 o6 o7 o8 o9 o10 o11 o12 o13 o14 o15 o16 o17 o18 : Option V), σ' = [some (.ref pr), some (.ref pd), some (.ref pe), some (.int n), some (.ref B), o5, o6, o7, o8, o9, o10, o11, o12, o13, o14, o15, o16, o17, o18] ∧ Same H H' ∧ LstR K (RowT K) H' B (keptF R), ?_, ?_⟩
    · refine seq_rd sB (fun _ q => ⟨_, rfl, q⟩) (.inl (SqL.of r1)) fun J Gw w1 gw => ?_
      refine for_it w1 (fun i σ H' => ∃ (o5 o6 o7 o8 o9 o10 o11 o12 o13 o14 o15 o16 o17 o18 : Option V), σ = [some (.ref pr), some (.ref pd), some (.ref pe), some (.int n), some (.ref B), o5, o6, o7, o8, o9, o10, o11, o12, o13, o14, o15, o16, o17, o18] ∧ Same H H' ∧ LstR K (RowT K) H' B (keptF (R.take i))) ⟨_, _, _, _, _, _, _, _, _, _, _, _, _, _, rfl, sB, lst_nil⟩ (fun i σ H' _ p => gw H' fun o h => by
        obtain ⟨_, _, _, _, _, _, _, _, _, _, _, _, _, _, _, s, _⟩ := p
        exact s _ o h) (fun i x σ H2 H3 hi p y => ?_) (fun σ H2 p => ?_)
      · obtain ⟨rfl, hx⟩ := y
        obtain ⟨o5, o6, o7, o8, o9, o10, o11, o12, o13, o14, o15, o16, o17, o18, rfl, s2, ⟨xB, b1, b2, bf⟩⟩ := p
        obtain ⟨r, hr2⟩ := seq_at r2 hx
        obtain ⟨ar, x1, y1, rfl, hrow, hx1, hy1⟩ := (r3 i x r hx hr2).kt (KT.of s2)
        rw [kp_step hr2]
        have kl : (keptF (R.take i)).length ≤ i := Nat.le_trans (kp_len _) (by rw [List.length_take]; omega)
        have hi1 : i < 500 := by omega
        refine ⟨ar, _, rfl, hrow, rfl, _, _, rfl, _, _, rfl, rfl, ?_⟩
        have dpk : ∀ {H4 : Hp}, Same H3 H4 → Dp K H4 (.ref B) (.list ((keptF (R.take i)).map rwD)) := fun s => dp_lst (fun _ _ h => dp_row h) (LstR.same kR s ⟨xB, b1, b2, bf⟩)
        have shk : SeqAt.shaped (.list ((keptF (R.take i)).map rwD)) = true := (flt_ls flt_rw (keptF (R.take i))).sh (by decide)
        have row : ∀ {H4 : Hp} {q : Addr} {x y : V} {l m : List Int}, H4 q = none → IntsT K H4 x l → IntsT K H4 y m → RowT K (upd H4 q (.tup [x, y])) (.ref q) (l, m) := fun hq hx hy => ⟨_, _, _, rfl, SqT.of upd_same, hx.kt (KT.new hq), hy.kt (KT.new hq)⟩
        have out : ∀ {Hx : Hp}, Same H3 Hx → (r ∈ keptF (R.take i) ∨ swp r ∈ keptF (R.take i)) → ∃ (o5' o6' o7' o8' o9' o10' o11' o12' o13' o14' o15' o16' o17' o18' : Option V), ([some (.ref pr), some (.ref pd), some (.ref pe), some (.int n), some (.ref B), o5, o6, o7, o8, o9, o10, some x1, some y1, o13, o14, o15, o16, o17, o18] : L2.St) = [some (.ref pr), some (.ref pd), some (.ref pe), some (.int n), some (.ref B), o5', o6', o7', o8', o9', o10', o11', o12', o13', o14', o15', o16', o17', o18'] ∧ Same H Hx ∧ LstR K (RowT K) Hx B (kpS (keptF (R.take i)) r) := fun sx c => by
          unfold kpS
          rw [if_pos c]
          exact ⟨_, _, _, _, _, _, _, _, _, _, _, _, _, _, rfl, s2.trans sx, LstR.same kR sx ⟨xB, b1, b2, bf⟩⟩
        refine ⟨_, rfl, _, rfl, (by show 2 ≤ sizeLine; decide), fun q1 n1 => ?_⟩
        have s3 := same_new (o := .tup [x1, y1]) n1
        refine ⟨_, rfl, rwD r, _, dp_row (row n1 hx1 hy1), dpk s3, (flt_rw r).sh (by decide), shk, ?_⟩
        rw [any_rw]
        by_cases c1 : r ∈ keptF (R.take i)
        · rw [decide_eq_true c1]
          refine ⟨_, rfl, ?_⟩
          exact out s3 (.inl c1)
        · rw [decide_eq_false c1]
          refine ⟨_, rfl, ?_⟩
          have xA := hx1.kt (KT.of s3)
          have yA := hy1.kt (KT.of s3)
          refine ⟨_, rfl, _, rfl, (by show 2 ≤ sizeLine; decide), fun q2 n2 => ?_⟩
          have s4 := s3.trans (same_new (o := .tup [y1, x1]) n2)
          refine ⟨_, rfl, rwD (swp r), _, dp_row (row n2 yA xA), dpk s4, (flt_rw (swp r)).sh (by decide), shk, ?_⟩
          rw [any_rw]
          by_cases c2 : swp r ∈ keptF (R.take i)
          · rw [decide_eq_true c2]
            refine ⟨_, rfl, ?_⟩
            exact out s4 (.inr c2)
          · rw [decide_eq_false c2]
            refine ⟨_, rfl, ?_⟩
            refine ⟨_, rfl, .inl ⟨rfl, _, SqL.of (s4 _ _ b1)⟩, _, rfl, _, rfl, (by show 2 ≤ sizeLine; decide), fun q3 n3 => ?_⟩
            have sq := same_new (o := .tup [x1, y1]) n3
            have s5 := s4.trans sq
            refine ⟨B, _, _, rfl, rfl, s5 _ _ b1, by rw [b2]; exact k1000 (by omega), ?_⟩
            refine ⟨_, _, _, _, _, _, _, _, _, _, _, _, _, _, rfl, same_upd (s2.trans s5) hB, ?_⟩
            unfold kpS
            rw [if_neg (fun z => z.elim c1 c2)]
            exact lst_snoc kR (s5 _ _ b1) b2 (fun j x z h1 h2 => (bf j x z h1 h2).kt (KT.of s5)) (row n3 (hx1.kt (KT.of s4)) (hy1.kt (KT.of s4)))
      · obtain ⟨o5, o6, o7, o8, o9, o10, o11, o12, o13, o14, o15, o16, o17, o18, rfl, s2, g⟩ := p
        rw [r2, List.take_length] at g
        exact ⟨_, _, _, _, _, _, _, _, _, _, _, _, _, _, rfl, s2, g⟩
    rintro σ1 H1 ⟨o5, o6, o7, o8, o9, o10, o11, o12, o13, o14, o15, o16, o17, o18, rfl, s1, lB⟩
    refine ⟨(by show 0 ≤ sizeLine; decide), fun L hL => ⟨(by show 0 ≤ sizeLine; decide), fun U hU => ?_⟩⟩
    have nLU : L ≠ U := fun z => by
      rw [← z, upd_same] at hU
      cases hU
    have hU0 : H1 U = none := by
      rw [upd_ne (Ne.symm nLU)] at hU
      exact hU
    have sLU : Same H1 (upd (upd H1 L (.lst [])) U (.lst [])) := (same_new hL).trans (same_new hU)
    obtain ⟨xB, b1, b2, bf⟩ := id lB
    have kl := kp_len R
    have fk := flat_kept R
    refine ⟨fun σ' H' => ∃ (o7 o8 o9 o10 o11 o12 o13 o14 o15 o16 o17 o18 : Option V), σ' = [some (.ref pr), some (.ref pd), some (.ref pe), some (.int n), some (.ref B), some (.ref L), some (.ref U), o7, o8, o9, o10, o11, o12, o13, o14, o15, o16, o17, o18] ∧ Same H1 H' ∧ H' L = some (.lst ((cLet R).map V.int)) ∧ H' U = some (.lst ((cUnk R).map V.int)), ?_, ?_⟩
    · refine seq_rd sLU (fun _ q => ⟨_, rfl, q⟩) (.inl (SqL.of b1)) fun J Gw w1 gw => ?_
      refine for_it w1 (fun i σ H' => ∃ (o7 o8 o9 o10 o11 o12 o13 o14 o15 o16 o17 o18 : Option V), σ = [some (.ref pr), some (.ref pd), some (.ref pe), some (.int n), some (.ref B), some (.ref L), some (.ref U), o7, o8, o9, o10, o11, o12, o13, o14, o15, o16, o17, o18] ∧ Same H1 H' ∧ H' L = some (.lst ((ltS (flat ((keptF R).take i))).map V.int)) ∧ H' U = some (.lst ((unS (flat ((keptF R).take i))).map V.int))) ⟨_, _, _, _, _, _, _, _, _, _, _, _, rfl, sLU, (by rw [upd_ne nLU]; exact upd_same), upd_same⟩ (fun i σ H' _ p => gw H' fun o h => by
        obtain ⟨_, _, _, _, _, _, _, _, _, _, _, _, _, s, _⟩ := p
        exact s _ o h) (fun i x σ H2 H3 hi p y => ?_) (fun σ H2 p => ?_)
      · obtain ⟨rfl, hx⟩ := y
        obtain ⟨o7, o8, o9, o10, o11, o12, o13, o14, o15, o16, o17, o18, rfl, s2, e1, e2⟩ := p
        obtain ⟨r, hr2⟩ := seq_at b2 hx
        obtain ⟨ar, x1, y1, rfl, hrow, ⟨ax, rfl, hx1⟩, ⟨ay, rfl, hy1⟩⟩ := (bf i x r hx hr2).kt (KT.of s2)
        have fm := flat_mono hr2
        have big : sizeLine = 16777216 := by decide
        refine ⟨ar, _, rfl, hrow, rfl, _, _, rfl, _, _, rfl, rfl, ?_⟩
        refine ⟨_, rfl, _, rfl, rd_cat hx1 hy1 (by rw [List.length_map, List.length_map]; omega) fun c Hc sc tc => ?_⟩
        rw [← List.map_append] at tc
        have sc0 : Same H1 Hc := s2.trans sc
        refine ⟨c, rfl, ⟨_, tc⟩, ?_⟩
        refine for_it (walk_tup (K := K) (a := c) (xs := (r.1 ++ r.2).map V.int)) (fun j σ H' => ∃ (o13 : Option V), σ = [some (.ref pr), some (.ref pd), some (.ref pe), some (.int n), some (.ref B), some (.ref L), some (.ref U), o7, o8, o9, o10, some (.ref ax), some (.ref ay), o13, o14, o15, o16, o17, o18] ∧ Same H1 H' ∧ SqT K H' c ((r.1 ++ r.2).map V.int) ∧ H' L = some (.lst ((ltS (flat ((keptF R).take i) ++ (r.1 ++ r.2).take j)).map V.int)) ∧ H' U = some (.lst ((unS (flat ((keptF R).take i) ++ (r.1 ++ r.2).take j)).map V.int))) ⟨_, rfl, sc0, tc, (by rw [List.take_zero, List.append_nil]; exact sc _ _ e1), (by rw [List.take_zero, List.append_nil]; exact sc _ _ e2)⟩ (fun j σ H' _ p => by
          obtain ⟨_, _, _, h, _⟩ := p
          exact h) (fun j x σ H4 H5 hj p y => ?_) (fun σ H4 p => ?_)
        · obtain ⟨rfl, hx⟩ := y
          obtain ⟨o13, rfl, s4, t4, g1, g2⟩ := p
          obtain ⟨s, hs', rfl⟩ := map_at hx
          obtain ⟨jl, es⟩ := List.getElem?_eq_some_iff.mp hs'
          have tk : flat ((keptF R).take i) ++ (r.1 ++ r.2).take (j + 1) = (flat ((keptF R).take i) ++ (r.1 ++ r.2).take j) ++ [s] := by
            rw [List.take_succ_eq_append_getElem jl, es, List.append_assoc]
          rw [tk]
          have pl : (flat ((keptF R).take i) ++ (r.1 ++ r.2).take j).length < 1000 := by
            rw [List.length_append, List.length_take, List.length_append]
            omega
          generalize flat ((keptF R).take i) ++ (r.1 ++ r.2).take j = pre at g1 g2 pl ⊢
          have l1 := ltS_len pre
          have l2 := unS_len pre
          refine ⟨fun σ' H' => σ' = [some (.ref pr), some (.ref pd), some (.ref pe), some (.int n), some (.ref B), some (.ref L), some (.ref U), o7, o8, o9, o10, some (.ref ax), some (.ref ay), some (.int s), o14, o15, o16, o17, o18] ∧ Same H1 H' ∧ SqT K H' c ((r.1 ++ r.2).map V.int) ∧ H' L = some (.lst ((ltS (pre ++ [s])).map V.int)) ∧ H' U = some (.lst ((unS pre).map V.int)), ?_, ?_⟩
          · rw [lt_snoc]
            refine ⟨_, rfl, _, _, rfl, rfl, _, rfl, ite2 (fun c1 => ?_) (fun c1 => ?_)⟩
            · have c1 : 0 ≤ s := of_decide_eq_true c1
              rw [if_pos c1]
              refine ⟨_, rfl, _, rfl, L, _, rfl, .inl (SqL.of g1), rfl, flat_is _, ?_⟩
              rw [inV_ints]
              unfold fsS
              by_cases c2 : s ∈ ltS pre
              · rw [decide_eq_true c2, if_pos c2]
                refine ⟨_, rfl, ?_⟩
                exact ⟨rfl, s4, t4, g1, g2⟩
              · rw [decide_eq_false c2, if_neg c2]
                refine ⟨_, rfl, ?_⟩
                refine ⟨_, rfl, .inl ⟨rfl, _, SqL.of g1⟩, _, rfl, L, _, _, rfl, rfl, g1, by rw [List.length_map]; exact k1000 (by omega), rfl, same_upd s4 hL, (KT.lst g1).tup t4, ?_, ?_⟩
                · rw [upd_same]
                  simp
                · rw [upd_ne (Ne.symm nLU)]
                  exact g2
            · have c1 : ¬ 0 ≤ s := fun z => c1 (decide_eq_true z)
              rw [if_neg c1]
              exact ⟨rfl, s4, t4, g1, g2⟩
          rintro σ6 H6 ⟨rfl, s6, t6, h1, h2⟩
          refine ⟨_, rfl, _, _, rfl, rfl, _, rfl, ite2 (fun c1 => ?_) (fun c1 => ?_)⟩
          · have c1 : s < 0 := of_decide_eq_true c1
            refine ⟨_, rfl, _, rfl, _, _, rfl, rfl, _, rfl, U, _, rfl, .inl (SqL.of h2), rfl, flat_is _, ?_⟩
            have ev : inV (V.int (-1 - s)) ((unS pre).map V.int) = decide ((-1 - s) ∈ unS pre) := inV_ints _ _
            by_cases c2 : (-1 - s) ∈ unS pre
            · rw [decide_eq_true c2] at ev
              refine ⟨false, ?_, ?_⟩
              · show V.bl (!inV (V.int (-1 - s)) _) = _
                rw [ev]
                rfl
              · refine ⟨_, rfl, s6, t6, h1, ?_⟩
                rw [un_snoc, if_pos c1]
                unfold fsS
                rw [if_pos c2]
                exact h2
            · rw [decide_eq_false c2] at ev
              refine ⟨true, ?_, ?_⟩
              · show V.bl (!inV (V.int (-1 - s)) _) = _
                rw [ev]
                rfl
              · refine ⟨_, rfl, .inl ⟨rfl, _, SqL.of h2⟩, _, rfl, _, rfl, _, _, rfl, rfl, U, _, _, rfl, rfl, h2, by rw [List.length_map]; exact k1000 (by omega), _, rfl, same_upd s6 hU0, (KT.lst h2).tup t6, ?_, ?_⟩
                · rw [upd_ne nLU]
                  exact h1
                · rw [upd_same, un_snoc, if_pos c1]
                  unfold fsS
                  rw [if_neg c2]
                  simp
          · have c1 : ¬ s < 0 := fun z => c1 (decide_eq_true z)
            refine ⟨_, rfl, s6, t6, h1, ?_⟩
            rw [un_snoc, if_neg c1]
            exact h2
        · obtain ⟨o13, rfl, s4, t4, g1, g2⟩ := p
          rw [List.length_map, List.take_length, ← flat_tk hr2] at g1 g2
          exact ⟨_, _, _, _, _, _, _, _, _, _, _, _, rfl, s4, g1, g2⟩
      · obtain ⟨o7, o8, o9, o10, o11, o12, o13, o14, o15, o16, o17, o18, rfl, s2, e1, e2⟩ := p
        rw [b2, List.take_length] at e1 e2
        exact ⟨_, _, _, _, _, _, _, _, _, _, _, _, rfl, s2, e1, e2⟩
    rintro σ2 H2 ⟨p7, p8, p9, p10, p11, p12, p13, p14, p15, p16, p17, p18, rfl, s2, e1, e2⟩
    obtain ⟨f, hf⟩ : ∃ f : Int → Int, f = mvS (ixI (cLet R)) (ixI (cUnk R)) := ⟨_, rfl⟩
    have lLt : (cLet R).length < 500 := by
      have := (let_len R).1
      omega
    have lUn : (cUnk R).length < 500 := by
      have := (let_len R).2
      omega
    refine ⟨(by show 0 ≤ sizeLine; decide), fun W hW => ⟨fun σ' H' => ∃ (o8 o9 o10 o11 o12 o13 o14 o15 o16 o17 o18 : Option V), σ' = [some (.ref pr), some (.ref pd), some (.ref pe), some (.int n), some (.ref B), some (.ref L), some (.ref U), some (.ref W), o8, o9, o10, o11, o12, o13, o14, o15, o16, o17, o18] ∧ Same H2 H' ∧ LstR K (RowT K) H' W (cRows R), ?_, ?_⟩⟩
    · refine seq_rd (same_new hW) (fun _ q => ⟨_, rfl, q⟩) (.inl (SqL.of (s2 _ _ b1))) fun J Gw w1 gw => ?_
      refine for_it w1 (fun i σ H' => ∃ (o8 o9 o10 o11 o12 o13 o14 o15 o16 o17 o18 : Option V), σ = [some (.ref pr), some (.ref pd), some (.ref pe), some (.int n), some (.ref B), some (.ref L), some (.ref U), some (.ref W), o8, o9, o10, o11, o12, o13, o14, o15, o16, o17, o18] ∧ Same H2 H' ∧ LstR K (RowT K) H' W ((cRows R).take i)) ⟨_, _, _, _, _, _, _, _, _, _, _, rfl, same_new hW, lst_nil⟩ (fun i σ H' _ p => gw H' fun o h => by
        obtain ⟨_, _, _, _, _, _, _, _, _, _, _, _, s, _⟩ := p
        exact s _ o h) (fun i x σ H3 H4 hi p y => ?_) (fun σ H3 p => ?_)
      · obtain ⟨rfl, hx⟩ := y
        obtain ⟨o8, o9, o10, o11, o12, o13, o14, o15, o16, o17, o18, rfl, s3, ⟨xW, w1', w2', w3'⟩⟩ := p
        obtain ⟨r, hr2⟩ := seq_at b2 hx
        have s23 := s2.trans s3
        obtain ⟨ar, x1, y1, rfl, hrow, ⟨ax, rfl, hx1⟩, ⟨ay, rfl, hy1⟩⟩ := (bf i x r hx hr2).kt (KT.of s23)
        have fm := flat_mono hr2
        have hm : ∀ s, s ∈ r.1 ∨ s ∈ r.2 → s ∈ flat (keptF R) := fun s hs => flat_mem.mpr ⟨r, List.mem_of_getElem? hr2, hs⟩
        refine ⟨ar, _, rfl, hrow, rfl, _, _, rfl, _, _, rfl, rfl, (by show 0 ≤ sizeLine; decide), fun S hS => ?_⟩
        refine ⟨_, rfl, _, rfl, (by show 2 ≤ sizeLine; decide), fun c hc => ⟨c, rfl, ⟨_, SqT.of upd_same⟩, ?_⟩⟩
        have sS := same_new (o := .lst []) hS
        have sc := sS.trans (same_new (o := .tup [.ref ax, .ref ay]) hc)
        have hSc := same_new (o := .tup [.ref ax, .ref ay]) hc _ _ (upd_same (H := _) (a := S) (o := .lst []))
        refine for_it (walk_tup (K := K) (a := c) (xs := [.ref ax, .ref ay])) (fun j σ H' => ∃ (o15 : Option V), σ = [some (.ref pr), some (.ref pd), some (.ref pe), some (.int n), some (.ref B), some (.ref L), some (.ref U), some (.ref W), o8, o9, o10, some (.ref ax), some (.ref ay), o13, some (.ref S), o15, o16, o17, o18] ∧ Same H4 H' ∧ SqT K H' c [.ref ax, .ref ay] ∧ LstR K (IntsT K) H' S ([r.1.map f, r.2.map f].take j)) ⟨_, rfl, sc, SqT.of upd_same, ⟨[], hSc, rfl, by simp⟩⟩ (fun j σ H' _ p => by
          obtain ⟨_, _, _, h, _⟩ := p
          exact h) (fun j x σ H5 H6 hj p y => ?_) (fun σ H5 p => ?_)
        · obtain ⟨rfl, hx2⟩ := y
          obtain ⟨o15, rfl, s4, t4, ⟨xs4, g1, g2, g3⟩⟩ := p
          have hj2 : j < 2 := hj
          obtain ⟨ns, as, rfl, h1, h2, h3, h4⟩ : ∃ (ns : List Int) (as : Addr), x = .ref as ∧ SqT K H6 as (ns.map V.int) ∧ [r.1.map f, r.2.map f].take (j + 1) = [r.1.map f, r.2.map f].take j ++ [ns.map f] ∧ (∀ s ∈ ns, s ∈ flat (keptF R)) ∧ ns.length < 1000 := by
            rcases (by omega : j = 0 ∨ j = 1) with rfl | rfl
            · cases hx2
              exact ⟨r.1, ax, rfl, SqT.same s4 hx1, rfl, fun s hs => hm s (.inl hs), by omega⟩
            · cases hx2
              exact ⟨r.2, ay, rfl, SqT.same s4 hy1, rfl, fun s hs => hm s (.inr hs), by omega⟩
          have l4 : xs4.length < 1000 := by
            rw [g2, List.length_take]
            omega
          refine ⟨_, rfl, .inl ⟨rfl, _, SqL.of g1⟩, ?_⟩
          refine seq_rd (H0 := H6) (Same.refl _) (fun _ q => ⟨_, rfl, q⟩) (.inr h1) fun J3 Gw3 w3 gw3 D3 hD3 => ?_
          refine lc_fr (R := fun _ i y => ∀ s, ns[i]? = some s → y = .int (f s)) w3 (by rw [List.length_map]; exact k1000 h4) (fun _ _ _ _ _ h => h) gd0 hD3 trivial (fun H' e => gw3 H' fun o h => F0.same e _ o h) (fun l x3 H8 Q8 hl hx3 e q8 => ?_) (fun H8 e got => ?_)
          · obtain ⟨s, hs', rfl⟩ := map_at hx3
            have gl : StG (· ∈ cLet R) (· ∈ cUnk R) s := ltr_flat (h3 s (List.mem_of_getElem? hs'))
            have s18 := ((s23.trans s4).trans (F0.same e))
            have e1' := ((s3.trans s4).trans (F0.same e)) _ _ e1
            have e2' := ((s3.trans s4).trans (F0.same e)) _ _ e2
            have fin : ∀ {y : V}, y = .int (f s) → Q8 y H8 := fun e => q8 _ _ (F0.of (Same.refl _)) fun s' h' => by
              rw [hs'] at h'
              cases h'
              exact e
            refine ⟨rfl, _, rfl, _, _, rfl, rfl, _, rfl, ite2 (fun c => ?_) (fun c => ?_)⟩
            · have c : 0 ≤ s := of_decide_eq_true c
              refine ⟨_, rfl, .inl ⟨rfl, _, SqL.of e1'⟩, _, rfl, rd_ix e1' (gl.1 c) (fin ?_)⟩
              rw [hf]
              unfold mvS
              rw [if_pos c]
            · have c : ¬ 0 ≤ s := fun z => c (decide_eq_true z)
              refine ⟨_, rfl, _, rfl, .inl ⟨rfl, _, SqL.of e2'⟩, _, rfl, _, rfl, _, _, rfl, rfl, ?_⟩
              dsimp only [tNil]
              refine rd_ix e2' (gl.2 c) ?_
              refine ⟨_, _, rfl, rfl, fin ?_⟩
              rw [hf]
              unfold mvS
              rw [if_neg c]
          · rw [List.length_map] at got
            refine rd_tup (.inl (SqL.of (got_map got))) fun b H9 s9 t9 => ?_
            have s89 := (F0.same e).trans s9
            refine ⟨S, _, _, rfl, rfl, s89 _ _ g1, k1000 l4, _, rfl, same_upd (s4.trans s89) hS, (KT.lst (s89 _ _ g1)).tup (SqT.same s89 t4), ?_⟩
            rw [h2]
            exact lst_snoc kS (s89 _ _ g1) g2 (fun j x z h1 h2 => (g3 j x z h1 h2).kt (KT.of s89)) ⟨b, rfl, t9⟩
        · obtain ⟨o15, rfl, s4, t4, ⟨xs4, g1, g2, g3⟩⟩ := p
          obtain ⟨u1, u2, rfl⟩ : ∃ p q, xs4 = [p, q] := by
            match xs4, g2 with
            | [p, q], _ => exact ⟨p, q, rfl⟩
          have d1 := g3 0 _ _ rfl rfl
          have d2 := g3 1 _ _ rfl rfl
          have w4' := s4 _ _ w1'
          refine ⟨_, rfl, .inl ⟨rfl, _, SqL.of w4'⟩, _, rfl, S, _, 0, u1, rfl, rfl, SqL.of g1, rfl, _, rfl, S, _, 1, u2, rfl, rfl, SqL.of g1, rfl, (by show 2 ≤ sizeLine; decide), fun q hq => ?_⟩
          have sq := same_new (o := .tup [u1, u2]) hq
          have w5' := sq _ _ w4'
          have lW : xW.length < 1000 := by
            rw [w2', List.length_take]
            omega
          refine ⟨W, _, _, rfl, rfl, w5', k1000 lW, ?_⟩
          refine ⟨_, _, _, _, _, _, _, _, _, _, _, rfl, same_upd (s3.trans (s4.trans sq)) hW, ?_⟩
          have hc1 : (cRows R).take (i + 1) = (cRows R).take i ++ [(r.1.map f, r.2.map f)] := by
            have e : (cRows R)[i]? = some (r.1.map f, r.2.map f) := by
              unfold cRows
              rw [List.getElem?_map, hr2, hf]
              rfl
            obtain ⟨h1, h2⟩ := List.getElem?_eq_some_iff.mp e
            rw [List.take_succ_eq_append_getElem h1, h2]
          rw [hc1]
          exact lst_snoc kR w5' w2' (fun j x z h1 h2 => ((w3' j x z h1 h2).kt (KT.of s4)).kt (KT.of sq)) ⟨q, _, _, rfl, SqT.of upd_same, d1.kt (KT.of sq), d2.kt (KT.of sq)⟩
      · obtain ⟨o8, o9, o10, o11, o12, o13, o14, o15, o16, o17, o18, rfl, s3, g⟩ := p
        have e : (cRows R).take xB.length = cRows R := by
          have : xB.length = (cRows R).length := by rw [b2]; simp [cRows]
          rw [this, List.take_length]
        rw [e] at g
        exact ⟨_, _, _, _, _, _, _, _, _, _, _, rfl, s3, g⟩
    rintro σ3 H3 ⟨o8, o9, o10, o11, o12, o13, o14, o15, o16, o17, o18, rfl, s3, lW⟩
    obtain ⟨i1, i2⟩ := let_in (rs := R) (l := D.length) (u := E'.length) st
    have cdl : (cDeeds D R).length = (cLet R).length := by simp [cDeeds]
    have cel : (cEnds n E' R).length = (cUnk R).length := by simp [cEnds]
    have s03 := ((s1.trans s2).trans s3)
    have pe3 := LstR.same kE s03 hpe
    have e23 := s3 _ _ e2
    refine ⟨(by show 0 ≤ sizeLine; decide), fun N hN => ⟨fun σ' H' => ∃ (o9 o10 o11 o12 o13 o14 o15 o16 o17 o18 : Option V), σ' = [some (.ref pr), some (.ref pd), some (.ref pe), some (.int n), some (.ref B), some (.ref L), some (.ref U), some (.ref W), some (.ref N), o9, o10, o11, o12, o13, o14, o15, o16, o17, o18] ∧ Same H3 H' ∧ LstR K (EndT K) H' N (cEnds n E' R), ?_, ?_⟩⟩
    · refine seq_rd (same_new hN) (fun _ q => ⟨_, rfl, q⟩) (.inl (SqL.of e23)) fun J Gw w1 gw => ?_
      refine for_it w1 (fun i σ H' => ∃ (o9 o10 o11 o12 o13 o14 o15 o16 o17 o18 : Option V), σ = [some (.ref pr), some (.ref pd), some (.ref pe), some (.int n), some (.ref B), some (.ref L), some (.ref U), some (.ref W), some (.ref N), o9, o10, o11, o12, o13, o14, o15, o16, o17, o18] ∧ Same H3 H' ∧ LstR K (EndT K) H' N ((cEnds n E' R).take i)) ⟨_, _, _, _, _, _, _, _, _, _, rfl, same_new hN, lst_nil⟩ (fun i σ H' _ p => gw H' fun o h => by
        obtain ⟨_, _, _, _, _, _, _, _, _, _, _, s, _⟩ := p
        exact s _ o h) (fun i x σ H4 H5 hi p y => ?_) (fun σ H4 p => ?_)
      · obtain ⟨rfl, hx⟩ := y
        obtain ⟨o9, o10, o11, o12, o13, o14, o15, o16, o17, o18, rfl, s4, ⟨xN, n1', n2', n3'⟩⟩ := p
        obtain ⟨u, hu, rfl⟩ := map_at hx
        obtain ⟨xs1, xv, ev, f1, f2, f3, ⟨a, y, rfl, ha, ⟨g, rfl, hg⟩⟩⟩ := at_lst (LstR.same kE s4 pe3) (i2 u (List.mem_of_getElem? hu)) rfl
        have ce : (cEnds n E' R).take (i + 1) = (cEnds n E' R).take i ++ [plainF n ev] := by
          have e : (cEnds n E' R)[i]? = some (plainF n ev) := by
            unfold cEnds
            rw [List.getElem?_map, hu]
            show some (plainF n (E'.getD u.toNat (0, []))) = _
            rw [List.getD_eq_getElem?_getD, f3]
            rfl
          obtain ⟨h1, h2⟩ := List.getElem?_eq_some_iff.mp e
          rw [List.take_succ_eq_append_getElem h1, h2]
        have lN : xN.length < 1000 := by
          rw [n2', List.length_take]
          omega
        refine ⟨_, rfl, _, rfl, pe, _, u, _, rfl, rfl, SqL.of f1, f2, a, _, rfl, ha, rfl, _, _, rfl, _, _, rfl, rfl, ?_⟩
        refine ⟨fun σ' H' => σ' = [some (.ref pr), some (.ref pd), some (.ref pe), some (.int n), some (.ref B), some (.ref L), some (.ref U), some (.ref W), some (.ref N), some (.int u), o10, o11, o12, o13, o14, o15, some (.int (plainF n ev).1), some (.ref g), o18] ∧ H' = H5 ∧ (plainF n ev).2 = ev.2, ?_, ?_⟩
        · refine ⟨_, rfl, g, _, rfl, .inr hg, _, rfl, rfl, _, rfl, ite2 (fun c => ?_) (fun c => ?_)⟩
          · have e2 : ((ev.2.length : Nat) : Int) = n := by
              have := int_eq c
              rw [List.length_map] at this
              exact this
            unfold plainF
            rw [if_pos e2]
            exact ⟨rfl, rfl, rfl⟩
          · have e2 : ¬ ((ev.2.length : Nat) : Int) = n := fun z => c (by rw [List.length_map, z]; simp)
            unfold plainF
            rw [if_neg e2]
            exact ⟨rfl, rfl, rfl⟩
        · rintro σ6 H6 ⟨rfl, rfl, pe2⟩
          refine ⟨_, rfl, .inl ⟨rfl, _, SqL.of n1'⟩, _, rfl, _, rfl, (by show 2 ≤ sizeLine; decide), fun q hq => ?_⟩
          have sq := same_new (o := .tup [.int (plainF n ev).1, .ref g]) hq
          refine ⟨N, _, _, rfl, rfl, sq _ _ n1', k1000 lN, ?_⟩
          refine ⟨_, _, _, _, _, _, _, _, _, _, rfl, same_upd (s4.trans sq) hN, ?_⟩
          rw [ce]
          exact lst_snoc kE (sq _ _ n1') n2' (fun j x z h1 h2 => (n3' j x z h1 h2).kt (KT.of sq)) ⟨q, _, rfl, SqT.of upd_same, ⟨g, rfl, by rw [pe2]; exact SqT.same sq hg⟩⟩
      · obtain ⟨o9, o10, o11, o12, o13, o14, o15, o16, o17, o18, rfl, s4, g⟩ := p
        rw [List.length_map, ← cel, List.take_length] at g
        exact ⟨_, _, _, _, _, _, _, _, _, _, rfl, s4, g⟩
    rintro σ4 H4 ⟨o9, o10, o11, o12, o13, o14, o15, o16, o17, o18, rfl, s4, lN⟩
    obtain ⟨yN, yn1, yn2, yn3⟩ := lN
    obtain ⟨yW, yw1, yw2, yw3⟩ := LstR.same kR s4 lW
    have s04 := s03.trans s4
    refine ⟨_, rfl, ?_⟩
    dsimp only [tNil]
    refine rd_tup (.inl (SqL.of yw1)) fun bW H5 s5 t5 => ?_
    have e15 := (s3.trans (s4.trans s5)) _ _ e1
    have e25 := (s3.trans (s4.trans s5)) _ _ e2
    have s05 := s04.trans s5
    have pd5 := LstR.same kS s05 hpd
    refine seq_rd (H0 := H5) (Same.refl _) (fun _ q => ⟨_, rfl, q⟩) (.inl (SqL.of e15)) fun J4 Gw4 w4 gw4 D4 hD4 => ?_
    refine lc_fr (R := fun H i y => ∀ z, (cDeeds D R)[i]? = some z → IntsT K H y z) w4 (by rw [List.length_map]; exact k1000 (by omega)) (stb_seq fun _ _ _ _ k h => h.kt k) gd0 hD4 trivial (fun H' e => gw4 H' fun o h => F0.same e _ o h) (fun l x3 H8 Q8 hl hx3 e q8 => ?_) (fun H6 e got => ?_)
    · obtain ⟨s, hs', rfl⟩ := map_at hx3
      have s8 := F0.same e
      obtain ⟨xs1, xv, zv, f1, f2, f3, f4⟩ := at_lst (LstR.same kS s8 pd5) (i1 s (List.mem_of_getElem? hs')) rfl
      refine ⟨rfl, _, rfl, _, rfl, pd, xs1, s, xv, rfl, rfl, SqL.of f1, f2, q8 _ _ (F0.of (Same.refl _)) fun z hz => ?_⟩
      unfold cDeeds at hz
      rw [List.getElem?_map, hs'] at hz
      have hz : D.getD s.toNat [] = z := Option.some.inj hz
      rw [List.getD_eq_getElem?_getD, f3] at hz
      have hz : zv = z := hz
      rw [← hz]
      exact f4
    obtain ⟨yd, yd1, yd2, yd3⟩ := got
    rw [List.length_map] at yd2
    have s6 := F0.same e
    dsimp only [tNil]
    refine rd_tup (.inl (SqL.of yd1)) fun bD H7 s7 t7 => ?_
    have yn7 := ((s5.trans s6).trans s7) _ _ yn1
    refine ⟨_, rfl, ?_⟩
    dsimp only [tNil]
    refine rd_tup (.inl (SqL.of yn7)) fun bE H8 s8 t8 => ?_
    have s58 := (s6.trans s7).trans s8
    refine ⟨_, rfl, (by show 4 ≤ sizeLine; decide), fun q hq => ?_⟩
    have sq := same_new (o := .tup [.ref bW, .ref bD, .ref bE, .int n]) hq
    have tq : SqT K _ q [.ref bW, .ref bD, .ref bE, .int n] := SqT.of (upd_same (H := H8) (a := q) (o := .tup [.ref bW, .ref bD, .ref bE, .int n]))
    have s59 := s58.trans sq
    refine ⟨_, rfl, _, rfl, ?_⟩
    dsimp only [tNil]
    refine rd_tup (.inl (SqL.of (s59 _ _ e15))) fun bL H10 s10 t10 => ?_
    have s5A := s59.trans s10
    refine ⟨_, rfl, ?_⟩
    dsimp only [tNil]
    refine rd_tup (.inl (SqL.of (s5A _ _ e25))) fun bU H11 s11 t11 => ?_
    refine ⟨(by show 3 ≤ sizeLine; decide), fun m hm => ?_⟩
    have sm := same_new (o := .tup [.ref q, .ref bL, .ref bU]) hm
    have s9z := (s10.trans s11).trans sm
    have s7z := (s8.trans sq).trans s9z
    have s5z := (s6.trans s7).trans s7z
    refine k m _ (s05.trans s5z) ⟨q, .ref bL, .ref bU, .ref bW, .ref bD, .ref bE, SqT.of upd_same, SqT.same s9z tq, ⟨?_, ?_, ?_⟩, ⟨bL, rfl, SqT.same (s11.trans sm) t10⟩, ⟨bU, rfl, SqT.same sm t11⟩⟩
    · exact ⟨bW, yW, rfl, SqT.same s5z t5, yw2, fun i x z h1 h2 => ((yw3 i x z h1 h2).kt (KT.of s5)).kt (KT.of s5z)⟩
    · exact ⟨bD, yd, rfl, SqT.same s7z t7, by rw [cdl]; exact yd2, fun i x z h1 h2 => (yd3 i x h1 z h2).kt (KT.of (s7.trans s7z))⟩
    · exact ⟨bE, yN, rfl, SqT.same ((sq.trans s9z)) t8, yn2, fun i x z h1 h2 => (yn3 i x z h1 h2).kt (KT.of (s5.trans s5z))⟩
end
end My
set_option maxHeartbeats 4000000
namespace My
open PySem PySem.Spec PyProof.Rows L2 Lcn Sq
open En DcN Ne
def keyD (R : List Rw) (D : List (List Int)) (E : List (Int × List Int)) (n : Int) : PyData := .tuple [sqD rwD R, sqD iD D, sqD enD E, .int n]
theorem flt_key (R : List Rw) (D : List (List Int)) (E : List (Int × List Int)) (n : Int) : Flt 4 (keyD R D E n) := flt_tup (flta_cons (flt_sq flt_rw R) (flta_cons ((flt_sq flt_iD D).mono (by decide)) (flta_cons (flt_sq flt_en E) (flta_cons (flt_int _) flta_nil))))
theorem dp_key {K : PySem.W.Frag} {H : Hp} {p : Addr} {R : List Rw} {D : List (List Int)} {E : List (Int × List Int)} {r d e : V} {n : Int} (hs : SqT K H p [r, d, e, .int n]) (h : BookAt K H R D E r d e) : Dp K H (.ref p) (keyD R D E n) :=
  .tup hs (.cons (dp_rows h.r) (.cons (dp_deeds h.d) (.cons (dp_ends h.e) (.cons (.int _) .nil))))
def sp__law_is_canon (K : PySem.W.Frag) (CB CC : Addr) : Sp := fun vs H Q _ => ∃ (t q : Addr) (n : Int) (R : List Rw) (D : List (List Int)) (E : List (Int × List Int)), vs = [.ref t, .ref q] ∧ CanAt K CB CC H t R D E n ∧ DueAt K H q R D E n ∧ ∀ H', Same H H' → Q (.bl true) H'
theorem sc__law_is_canon : FnScope ["_law_told", "_law_due"] ["_law_told", "_law_due"] (defScope s__law_is_canon) := ⟨rfl, rfl, rfl, by decide +kernel, rfl, by decide +kernel, by decide +kernel⟩
section
variable {P : Program} {w : World} {K : PySem.W.Frag} {mg : Str → Option Value} {base : Heap}
theorem ok__law_is_canon (D__law_is_canon : Dn K mg "_law_is_canon" s__law_is_canon ["_law_told", "_law_due"]) (T : TB mg) (C_Book : BookC K mg) (Y_Key : KeyC K C_Book.C) (G_Book_key : FnOk P w K mg base CX0 1 Y_Key.f Y_Key.fd ["self"] (sp_Book_key C_Book.C)) (C_Canon : CanonC K mg) (I_Canon : C8.InsC K C_Canon.C) : FnOk P w K mg base CX0 3 D__law_is_canon.f D__law_is_canon.fd ["_law_told", "_law_due"] (sp__law_is_canon K C_Book.C C_Canon.C) := by
  refine ok0 D__law_is_canon.F sc__law_is_canon (fun vs H Q E h => ?_) (fun cdv A outer s H vs Q E hr h => ?_)
  · obtain ⟨t, q, n, R, D, E', rfl, hC, hD, k⟩ := h
    rfl
  · obtain ⟨t, q, n, R, D, E', rfl, hC, hD, k⟩ := h
    refine ⟨_, (pss_cons (ps_if (PW.pt (pw_or (pt_not (pt_val (pe_callB call_isi (by rfl) T.isinstance (by decide +kernel) (pa_cons (pv 0) (pa_cons (pe_glob (v := .ref C_Canon.C) (by rfl) C_Canon.m rfl) pa_nil))))) (pw_or1 (pt_cmpR (op_neD hr.units) (pe_prop (pe_fld (pv 0) rfl) C_Book.cl Y_Key.P G_Book_key (hr.mono (by decide)) Y_Key.b .nil pass0 rfl) (pe_ix ix_tup (pv 1) pe_int (fun _ _ => rfl)) (nomark _))))) (pss_one (ps_ret pe_bl)) pss_nil)
  (pss_one (ps_ret (pe_and (pe_cmpR (op_eqD hr.units) (pe_fld (pv 0) rfl) (pe_ix ix_tup (pv 1) pe_int (fun _ _ => rfl)) (nomark _)) (pe_and (pe_cmpR (op_eqD hr.units) (pe_fld (pv 0) rfl) (pe_ix ix_tup (pv 1) pe_int (fun _ _ => rfl)) (nomark _)) (pe_one (pe_callB call_isi (by rfl) T.isinstance (by decide +kernel) (pa_cons (pe_fld (pv 0) rfl) (pa_cons (pe_bltn (v := .ty "tuple") (by rfl) T.tuple_ (by decide +kernel) rfl) pa_nil))))))))), ?_⟩
    obtain ⟨dt, bk, db, r, d, e, l, u, c1, c2, c3, c4, c5⟩ := hC
    obtain ⟨bq, l', u', r', d', e', d1, d2, d3, d4, d5⟩ := hD
    refine ⟨_, rfl, _, _, _, _, true, rfl, .own _, insTy I_Canon c1, I_Canon.me, _, rfl, iteF ?_⟩
    refine ⟨_, rfl, t, C_Canon.C, dt, _, _, rfl, c1, C_Canon.cl, C_Canon.n1, rfl, bk, db, _, rfl, c2, bk, db, r, d, e, n, rfl, c2, fun p hp => ?_⟩
    have s1 := same_new (o := .tup [r, d, e, .int n]) hp
    have tp : SqT K _ p [r, d, e, .int n] := SqT.of (upd_same (H := H) (a := p) (o := .tup [r, d, e, .int n]))
    generalize upd H p (.tup [r, d, e, .int n]) = H1 at s1 tp ⊢
    have k1 := KT.of s1
    refine ⟨_, rfl, q, _, 0, .ref bq, rfl, rfl, SqT.same s1 d1, rfl, ?_⟩
    refine rd_neD (flt_key _ _ _ _) (by decide) (dp_key tp (c3.kt k1)) (dp_key (SqT.same s1 d2) (d3.kt k1)) ⟨_, rfl, iteF ?_⟩
    refine ⟨_, rfl, t, C_Canon.C, dt, _, _, rfl, s1 _ _ c1, C_Canon.cl, C_Canon.n2, rfl, _, rfl, q, _, 1, l', rfl, rfl, SqT.same s1 d1, rfl, rd_eqD (flt_iD _) (by decide) (dp_ints (c4.kt k1)) (dp_ints (d4.kt k1)) ⟨_, rfl, iteT ?_⟩⟩
    refine ⟨_, rfl, t, C_Canon.C, dt, _, _, rfl, s1 _ _ c1, C_Canon.cl, C_Canon.n3, rfl, _, rfl, q, _, 2, u', rfl, rfl, SqT.same s1 d1, rfl, rd_eqD (flt_iD _) (by decide) (dp_ints (c5.kt k1)) (dp_ints (d5.kt k1)) ⟨_, rfl, iteT ?_⟩⟩
    obtain ⟨al, rfl, hl⟩ := c4
    refine ⟨_, rfl, t, C_Canon.C, dt, _, _, rfl, s1 _ _ c1, C_Canon.cl, C_Canon.n2, rfl, _, _, _, _, true, rfl, .ty _, tupTy (SqT.same s1 hl), kit_ty (by decide +kernel), k _ s1⟩
    done
end
end My
set_option maxHeartbeats 4000000
namespace My
open PySem PySem.Spec PyProof.Rows L2 Lcn Sq
open En DcN Ne
def sp__law_source (K : PySem.W.Frag) : Sp := fun vs H Q _ => ∃ (a : Addr) (ns : List Int), vs = [.ref a] ∧ SqL K H a (ns.map V.int) ∧ ∀ (p L : Addr) (H' : Hp), Same H H' → H p = none → Src H' p L ns → Q (.ref p) H'
def sp_law (K : PySem.W.Frag) : Sp := fun vs H Q _ => ∃ (a : Addr) (ns : List Int), vs = [.ref a] ∧ SqL K H a (ns.map V.int) ∧ ∀ H', Q (.bl true) H'
/-- what the law has drawn, ahead of the book -/
def LawM (K : PySem.W.Frag) (a0 a L : Addr) (ns : List Int) (σ : L2.St) (H : Hp) : Prop :=
  ∃ (n l u : Int) (mv : V) (pd De pr : Addr) (ds : List (List Int)) (es : List (Int × List Int)) (rs : List Rw) (o9 o10 o11 o12 o13 o14 o15 o16 o17 o18 o19 o20 o21 o22 o23 o24 o25 : Option V),
    σ = [some (.ref a0), some (.ref a), some (.int n), some (.int l), some (.int u), some mv, some (.ref pd), some (.ref De), some (.ref pr), o9, o10, o11, o12, o13, o14, o15, o16, o17, o18, o19, o20, o21, o22, o23, o24, o25] ∧ (1 ≤ n ∧ n ≤ 3) ∧ (1 ≤ l ∧ l ≤ 4) ∧ (1 ≤ u ∧ u ≤ 3) ∧ Src H a L ns ∧
    LstR K (IntsT K) H pd ds ∧ (ds.length : Int) = l ∧ (∀ d ∈ ds, RD n n d) ∧ LstR K (EndT K) H De es ∧ (es.length : Int) = u ∧ (∀ e ∈ es, EnOk n e) ∧ LstR K (RowT K) H pr rs ∧ rs.length ≤ 8 ∧ (∀ r ∈ rs, SgS l u r) ∧ pd ≠ a ∧ De ≠ a ∧ pr ≠ a
theorem CanAt.kt {K : PySem.W.Frag} {CB CC : Addr} {H H' : Hp} {t : Addr} {R : List Rw} {D : List (List Int)} {E : List (Int × List Int)} {n : Int} (k : KT H H') (h : CanAt K CB CC H t R D E n) : CanAt K CB CC H' t R D E n := by
  obtain ⟨dt, bk, db, r, d, e, l, u, c1, c2, c3, c4, c5⟩ := h
  exact ⟨dt, bk, db, r, d, e, l, u, k _ _ rfl c1, k _ _ rfl c2, c3.kt k, c4.kt k, c5.kt k⟩
theorem DueAt.kt {K : PySem.W.Frag} {H H' : Hp} {q : Addr} {R : List Rw} {D : List (List Int)} {E : List (Int × List Int)} {n : Int} (k : KT H H') (h : DueAt K H q R D E n) : DueAt K H' q R D E n := by
  obtain ⟨b, l, u, r, d, e, d1, d2, d3, d4, d5⟩ := h
  exact ⟨b, l, u, r, d, e, k.tup d1, k.tup d2, d3.kt k, d4.kt k, d5.kt k⟩
theorem rows_le {c : Nat} {rs : List Rw} (h : ∀ r ∈ rs, r.1.length ≤ c ∧ r.2.length ≤ c) : (flat rs).length ≤ rs.length * (2 * c) := flat_len rs fun r hr => by
  have := h r hr
  omega
theorem RowT.s {K : PySem.W.Frag} {H : Hp} {v : V} {r : Rw} (h : RowT K H v r) : RowS K H v r := h.p.s
theorem flat_mv (π τ : Int → Int) (rs : List Rw) : (flat (rs.map (mvR π τ))).length = (flat rs).length := by
  show (flat (rs.map fun r => (r.1.map (mvS π τ), r.2.map (mvS π τ)))).length = _
  rw [flat_map, List.length_map]
theorem lr_app {α : Type} {K : PySem.W.Frag} {R : Hp → V → α → Prop} {H : Hp} {p : Addr} {xs ys : List V} {zs ws : List α} (hp : H p = some (.lst (xs ++ ys))) (l1 : xs.length = zs.length) (l2 : ys.length = ws.length) (f1 : ∀ (i : Nat) (x : V) (z : α), xs[i]? = some x → zs[i]? = some z → R H x z) (f2 : ∀ (i : Nat) (x : V) (z : α), ys[i]? = some x → ws[i]? = some z → R H x z) : LstR K R H p (zs ++ ws) := by
  refine ⟨_, hp, by simp [l1, l2], fun i x z hx hz => ?_⟩
  rcases Nat.lt_or_ge i xs.length with lt | ge
  · rw [List.getElem?_append_left lt] at hx
    rw [List.getElem?_append_left (by omega)] at hz
    exact f1 i x z hx hz
  · rw [List.getElem?_append_right ge] at hx
    rw [List.getElem?_append_right (by omega), ← l1] at hz
    exact f2 _ x z hx hz
theorem tk_at {α : Type} {l : List α} {k i : Nat} {x : α} (h : (l.take k)[i]? = some x) : l[i]? = some x := by
  rw [List.getElem?_take] at h
  split at h
  · exact h
  · cases h
theorem atF_in {n : Int} {to : List Int} (h : Shuf n to) {x : Int} (hx : InR n x) : InR n (atF to x) := h.inr _ (getD_mem (by have := hx.1; have := hx.2; have := h.len; exact ⟨hx.1, by omega⟩))
theorem atF_at {n : Int} {to : List Int} (h : Shuf n to) {x : Int} (hx : InR n x) : to[x.toNat]? = some (atF to x) := by
  have hl : x.toNat < to.length := by have := hx.1; have := hx.2; have := h.len; omega
  unfold atF
  rw [List.getD_eq_getElem?_getD, List.getElem?_eq_getElem hl]
  rfl
theorem atF_inj {n : Int} {to : List Int} (h : Shuf n to) {x y : Int} (hx : InR n x) (hy : InR n y) (e : atF to x = atF to y) : x = y := by
  have a := atF_at h hx
  have b := atF_at h hy
  rw [← e] at b
  have := nd_ix h.nd a b
  have := hx.1
  have := hy.1
  omega
theorem ren_shuf {l u : Int} {to tu : List Int} (h : Shuf l to) (h' : Shuf u tu) : Ren (InR l) (InR u) (atF to) (atF tu) :=
  ⟨fun _ hx => (atF_in h hx).1, fun _ _ hx hy e => atF_inj h hx hy e, fun _ hx => (atF_in h' hx).1, fun _ _ hx hy e => atF_inj h' hx hy e⟩
theorem mv_stands {l u : Int} {to tu : List Int} (h : Shuf l to) (h' : Shuf u tu) (l0 : 0 < l) (u0 : 0 < u) {s : Int} (hs : Stands l u s) : Stands l u (mvS (atF to) (atF tu) s) := by
  have g := st_of hs
  unfold mvS
  by_cases c : 0 ≤ s
  · rw [if_pos c]
    have := atF_in h (g.1 c)
    exact ⟨this.2, by have := this.1; omega⟩
  · rw [if_neg c]
    have := atF_in h' (g.2 c)
    exact ⟨by have := this.1; omega, by have := this.2; omega⟩
/-- ys is zs, led by to -/
def Led {α : Type} (to : List Int) (zs ys : List α) : Prop := ∀ (k : Nat) (t : Int) (z : α), to[k]? = some t → zs[k]? = some z → ys[t.toNat]? = some z
theorem led_at {α : Type} {to : List Int} {zs ys : List α} (h : Shuf zs.length to) (g : Led to zs ys) {x : Int} (hx : InR zs.length x) : ys[(atF to x).toNat]? = zs[x.toNat]? := by
  have hl : x.toNat < zs.length := by have := hx.1; have := hx.2; omega
  rw [List.getElem?_eq_getElem hl]
  exact g _ _ _ (atF_at h hx) (List.getElem?_eq_getElem hl)
theorem led_mem {α : Type} {to : List Int} {zs ys : List α} (h : Shuf zs.length to) (g : Led to zs ys) (l : ys.length = zs.length) {y : α} (hy : y ∈ ys) : y ∈ zs := by
  obtain ⟨j, hj⟩ := List.mem_iff_getElem?.mp hy
  have hlt := (List.getElem?_eq_some_iff.mp hj).1
  have hm := h.all (j : Int) ⟨by omega, by omega⟩
  obtain ⟨k, hk⟩ := List.mem_iff_getElem?.mp hm
  have hkl := (List.getElem?_eq_some_iff.mp hk).1
  have hz : zs[k]? = some (zs[k]'(by have := h.len; omega)) := List.getElem?_eq_getElem _
  have := g k _ _ hk hz
  rw [Int.toNat_natCast, hj] at this
  cases this
  exact List.mem_of_getElem? hz
/-- the ends es', up to their unneeded starts -/
def Like (n : Int) (es es' : List (Int × List Int)) : Prop := ∀ (j : Nat) (e e' : Int × List Int), es[j]? = some e → es'[j]? = some e' → plainF n e' = plainF n e ∧ EnOk n e'
theorem lst_seqs {α : Type} {K : PySem.W.Frag} {R S : Hp → V → α → Prop} {H : Hp} {p : Addr} {zs : List α} (m : ∀ v z, R H v z → S H v z) (h : LstR K R H p zs) : SeqS K S H (.ref p) zs := by
  obtain ⟨xs, h1, h2, h3⟩ := h
  exact ⟨p, xs, rfl, .inl (SqL.of h1), h2, fun i x z a b => m _ _ (h3 i x z a b)⟩
theorem lst_tup {α : Type} {K : PySem.W.Frag} {R : Hp → V → α → Prop} {H : Hp} {b : Addr} {xs : List V} {zs : List α} (t : SqT K H b xs) (l : xs.length = zs.length) (f : ∀ (i : Nat) (x : V) (z : α), xs[i]? = some x → zs[i]? = some z → R H x z) : SeqT K R H (.ref b) zs := ⟨b, xs, rfl, t, l, f⟩
theorem like_snoc {n : Int} {es es' : List (Int × List Int)} {i : Nat} {e0 : Int × List Int} {x0 : Int} (h : Like n es es') (l : es'.length = i) (he : es[i]? = some e0) (hp : plainF n (x0, e0.2) = plainF n e0) (hx : InR n x0) (ho : EnOk n e0) : Like n es (es' ++ [(x0, e0.2)]) := fun j e e' h1 h2 => by
  rcases Nat.lt_or_ge j es'.length with lt | ge
  · rw [List.getElem?_append_left lt] at h2
    exact h j e e' h1 h2
  · rw [List.getElem?_append_right ge] at h2
    have hj : j - es'.length = 0 := by
      have := (List.getElem?_eq_some_iff.mp h2).1
      simp at this
      omega
    have : j = i := by omega
    subst this
    rw [hj] at h2
    cases h2
    rw [he] at h1
    cases h1
    exact ⟨hp, hx, ho.2⟩
/-- what stands after canon and the law's own canon -/
def LawT (K : PySem.W.Frag) (CB CC : Addr) (a0 a L : Addr) (ns : List Int) (n l u : Int) (ds : List (List Int)) (es : List (Int × List Int)) (rs : List Rw) (pd De pr : Addr) (σ : L2.St) (H : Hp) : Prop :=
  ∃ (mv : V) (q t m dq : Addr) (r d e : V) (o12 o13 o14 o15 o16 o17 o18 o19 o20 o21 o22 o23 o24 o25 : Option V),
    σ = [some (.ref a0), some (.ref a), some (.int n), some (.int l), some (.int u), some mv, some (.ref pd), some (.ref De), some (.ref pr), some (.ref q), some (.ref t), some (.ref m), o12, o13, o14, o15, o16, o17, o18, o19, o20, o21, o22, o23, o24, o25] ∧ Src H a L ns ∧
    LstR K (IntsT K) H pd ds ∧ LstR K (EndT K) H De es ∧ LstR K (RowT K) H pr rs ∧ H q = some (.ins CB dq (bookF r d e n)) ∧ BookAt K H rs ds es r d e ∧ CanAt K CB CC H t rs ds es n ∧ DueAt K H m rs ds es n
theorem rg_ints (n : Nat) : rgV 0 (n : Int) = ((List.range n).map fun i => ((i : Nat) : Int)).map V.int := by
  rw [rgI_v]
  refine congrArg _ ?_
  unfold rgI
  simp
theorem sc_law : FnScope ["_law_script", "_law_source_here", "_law_states", "_law_letters", "_law_unknowns", "_law_moves_here", "_law_deeds", "_law_ends", "_law_rows", "_law_book", "_law_told", "_law_due", "_law_numbers", "_law_again", "_law_to_letter", "_law_to_unknown", "_law_moved", "_law_starts", "_law_other", "_law_twin", "_law_left", "_law_right", "_law_start", "_law_goals", "_law_k", "_law_old"] ["_law_script"] (defScope s_law) := ⟨rfl, rfl, rfl, by decide +kernel, rfl, by decide +kernel, by decide +kernel⟩
section
variable {P : Program} {w : World} {K : PySem.W.Frag} {mg : Str → Option Value} {base : Heap}
theorem ok__law_source (D__law_source : Dn K mg "_law_source" s__law_source ["_law_script"]) (T : TxtS mg) : FnOk P w K mg base CX0 1 D__law_source.f D__law_source.fd ["_law_script"] (sp__law_source K) := ok_source D__law_source.F T
theorem ok_law (D_law : Dn K mg "law" s_law ["_law_script"]) (C_Book : BookC K mg) (G_Book : FnOk P w K mg base CX0 5 C_Book.f C_Book.fd ["self", "rows", "deeds", "ends", "states"] (sp_Book_init K C_Book.C)) (C_Canon : CanonC K mg) (G_Canon : FnOk P w K mg base CX0 1 C_Canon.f C_Canon.fd ["self", "book", "letters", "unknowns"] (sp_Canon_init K C_Canon.C))
    (Q_Book : EqC K "Book.__eq__" s_Book_eq C_Book.C) (G_Book_eq : FnOk P w K mg base CX0 1 Q_Book.f Q_Book.fd ["self", "other"] (spEq (BookR K C_Book.C))) (Q_Canon : EqC K "Canon.__eq__" s_Canon_eq C_Canon.C) (G_Canon_eq : FnOk P w K mg base CX0 2 Q_Canon.f Q_Canon.fd ["self", "other"] (spEq (CanonR K C_Book.C C_Canon.C)))
    (N_Book : PySem.W.findIn K (.ref C_Book.C) "__ne__" = some (some (.builtin "object.__ne__"))) (O_Book : PySem.W.mroIn K C_Book.C (.type "object") = some true) (N_Canon : PySem.W.findIn K (.ref C_Canon.C) "__ne__" = some (some (.builtin "object.__ne__"))) (O_Canon : PySem.W.mroIn K C_Canon.C (.type "object") = some true)
    (D_canon : Dn K mg "canon" s_canon ["book"]) (G_canon : FnOk P w K mg base CX0 8 D_canon.f D_canon.fd ["book"] (sp_canon K C_Book.C C_Canon.C)) (D__law_led : Dn K mg "_law_led" s__law_led ["_law_things", "_law_to"]) (G__law_led : FnOk P w K mg base CX0 1 D__law_led.f D__law_led.fd ["_law_things", "_law_to"] (sp__law_led K)) (D__law_take : Dn K mg "_law_take" s__law_take ["_law_source_here", "_law_many"]) (G__law_take : FnOk P w K mg base CX0 1 D__law_take.f D__law_take.fd ["_law_source_here", "_law_many"] (sp__law_take)) (D__law_renamed : Dn K mg "_law_renamed" s__law_renamed ["_law_side_here", "_law_to_letter", "_law_to_unknown"]) (G__law_renamed : FnOk P w K mg base CX0 1 D__law_renamed.f D__law_renamed.fd ["_law_side_here", "_law_to_letter", "_law_to_unknown"] (sp__law_renamed K)) (D__law_shuffled : Dn K mg "_law_shuffled" s__law_shuffled ["_law_source_here", "_law_many"]) (G__law_shuffled : FnOk P w K mg base CX0 2 D__law_shuffled.f D__law_shuffled.fd ["_law_source_here", "_law_many"] (sp__law_shuffled)) (D__law_is_canon : Dn K mg "_law_is_canon" s__law_is_canon ["_law_told", "_law_due"]) (G__law_is_canon : FnOk P w K mg base CX0 3 D__law_is_canon.f D__law_is_canon.fd ["_law_told", "_law_due"] (sp__law_is_canon K C_Book.C C_Canon.C)) (D__law_canon : Dn K mg "_law_canon" s__law_canon ["_law_rows", "_law_deeds", "_law_ends", "_law_states"]) (G__law_canon : FnOk P w K mg base CX0 1 D__law_canon.f D__law_canon.fd ["_law_rows", "_law_deeds", "_law_ends", "_law_states"] (sp__law_canon K)) (D__law_tidy_rows : Dn K mg "_law_tidy_rows" s__law_tidy_rows ["_law_source_here", "_law_letters", "_law_unknowns"]) (G__law_tidy_rows : FnOk P w K mg base CX0 4 D__law_tidy_rows.f D__law_tidy_rows.fd ["_law_source_here", "_law_letters", "_law_unknowns"] (sp__law_tidy_rows K)) (D__law_end_states : Dn K mg "_law_end_states" s__law_end_states ["_law_source_here", "_law_states"]) (G__law_end_states : FnOk P w K mg base CX0 2 D__law_end_states.f D__law_end_states.fd ["_law_source_here", "_law_states"] (sp__law_end_states K)) (D__law_lots : Dn K mg "_law_lots" s__law_lots ["_law_source_here", "_law_moves_here", "_law_many"]) (G__law_lots : FnOk P w K mg base CX0 2 D__law_lots.f D__law_lots.fd ["_law_source_here", "_law_moves_here", "_law_many"] (sp__law_lots K)) (D__law_moves : Dn K mg "_law_moves" s__law_moves ["_law_source_here", "_law_states", "_law_letters"]) (G__law_moves : FnOk P w K mg base CX0 2 D__law_moves.f D__law_moves.fd ["_law_source_here", "_law_states", "_law_letters"] (sp__law_moves K)) (D__law_source : Dn K mg "_law_source" s__law_source ["_law_script"]) (G__law_source : FnOk P w K mg base CX0 1 D__law_source.f D__law_source.fd ["_law_script"] (sp__law_source K)) (T : TB mg) : FnOk P w K mg base CX0 9 D_law.f D_law.fd ["_law_script"] (sp_law K) := by
  refine ok0 D_law.F sc_law (fun vs H Q E h => ?_) (fun cdv A outer s H vs Q E hr h => ?_)
  · obtain ⟨a, ns, rfl, _⟩ := h
    rfl
  · obtain ⟨a0, ns, rfl, hS, k⟩ := h
    refine ⟨_, (pss_cons (ps_set (i := 1) sc_law.nd rfl (by first | exact Or.inl rfl | exact Or.inr rfl) (pe_call G__law_source (hr.mono (by decide)) (by rfl) D__law_source.m D__law_source.F.kp D__law_source.b .nil pass0 (pa_cons (pv 0) pa_nil)))
  (pss_cons (ps_set (i := 2) sc_law.nd rfl (by first | exact Or.inl rfl | exact Or.inr rfl) (pe_op op_add pe_int (pe_call G__law_take (hr.mono (by decide)) (by rfl) D__law_take.m D__law_take.F.kp D__law_take.b .nil pass0 (pa_cons (pv 1) (pa_cons pe_int pa_nil)))))
  (pss_cons (ps_set (i := 3) sc_law.nd rfl (by first | exact Or.inl rfl | exact Or.inr rfl) (pe_op op_add pe_int (pe_call G__law_take (hr.mono (by decide)) (by rfl) D__law_take.m D__law_take.F.kp D__law_take.b .nil pass0 (pa_cons (pv 1) (pa_cons pe_int pa_nil)))))
  (pss_cons (ps_set (i := 4) sc_law.nd rfl (by first | exact Or.inl rfl | exact Or.inr rfl) (pe_op op_add pe_int (pe_call G__law_take (hr.mono (by decide)) (by rfl) D__law_take.m D__law_take.F.kp D__law_take.b .nil pass0 (pa_cons (pv 1) (pa_cons pe_int pa_nil)))))
  (pss_cons (ps_set (i := 5) sc_law.nd rfl (by first | exact Or.inl rfl | exact Or.inr rfl) (pe_call G__law_moves (hr.mono (by decide)) (by rfl) D__law_moves.m D__law_moves.F.kp D__law_moves.b .nil pass0 (pa_cons (pv 1) (pa_cons (pv 2) (pa_cons pe_int pa_nil)))))
  (pss_cons (ps_set (i := 6) sc_law.nd rfl (by first | exact Or.inl rfl | exact Or.inr rfl) (pe_call G__law_lots (hr.mono (by decide)) (by rfl) D__law_lots.m D__law_lots.F.kp D__law_lots.b .nil pass0 (pa_cons (pv 1) (pa_cons (pv 5) (pa_cons (pv 3) pa_nil)))))
  (pss_cons (ps_setLc (i := 7) (own := [(("_law_k" : Str), 24)]) rfl sc_law.nd rfl rfl (sw_true rfl rfl rfl (by decide +kernel)) (pi_range1 (by rfl) T.range (pa_cons (pv 4) pa_nil)) (blkOk_by (own := [(("_law_k" : Str), 24)]) (N := ["_law_script", "_law_source_here", "_law_states", "_law_letters", "_law_unknowns", "_law_moves_here", "_law_deeds", "_law_ends", "_law_rows", "_law_book", "_law_told", "_law_due", "_law_numbers", "_law_again", "_law_to_letter", "_law_to_unknown", "_law_moved", "_law_starts", "_law_other", "_law_twin", "_law_left", "_law_right", "_law_start", "_law_goals", "_law_k", "_law_old"]) (sc := defScope s_law) (by decide +kernel)) (fun _ _ _ _ _ => (pg_name (i := 24) sc_law.nd rfl (Or.inl rfl))) (fun _ _ _ _ _ => pts_nil) (fun _ _ _ _ _ => (pe_call G__law_end_states (hr.mono (by decide)) (by rfl) D__law_end_states.m D__law_end_states.F.kp D__law_end_states.b .nil pass0 (pa_cons (pv 1) (pa_cons (pv 2) pa_nil)))))
  (C8.pss_cut (ps_set (i := 8) sc_law.nd rfl (by first | exact Or.inl rfl | exact Or.inr rfl) (pe_call G__law_tidy_rows (hr.mono (by decide)) (by rfl) D__law_tidy_rows.m D__law_tidy_rows.F.kp D__law_tidy_rows.b .nil pass0 (pa_cons (pv 1) (pa_cons (pv 3) (pa_cons (pv 4) pa_nil)))))
  (pss_cons (ps_set (i := 9) sc_law.nd rfl (by first | exact Or.inl rfl | exact Or.inr rfl) (pe_make C_Book.M G_Book (hr.mono (by decide)) (by rfl) C_Book.m C_Book.b .nil pass0 (pa_cons (pv 8) (pa_cons (pv 6) (pa_cons (pv 7) (pa_cons (pv 2) pa_nil))))))
  (pss_cons (ps_set (i := 10) sc_law.nd rfl (by first | exact Or.inl rfl | exact Or.inr rfl) (pe_call G_canon (hr.mono (by decide)) (by rfl) D_canon.m D_canon.F.kp D_canon.b .nil pass0 (pa_cons (pv 9) pa_nil)))
  (C8.pss_cut (ps_set (i := 11) sc_law.nd rfl (by first | exact Or.inl rfl | exact Or.inr rfl) (pe_call G__law_canon (hr.mono (by decide)) (by rfl) D__law_canon.m D__law_canon.F.kp D__law_canon.b .nil pass0 (pa_cons (pv 8) (pa_cons (pv 6) (pa_cons (pv 7) (pa_cons (pv 2) pa_nil))))))
  (pss_cons (ps_if (PW.pt (pw_or (pt_not (pt_val (pe_call G__law_is_canon (hr.mono (by decide)) (by rfl) D__law_is_canon.m D__law_is_canon.F.kp D__law_is_canon.b .nil pass0 (pa_cons (pv 10) (pa_cons (pv 11) pa_nil))))) (pw_or1 (pt_cmpR (op_neG (rcN_ins (CX := CX0) (E := C8.E0) G_Canon_eq Q_Canon.at_ Q_Canon.fn Q_Canon.b C8.pass0 N_Canon O_Canon) (hr.mono (by decide))) (pv 10) (pe_make C_Canon.M G_Canon (hr.mono (by decide)) (by rfl) C_Canon.m C_Canon.b .nil pass0 (pa_cons (pe_fld (pv 10) rfl) (pa_cons (pe_fld (pv 10) rfl) (pa_cons (pe_fld (pv 10) rfl) pa_nil)))) (nomark _))))) (pss_one (ps_ret pe_bl)) pss_nil)
  (pss_cons (ps_set (i := 12) sc_law.nd rfl (by first | exact Or.inl rfl | exact Or.inr rfl) (pe_tup (pa_cons (pe_tupRg rfl (by rfl) T.tuple_ (prg_1 (by rfl) T.range (pe_callB call_len_seq (by rfl) T.len PySem.boot_len (pa_cons (pe_ix ix_tup (pv 11) pe_int (fun _ _ => rfl)) pa_nil)))) (pa_cons (pe_tupRg rfl (by rfl) T.tuple_ (prg_1 (by rfl) T.range (pe_callB call_len_seq (by rfl) T.len PySem.boot_len (pa_cons (pe_ix ix_tup (pv 11) pe_int (fun _ _ => rfl)) pa_nil)))) pa_nil))))
  (pss_cons (ps_set (i := 13) sc_law.nd rfl (by first | exact Or.inl rfl | exact Or.inr rfl) (pe_call G_canon (hr.mono (by decide)) (by rfl) D_canon.m D_canon.F.kp D_canon.b .nil pass0 (pa_cons (pe_fld (pv 10) rfl) pa_nil)))
  (pss_cons (ps_if (PW.pt (pw_or (pt_cmpR (op_neG (rcN_ins (CX := CX0) (E := C8.E0) G_Book_eq Q_Book.at_ Q_Book.fn Q_Book.b C8.pass0 N_Book O_Book) (hr.mono (by decide))) (pe_fld (pv 13) rfl) (pe_fld (pv 10) rfl) (nomark _)) (pw_or1 (pt_cmpR (op_neD hr.units) (pe_tup (pa_cons (pe_fld (pv 13) rfl) (pa_cons (pe_fld (pv 13) rfl) pa_nil))) (pv 12) (nomark _))))) (pss_one (ps_ret pe_bl)) pss_nil)
  (pss_cons (ps_set (i := 14) sc_law.nd rfl (by first | exact Or.inl rfl | exact Or.inr rfl) (pe_call G__law_shuffled (hr.mono (by decide)) (by rfl) D__law_shuffled.m D__law_shuffled.F.kp D__law_shuffled.b .nil pass0 (pa_cons (pv 1) (pa_cons (pv 3) pa_nil))))
  (pss_cons (ps_set (i := 15) sc_law.nd rfl (by first | exact Or.inl rfl | exact Or.inr rfl) (pe_call G__law_shuffled (hr.mono (by decide)) (by rfl) D__law_shuffled.m D__law_shuffled.F.kp D__law_shuffled.b .nil pass0 (pa_cons (pv 1) (pa_cons (pv 4) pa_nil))))
  (pss_cons (ps_set (i := 16) sc_law.nd rfl (by first | exact Or.inl rfl | exact Or.inr rfl) (pe_lst pa_nil))
  (C8.pss_cut (ps_for PassesOwn.never rfl (pi_list (pe_op op_cat (pv 8) (pe_slice sl_list (pv 8) po_none (po_some pe_int)))) (pg_tup (n := 2) rfl (pgs_cons (pg_name (i := 20) sc_law.nd rfl (by first | exact Or.inl rfl | exact Or.inr rfl)) (pgs_cons (pg_name (i := 21) sc_law.nd rfl (by first | exact Or.inl rfl | exact Or.inr rfl)) pgs_nil))) (pss_one (ps_expr (pe_bm PySem.F.plainAttrs_list PySem.F.slot_list_append PySem.F.type_list_append mt_append (pv 16) (pa_cons (pe_tup (pa_cons (pe_call G__law_renamed (hr.mono (by decide)) (by rfl) D__law_renamed.m D__law_renamed.F.kp D__law_renamed.b .nil pass0 (pa_cons (pv 20) (pa_cons (pv 14) (pa_cons (pv 15) pa_nil)))) (pa_cons (pe_call G__law_renamed (hr.mono (by decide)) (by rfl) D__law_renamed.m D__law_renamed.F.kp D__law_renamed.b .nil pass0 (pa_cons (pv 21) (pa_cons (pv 14) (pa_cons (pv 15) pa_nil)))) pa_nil))) pa_nil)))))
  (pss_cons (ps_set (i := 17) sc_law.nd rfl (by first | exact Or.inl rfl | exact Or.inr rfl) (pe_lst pa_nil))
  (C8.pss_cut (ps_for PassesOwn.never rfl (pi_seq (pv 7)) (pg_tup (n := 2) rfl (pgs_cons (pg_name (i := 22) sc_law.nd rfl (by first | exact Or.inl rfl | exact Or.inr rfl)) (pgs_cons (pg_name (i := 23) sc_law.nd rfl (by first | exact Or.inl rfl | exact Or.inr rfl)) pgs_nil))) (pss_one (ps_expr (pe_bm PySem.F.plainAttrs_list PySem.F.slot_list_append PySem.F.type_list_append mt_append (pv 17) (pa_cons (pe_tup (pa_cons (pe_ifExp (pt_cmpR op_eq (pe_callB call_len_seq (by rfl) T.len PySem.boot_len (pa_cons (pv 23) pa_nil)) (pv 2) (nomark _)) (pe_call G__law_take (hr.mono (by decide)) (by rfl) D__law_take.m D__law_take.F.kp D__law_take.b .nil pass0 (pa_cons (pv 1) (pa_cons (pv 2) pa_nil))) (pv 22)) (pa_cons (pv 23) pa_nil))) pa_nil)))))
  (pss_cons (ps_set (i := 18) sc_law.nd rfl (by first | exact Or.inl rfl | exact Or.inr rfl) (pe_make C_Book.M G_Book (hr.mono (by decide)) (by rfl) C_Book.m C_Book.b .nil pass0 (pa_cons (pv 16) (pa_cons (pe_call G__law_led (hr.mono (by decide)) (by rfl) D__law_led.m D__law_led.F.kp D__law_led.b .nil pass0 (pa_cons (pv 6) (pa_cons (pv 14) pa_nil))) (pa_cons (pe_call G__law_led (hr.mono (by decide)) (by rfl) D__law_led.m D__law_led.F.kp D__law_led.b .nil pass0 (pa_cons (pv 17) (pa_cons (pv 15) pa_nil))) (pa_cons (pv 2) pa_nil))))))
  (pss_cons (ps_set (i := 19) sc_law.nd rfl (by first | exact Or.inl rfl | exact Or.inr rfl) (pe_call G_canon (hr.mono (by decide)) (by rfl) D_canon.m D_canon.F.kp D_canon.b .nil pass0 (pa_cons (pv 18) pa_nil)))
  (pss_cons (ps_if (PW.pt (pw_or (pt_cmpR (op_neG (rcN_ins (CX := CX0) (E := C8.E0) G_Book_eq Q_Book.at_ Q_Book.fn Q_Book.b C8.pass0 N_Book O_Book) (hr.mono (by decide))) (pe_fld (pv 19) rfl) (pe_fld (pv 10) rfl) (nomark _)) (pw_or1 (pt_cmpR (op_neD hr.units) (pe_fld (pv 19) rfl) (pe_callTy call_tupR (by rfl) T.tuple_ (by decide +kernel) (pa_cons (pe_lc (own := [(("_law_old" : Str), 25)]) rfl sc_law.nd (pi_seq (pe_ix ix_tup (pv 11) pe_int (fun _ _ => rfl))) (blkOk_by (own := [(("_law_old" : Str), 25)]) (N := ["_law_script", "_law_source_here", "_law_states", "_law_letters", "_law_unknowns", "_law_moves_here", "_law_deeds", "_law_ends", "_law_rows", "_law_book", "_law_told", "_law_due", "_law_numbers", "_law_again", "_law_to_letter", "_law_to_unknown", "_law_moved", "_law_starts", "_law_other", "_law_twin", "_law_left", "_law_right", "_law_start", "_law_goals", "_law_k", "_law_old"]) (sc := defScope s_law) (by decide +kernel)) (fun _ _ _ _ _ => (pg_name (i := 25) sc_law.nd rfl (Or.inl rfl))) (fun _ _ _ _ _ => pts_nil) (fun _ _ _ _ _ => (pe_ix (ix_listK (K := K) rfl) (pv 14) (pv 25) (fun _ _ => rfl)))) pa_nil)) (nomark _))))) (pss_one (ps_ret pe_bl)) pss_nil)
  (pss_cons (ps_if (pt_cmpR (op_neD hr.units) (pe_fld (pv 19) rfl) (pe_callTy call_tupR (by rfl) T.tuple_ (by decide +kernel) (pa_cons (pe_lc (own := [(("_law_old" : Str), 25)]) rfl sc_law.nd (pi_seq (pe_ix ix_tup (pv 11) pe_int (fun _ _ => rfl))) (blkOk_by (own := [(("_law_old" : Str), 25)]) (N := ["_law_script", "_law_source_here", "_law_states", "_law_letters", "_law_unknowns", "_law_moves_here", "_law_deeds", "_law_ends", "_law_rows", "_law_book", "_law_told", "_law_due", "_law_numbers", "_law_again", "_law_to_letter", "_law_to_unknown", "_law_moved", "_law_starts", "_law_other", "_law_twin", "_law_left", "_law_right", "_law_start", "_law_goals", "_law_k", "_law_old"]) (sc := defScope s_law) (by decide +kernel)) (fun _ _ _ _ _ => (pg_name (i := 25) sc_law.nd rfl (Or.inl rfl))) (fun _ _ _ _ _ => pts_nil) (fun _ _ _ _ _ => (pe_ix (ix_listK (K := K) rfl) (pv 15) (pv 25) (fun _ _ => rfl)))) pa_nil)) (nomark _)) (pss_one (ps_ret pe_bl)) pss_nil)
  (pss_one (ps_ret (pe_and (pe_cmpR (op_eqD hr.units) (pe_fld (pv 9) rfl) (pe_callTy call_tupR (by rfl) T.tuple_ (by decide +kernel) (pa_cons (pv 8) pa_nil)) (nomark _)) (pe_and (pe_cmpR (op_eqD hr.units) (pe_fld (pv 9) rfl) (pe_callTy call_tupR (by rfl) T.tuple_ (by decide +kernel) (pa_cons (pv 7) pa_nil)) (nomark _)) (pe_one (pe_cmpR (op_eqD hr.units) (pe_fld (pv 18) rfl) (pe_callTy call_tupR (by rfl) T.tuple_ (by decide +kernel) (pa_cons (pv 16) pa_nil)) (nomark _)))))))))))))))))))))))))))))))), ?_⟩
    refine ⟨_, rfl, a0, ns, rfl, hS, fun a L H1 s1 na S1 => ?_⟩
    refine ⟨_, rfl, a, L, ns, 3, rfl, S1, by decide, by decide, fun r2 H2 hr2 e2 => ⟨_, _, rfl, rfl, ?_⟩⟩
    have S2 := e2.on S1
    refine ⟨_, rfl, a, L, ns, 4, rfl, S2, by decide, by decide, fun r3 H3 hr3 e3 => ⟨_, _, rfl, rfl, ?_⟩⟩
    have S3 := e3.on S2
    refine ⟨_, rfl, a, L, ns, 3, rfl, S3, by decide, by decide, fun r4 H4 hr4 e4 => ⟨_, _, rfl, rfl, ?_⟩⟩
    have S4 := e4.on S3
    obtain ⟨n0, n1⟩ : 1 ≤ (1 + r2) ∧ (1 + r2) ≤ 3 := by have := hr2.1; have := hr2.2; omega
    obtain ⟨l0, l1⟩ : 1 ≤ (1 + r3) ∧ (1 + r3) ≤ 4 := by have := hr3.1; have := hr3.2; omega
    obtain ⟨u0, u1⟩ : 1 ≤ (1 + r4) ∧ (1 + r4) ≤ 3 := by have := hr4.1; have := hr4.2; omega
    refine ⟨_, rfl, _, rfl, a, L, ns, (1 + r2), 2, rfl, S4, by omega, by omega, by decide, by decide, fun mv H5 zs e5 m2 m1' m3 => ?_⟩
    have S5 := e5.on S4
    refine ⟨_, rfl, _, rfl, _, rfl, a, L, ns, mv, (1 + r2), 2, (1 + r3), zs, rfl, S5, m2, m1', by omega, by omega, by decide, by decide, m3, by omega, by omega, fun pd H6 ds e6 n6 d1 d2 d3 => ?_⟩
    have S6 := e6.on S5
    refine ⟨_, rfl, (1 + r4), rfl, mlo (by omega), m62 (by omega), fun De hDe => ?_⟩
    refine lc_fr (R := fun H _ y => ∃ z, EndT K H y z ∧ EnOk (1 + r2) z) walk_at_range (tnz (by omega)) (fun _ _ _ _ k ⟨z, h, p⟩ => ⟨z, h.kt k, p⟩) gdS hDe S6 (fun _ _ => trivial) (fun i x H' Q' hi hx e q => ⟨rfl, _, rfl, _, rfl, a, L, ns, (1 + r2), rfl, e.on S6, by omega, by omega, fun v H9 en e9 t9 o9 => q _ _ e9 ⟨en, t9, o9⟩⟩) (fun H7 e7 got => ?_)
    obtain ⟨es, h1, h2, ye, gE1, gE2, gE3⟩ := got_pick (S := fun H y z => EndT K H y z) (P := EnOk (1 + r2)) got
    have lE : LstR K (EndT K) H7 De es := ⟨ye, gE1, gE2, fun i x z hx hz => gE3 i x hx z hz⟩
    have eu : (es.length : Int) = (1 + r4) := by omega
    have S7 := e7.on S6
    have nDe : De ≠ a := Ne.symm (S6.ne hDe)
    refine ⟨LawM K a0 a L ns, ?_, ?_⟩
    · refine ⟨_, rfl, _, rfl, _, rfl, a, L, ns, 1 + r3, 1 + r4, rfl, S7, by omega, by omega, by omega, by omega, fun pr H8 rs e8 npr lr lr8 sg => ?_⟩
      exact ⟨1 + r2, 1 + r3, 1 + r4, mv, pd, De, pr, ds, es, rs, _, _, _, _, _, _, _, _, _, _, _, _, _, _, _, _, _, rfl, ⟨n0, n1⟩, ⟨l0, l1⟩, ⟨u0, u1⟩, e8.on S7, d1.fs kI (e7.trans e8) (Ne.symm (S5.ne n6)), d2, d3, lE.fs kE e8 nDe, eu, h2, lr, lr8, sg, Ne.symm (S5.ne n6), nDe, Ne.symm (S7.ne npr)⟩
    rintro σ H ⟨n, l, u, mv, pd, De, pr, ds, es, rs, o9, o10, o11, o12, o13, o14, o15, o16, o17, o18, o19, o20, o21, o22, o23, o24, o25, rfl, ⟨n0, n1⟩, ⟨l0, l1⟩, ⟨u0, u1⟩, S, hpd, dl, dr, hDe, el, er, hpr, rl, rg, npd, nDe, npr⟩
    have ok : BookOk rs ds es n := by
      refine ⟨n0, fun d hd => ?_, fun e he => ?_, fun r hr => ?_, by omega, by omega, by omega⟩
      · obtain ⟨q1, q2⟩ := dr d hd
        exact ⟨q1, by omega, q2⟩
      · obtain ⟨q1, q2, q3, q4⟩ := er e he
        exact ⟨q1, by omega, q3, q4⟩
      · obtain ⟨q1, q2, q3, q4⟩ := rg r hr
        rw [dl, el]
        exact ⟨by omega, by omega, q1, q2⟩
    have fR : (flat rs).length < 500 := by
      have := rows_le (c := 4) (rs := rs) fun r hr => (rg r hr).2.2
      omega
    obtain ⟨xpr, pr1, pr2, pr3⟩ := id hpr
    obtain ⟨xpd, pd1, pd2, pd3⟩ := id hpd
    obtain ⟨xDe, De1, De2, De3⟩ := id hDe
    refine ⟨_, rfl, _, rfl, _, rfl, _, rfl, fun q dq hq hdq ndq => ?_⟩
    have sM : Same H (upd (upd H dq (.own q)) q (.ins C_Book.C dq [])) := fun b u h => by
      rw [upd_ne (ne_of_none h hq), upd_ne (ne_of_none h hdq)]
      exact h
    refine ⟨q, _, _, _, n, dq, rs, ds, es, rfl, upd_same, ⟨pr, xpr, rfl, .inl (SqL.of (sM _ _ pr1)), pr2, fun i x z h1 h2 => RowT.s ((pr3 i x z h1 h2).kt (KT.of sM))⟩, ⟨pd, xpd, rfl, .inl (SqL.of (sM _ _ pd1)), pd2, fun i x z h1 h2 => ((pd3 i x z h1 h2).kt (KT.of sM)).s⟩, ⟨De, xDe, rfl, .inl (SqL.of (sM _ _ De1)), De2, fun i x z h1 h2 => ((De3 i x z h1 h2).kt (KT.of sM)).p⟩, ok, fun r d e H1 bt hs hA => ⟨rfl, ?_⟩⟩
    have s1 := same_make hq hdq bt
    refine ⟨_, rfl, q, dq, r, d, e, n, rs, ds, es, rfl, hs, hA, ok, fR, fun t H2 s2 nt hC => ?_⟩
    refine ⟨LawT K C_Book.C C_Canon.C a0 a L ns n l u ds es rs pd De pr, ?_, ?_⟩
    · have s12 := s1.trans s2
      refine ⟨_, rfl, _, rfl, _, rfl, _, rfl, pr, pd, De, n, rs, ds, es, rfl, LstR.same kRK s12 hpr, LstR.same kIK s12 hpd, LstR.same kE s12 hDe, by omega, fR, fun r hr => ⟨(ok.r r hr).2.2.1, (ok.r r hr).2.2.2⟩, fun m H3 s3 hD => ?_⟩
      have s13 := s12.trans s3
      have s23 := s2.trans s3
      have S1 := (fs_same (a := a) (L := L) (ns := ns) s1).on S
      have S2 := (fs_same (a := a) (L := L) (ns := ns) s2).on S1
      refine ⟨mv, q, t, m, dq, r, d, e, _, _, _, _, _, _, _, _, _, _, _, _, _, _, rfl, (fs_same (a := a) (L := L) (ns := ns) s13).on S, LstR.same kIK s13 hpd, LstR.same kE s13 hDe, LstR.same kRK s13 hpr, s23 _ _ hs, hA.kt (KT.of s23), hC.kt (KT.of s3), hD⟩
    rintro σ3 H3 ⟨mv, q3, t, m, dq3, r3, d3, e3, o12, o13, o14, o15, o16, o17, o18, o19, o20, o21, o22, o23, o24, o25, rfl, S3, hpd, hDe, hpr, B3, hA3, hC, hD⟩
    obtain ⟨dt, bk, db, r, d, e, l', u', c1, c2, c3, c4, c5⟩ := id hC
    obtain ⟨bq, lq, uq, rq, dq', eq, d1, d2, d3, d4, d5⟩ := id hD
    refine ⟨_, rfl, _, rfl, t, m, n, rs, ds, es, rfl, hC, hD, fun H4 s4 => ⟨_, rfl, iteF ?_⟩⟩
    have k4 := KT.of s4
    have c14 := s4 _ _ c1
    refine ⟨_, rfl, _, rfl, t, C_Canon.C, dt, _, _, rfl, c14, C_Canon.cl, C_Canon.n1, rfl, _, rfl, t, C_Canon.C, dt, _, _, rfl, c14, C_Canon.cl, C_Canon.n2, rfl, _, rfl, t, C_Canon.C, dt, _, _, rfl, c14, C_Canon.cl, C_Canon.n3, rfl, fun c dc hc hdc ndc => ?_⟩
    refine ⟨c, _, _, _, dc, rfl, upd_same, fun H5 bt5 hs5 => ⟨rfl, ?_⟩⟩
    have s45 := same_make hc hdc bt5
    have s35 := s4.trans s45
    have k35 := KT.of s35
    refine ⟨⟨t, c, dt, dc, _, _, rfl, rfl, s45 _ _ c14, hs5, ⟨dt, dc, bk, bk, _, _, _, _, _, _, s45 _ _ c14, hs5, ⟨db, db, _, _, _, _, _, _, _, _, _, _, s35 _ _ c2, s35 _ _ c2, c3.kt k35, c3.kt k35⟩, c4.kt k35, c4.kt k35, c5.kt k35, c5.kt k35⟩⟩, fun H6 s56 => ⟨_, rfl, iteF ?_⟩⟩
    have s36 : Same H3 H6 := s35.trans s56
    obtain ⟨alq, rfl, hlq⟩ := id d4
    obtain ⟨auq, rfl, huq⟩ := id d5
    have ll := (let_len rs).1
    have lu := (let_len rs).2
    have fk := flat_kept rs
    refine ⟨_, rfl, m, _, 1, _, rfl, rfl, SqT.same s36 d1, rfl, alq, _, rfl, .inr (SqT.same s36 hlq), _, rfl, rgOk (by rw [List.length_map]; omega) (by rw [List.length_map]; omega), fun q1 hq1 => ?_⟩
    have s67 := same_new (o := .tup (rgV 0 ((((cLet rs).map V.int).length : Nat) : Int))) hq1
    have t7 := SqT.of (K := K) (upd_same (H := H6) (a := q1) (o := .tup (rgV 0 ((((cLet rs).map V.int).length : Nat) : Int))))
    generalize upd H6 q1 (.tup (rgV 0 ((((cLet rs).map V.int).length : Nat) : Int))) = H7 at s67 t7 ⊢
    have s37 := s36.trans s67
    refine ⟨_, rfl, m, _, 2, _, rfl, rfl, SqT.same s37 d1, rfl, auq, _, rfl, .inr (SqT.same s37 huq), _, rfl, rgOk (by rw [List.length_map]; omega) (by rw [List.length_map]; omega), fun q2 hq2 => ?_⟩
    have s78 := same_new (o := .tup (rgV 0 ((((cUnk rs).map V.int).length : Nat) : Int))) hq2
    have t8 := SqT.of (K := K) (upd_same (H := H7) (a := q2) (o := .tup (rgV 0 ((((cUnk rs).map V.int).length : Nat) : Int))))
    generalize upd H7 q2 (.tup (rgV 0 ((((cUnk rs).map V.int).length : Nat) : Int))) = H8 at s78 t8 ⊢
    refine ⟨(by show 2 ≤ sizeLine; decide), fun QN hq3 => ?_⟩
    have s89 := same_new (o := .tup [.ref q1, .ref q2]) hq3
    have t9 := SqT.of (K := K) (upd_same (H := H8) (a := QN) (o := .tup [.ref q1, .ref q2]))
    generalize upd H8 QN (.tup [.ref q1, .ref q2]) = H9 at s89 t9 ⊢
    have s39 : Same H3 H9 := (s37.trans s78).trans s89
    have t79 := SqT.same (s78.trans s89) t7
    have t89 := SqT.same s89 t8
    rw [List.length_map, rg_ints] at t79 t89
    have hf4 : (flat (cRows rs)).length < 500 := by
      have : (flat (cRows rs)).length = (flat (keptF rs)).length := flat_mv _ _ _
      omega
    refine ⟨_, rfl, t, C_Canon.C, dt, _, _, rfl, s39 _ _ c1, C_Canon.cl, C_Canon.n1, rfl, bk, db, r, d, e, n, cRows rs, cDeeds ds rs, cEnds n es rs, rfl, s39 _ _ c2, c3.kt (KT.of s39), canon_ok ok (by omega), hf4, fun t2 HA sA nt2 hC2 => ?_⟩
    have s3A := s39.trans sA
    obtain ⟨dt2, bk2, db2, r2, d2', e2, l2, u2, g1, g2, g3, g4, g5⟩ := id hC2
    obtain ⟨id1, id2, id3⟩ := idem rs
    rw [id1, deeds_idem, ends_idem] at g3
    rw [id2] at g4
    rw [id3] at g5
    refine ⟨_, rfl, t2, C_Canon.C, dt2, _, _, rfl, g1, C_Canon.cl, C_Canon.n1, rfl, _, rfl, t, C_Canon.C, dt, _, _, rfl, s3A _ _ c1, C_Canon.cl, C_Canon.n1, rfl, ⟨ins_of ⟨db2, db, _, _, _, _, _, _, _, _, _, _, g2, s3A _ _ c2, g3, c3.kt (KT.of s3A)⟩, fun HB sB => ⟨_, rfl, iteF ?_⟩⟩⟩
    have kB : KT HA HB := KT.of sB
    have g1B : HB t2 = _ := sB _ _ g1
    refine ⟨_, rfl, t2, C_Canon.C, dt2, _, _, rfl, g1B, C_Canon.cl, C_Canon.n2, rfl, _, rfl, t2, C_Canon.C, dt2, _, _, rfl, g1B, C_Canon.cl, C_Canon.n3, rfl, (by show 2 ≤ sizeLine; decide), fun qc hqc => ?_⟩
    have sC := same_new (o := .tup [l2, u2]) hqc
    have tC' := SqT.of (K := K) (upd_same (H := HB) (a := qc) (o := .tup [l2, u2]))
    generalize upd HB qc (.tup [l2, u2]) = HC at sC tC' ⊢
    have sBC := sA.trans (sB.trans sC)
    have kC := KT.of (sB.trans sC)
    refine ⟨_, rfl, rd_neD (n := 2) (flt_tup (flta_cons (flt_iD _) (flta_cons (flt_iD _) flta_nil))) (by decide) (.tup tC' (.cons (dp_ints (g4.kt kC)) (.cons (dp_ints (g5.kt kC)) .nil))) (.tup (SqT.same sBC t9) (.cons (dp_ints ⟨q1, rfl, SqT.same sBC t79⟩) (.cons (dp_ints ⟨q2, rfl, SqT.same sBC t89⟩) .nil))) ⟨_, rfl, iteF ?_⟩⟩
    have s3C : Same H3 HC := s3A.trans (sB.trans sC)
    have SC : Src HC a L ns := (fs_same (a := a) (L := L) (ns := ns) s3C).on S3
    refine ⟨_, rfl, _, rfl, a, L, ns, l, rfl, SC, by omega, by omega, fun p1 HD to e1 np1 h1 sh1 => ?_⟩
    have SD := e1.on SC
    refine ⟨_, rfl, _, rfl, a, L, ns, u, rfl, SD, by omega, by omega, fun p2 HE tu e2 np2 h2 sh2 => ?_⟩
    have n1a : p1 ≠ a := Ne.symm (SC.ne np1)
    have n2a : p2 ≠ a := Ne.symm (SD.ne np2)
    have h1E := e2.keep _ _ n1a h1
    have e3E : Fs a L ns H3 HE := (fs_same (a := a) (L := L) (ns := ns) s3C).trans (e1.trans e2)
    have prE := hpr.fs kRK e3E npr
    have l1 := sh1.len
    have l2' := sh2.len
    have sg := fun r hr => (rg r hr)
    refine ⟨(by show 0 ≤ sizeLine; decide), fun M hM => ⟨fun σ' H' => ∃ (o17 o18 o19 o20 o21 o22 o23 o24 o25 : Option V), σ' = [some (.ref a0), some (.ref a), some (.int n), some (.int l), some (.int u), some mv, some (.ref pd), some (.ref De), some (.ref pr), some (.ref q3), some (.ref t), some (.ref m), some (.ref QN), some (.ref t2), some (.ref p1), some (.ref p2), some (.ref M), o17, o18, o19, o20, o21, o22, o23, o24, o25] ∧ Same HE H' ∧ LstR K (RowT K) H' M ((rs ++ rs.take 2).map (mvR (atF to) (atF tu))), ?_, ?_⟩⟩
    · obtain ⟨yr, y1, y2, y3⟩ := id prE
      have sM0 := same_new (o := .lst []) hM
      refine ⟨_, rfl, _, rfl, _, rfl, pr, yr, rfl, SqL.of (sM0 _ _ y1), fun pc hpc => ?_⟩
      have e2c : cutV yr none (some (2 : Int)) = yr.take 2 := cut_take (k := 2)
      rw [e2c]
      have s1' := same_new (o := .lst (yr.take 2)) hpc
      have big : sizeLine = 16777216 := by decide
      refine ⟨pr, pc, _, _, rfl, rfl, s1' _ _ (sM0 _ _ y1), upd_same, by rw [List.length_take]; omega, fun pw hpw => ⟨pw, rfl, ⟨_, SqL.of upd_same⟩, ?_⟩⟩
      have s2' := same_new (o := .lst (yr ++ yr.take 2)) hpw
      have sE := sM0.trans (s1'.trans s2')
      have upw := upd_same (H := upd (upd HE M (.lst [])) pc (.lst (yr.take 2))) (a := pw) (o := .lst (yr ++ yr.take 2))
      have uM := (s1'.trans s2') _ _ (upd_same (H := HE) (a := M) (o := .lst []))
      generalize upd (upd (upd HE M (.lst [])) pc (.lst (yr.take 2))) pw (.lst (yr ++ yr.take 2)) = HF at sE upw uM ⊢
      have pwM : pw ≠ M := fun z => by
        rw [z, (s1') _ _ upd_same] at hpw
        cases hpw
      have lw : LstR K (RowT K) HF pw (rs ++ rs.take 2) := lr_app upw y2 (by rw [List.length_take, List.length_take, y2]) (fun i x z a b => (y3 i x z a b).kt (KT.of sE)) (fun i x z a b => (y3 i x z (tk_at a) (tk_at b)).kt (KT.of sE))
      obtain ⟨yw, w1, w2, w3⟩ := lw
      rw [upw] at w1
      cases w1
      have l10 : (rs ++ rs.take 2).length ≤ 10 := by
        rw [List.length_append, List.length_take]
        omega
      refine for_it (walk_list (K := K) (a := pw) (xs := yr ++ yr.take 2)) (fun i σ H' => ∃ (o17 o18 o19 o20 o21 o22 o23 o24 o25 : Option V), σ = [some (.ref a0), some (.ref a), some (.int n), some (.int l), some (.int u), some mv, some (.ref pd), some (.ref De), some (.ref pr), some (.ref q3), some (.ref t), some (.ref m), some (.ref QN), some (.ref t2), some (.ref p1), some (.ref p2), some (.ref M), o17, o18, o19, o20, o21, o22, o23, o24, o25] ∧ (Same HE H' ∧ KT HF H') ∧ H' pw = some (.lst (yr ++ yr.take 2)) ∧ H' p1 = some (.lst (to.map V.int)) ∧ H' p2 = some (.lst (tu.map V.int)) ∧ LstR K (RowT K) H' M (((rs ++ rs.take 2).map (mvR (atF to) (atF tu))).take i)) ⟨_, _, _, _, _, _, _, _, _, rfl, ⟨sE, KT.refl _⟩, upw, sE _ _ h1E, sE _ _ h2, ⟨[], uM, rfl, by simp⟩⟩ (fun i σ H' _ p => by
        obtain ⟨_, _, _, _, _, _, _, _, _, _, _, h, _⟩ := p
        exact SqL.of h) (fun i x σ H4' H5' hi p y => ?_) (fun σ H4' p => ?_)
      · obtain ⟨rfl, hx⟩ := y
        obtain ⟨o17, o18, o19, o20, o21, o22, o23, o24, o25, rfl, ⟨sx, kx⟩, hw, h1x, h2x, ⟨xM, m1, m2, m3⟩⟩ := p
        obtain ⟨r', hr2⟩ := seq_at w2 hx
        have hr3 : r' ∈ rs := (List.mem_append.mp (List.mem_of_getElem? hr2)).elim id List.mem_of_mem_take
        obtain ⟨b1, b2, b3, b4⟩ := rg r' hr3
        obtain ⟨ar, x1, y1', rfl, hrow, hx1, hy1⟩ := (w3 i x r' hx hr2).kt kx
        have lM : xM.length < 1000 := by
          have h1 : xM.length ≤ ((rs ++ rs.take 2).map (mvR (atF to) (atF tu))).length := by
            rw [m2, List.length_take]
            exact Nat.min_le_right _ _
          rw [List.length_map] at h1
          omega
        refine ⟨ar, _, rfl, hrow, rfl, _, _, rfl, _, _, rfl, rfl, _, rfl, .inl ⟨rfl, _, SqL.of m1⟩, _, rfl, _, rfl, _, rfl, x1, p1, p2, r'.1, to, tu, rfl, hx1, h1x, h2x, by omega, fun s hs => by rw [l1, l2']; exact b1 s hs, fun v1 H6' s6 t6 => ?_⟩
        refine ⟨_, rfl, _, rfl, _, rfl, y1', p1, p2, r'.2, to, tu, rfl, hy1.kt (KT.of s6), s6 _ _ h1x, s6 _ _ h2x, by omega, fun s hs => by rw [l1, l2']; exact b2 s hs, fun v2 H7' s7 t7 => ?_⟩
        refine ⟨(by show 2 ≤ sizeLine; decide), fun qq hqq => ?_⟩
        have sq := same_new (o := .tup [v1, v2]) hqq
        have s5z := s6.trans (s7.trans sq)
        refine ⟨M, _, _, rfl, rfl, s5z _ _ m1, k1000 lM, ?_⟩
        have kM := KT.lst (ys := xM ++ [.ref qq]) (s5z _ _ m1)
        have hMn : ∀ {b : Addr} {o : HO}, HE b = some o → b ≠ M := fun h => ne_of_none h hM
        refine ⟨_, _, _, _, _, _, _, _, _, rfl, ⟨same_upd (sx.trans s5z) hM, (kx.trans (KT.of s5z)).trans kM⟩, by rw [upd_ne pwM]; exact s5z _ _ hw, by rw [upd_ne (hMn h1E)]; exact s5z _ _ h1x, by rw [upd_ne (hMn h2)]; exact s5z _ _ h2x, ?_⟩
        have hc1 : ((rs ++ rs.take 2).map (mvR (atF to) (atF tu))).take (i + 1) = ((rs ++ rs.take 2).map (mvR (atF to) (atF tu))).take i ++ [mvR (atF to) (atF tu) r'] := by
          have e : ((rs ++ rs.take 2).map (mvR (atF to) (atF tu)))[i]? = some (mvR (atF to) (atF tu) r') := by
            rw [List.getElem?_map, hr2]
            rfl
          obtain ⟨g1, g2⟩ := List.getElem?_eq_some_iff.mp e
          rw [List.take_succ_eq_append_getElem g1, g2]
        rw [hc1]
        exact lst_snoc kRK (s5z _ _ m1) m2 (fun j x z a b => (m3 j x z a b).kt (KT.of s5z)) ⟨qq, _, _, rfl, SqT.of upd_same, t6.kt (KT.of (s7.trans sq)), t7.kt (KT.of sq)⟩
      · obtain ⟨o17, o18, o19, o20, o21, o22, o23, o24, o25, rfl, ⟨sx, kx⟩, hw, h1x, h2x, g⟩ := p
        rw [w2, ← List.length_map (f := mvR (atF to) (atF tu)), List.take_length] at g
        exact ⟨_, _, _, _, _, _, _, _, _, rfl, sx, g⟩
    rintro σ4 HF ⟨o17, o18, o19, o20, o21, o22, o23, o24, o25, rfl, sEF, lM⟩
    have SE := e2.on SD
    have e3F : Fs a L ns H3 HF := e3E.trans (fs_same sEF)
    have SF : Src HF a L ns := e3F.on S3
    have DeF := hDe.fs kE e3F nDe
    have pdF := hpd.fs kIK e3F npd
    have prF := hpr.fs kRK e3F npr
    have h1F := sEF _ _ h1E
    have h2F := sEF _ _ h2
    have nMa : M ≠ a := Ne.symm (SE.ne hM)
    refine ⟨(by show 0 ≤ sizeLine; decide), fun N hN => ⟨fun σ' H' => ∃ (es' : List (Int × List Int)) (o18 o19 o20 o21 o22 o23 o24 o25 : Option V), σ' = [some (.ref a0), some (.ref a), some (.int n), some (.int l), some (.int u), some mv, some (.ref pd), some (.ref De), some (.ref pr), some (.ref q3), some (.ref t), some (.ref m), some (.ref QN), some (.ref t2), some (.ref p1), some (.ref p2), some (.ref M), some (.ref N), o18, o19, o20, o21, o22, o23, o24, o25] ∧ Fs a L ns HF H' ∧ LstR K (EndT K) H' N es' ∧ es'.length = es.length ∧ Like n es es', ?_, ?_⟩⟩
    · obtain ⟨yr, y1, y2, y3⟩ := id DeF
      have sN := same_new (o := .lst []) hN
      have nNa : N ≠ a := Ne.symm (SF.ne hN)
      refine seq_rd sN (fun _ q => ⟨_, rfl, q⟩) (.inl (SqL.of y1)) fun J Gw w1 gw => ?_
      refine for_it w1 (fun i σ H' => ∃ (es' : List (Int × List Int)) (o18 o19 o20 o21 o22 o23 o24 o25 : Option V), σ = [some (.ref a0), some (.ref a), some (.int n), some (.int l), some (.int u), some mv, some (.ref pd), some (.ref De), some (.ref pr), some (.ref q3), some (.ref t), some (.ref m), some (.ref QN), some (.ref t2), some (.ref p1), some (.ref p2), some (.ref M), some (.ref N), o18, o19, o20, o21, o22, o23, o24, o25] ∧ Fs a L ns HF H' ∧ LstR K (EndT K) H' N es' ∧ es'.length = i ∧ Like n es es') ⟨[], _, _, _, _, _, _, _, _, rfl, fs_same sN, lst_nil, rfl, fun j e e' _ h => by simp at h⟩ (fun i σ H' _ p => gw H' fun o h => by
        obtain ⟨_, _, _, _, _, _, _, _, _, _, e, _⟩ := p
        exact e.keep _ _ nDe h) (fun i x σ H4' H5' hi p y => ?_) (fun σ H4' p => ?_)
      · obtain ⟨rfl, hx⟩ := y
        obtain ⟨es', o18, o19, o20, o21, o22, o23, o24, o25, rfl, e6, ⟨xN, n1', n2', n3'⟩, le6, like6⟩ := p
        obtain ⟨e0, he0⟩ := seq_at y2 hx
        have ho := er e0 (List.mem_of_getElem? he0)
        obtain ⟨ar, y', rfl, ha, ⟨g, rfl, hg⟩⟩ := (y3 i x e0 hx he0).kt e6.kt
        have S5' := e6.on SF
        have lN : xN.length < 1000 := by omega
        have fin : ∀ {x0 : Int} {Hx : Hp} {qq : Addr}, Fs a L ns H5' Hx → Hx qq = none → plainF n (x0, e0.2) = plainF n e0 → InR n x0 → ∃ (es' : List (Int × List Int)) (p18 p19 p20 p21 p22 p23 p24 p25 : Option V), ([some (.ref a0), some (.ref a), some (.int n), some (.int l), some (.int u), some mv, some (.ref pd), some (.ref De), some (.ref pr), some (.ref q3), some (.ref t), some (.ref m), some (.ref QN), some (.ref t2), some (.ref p1), some (.ref p2), some (.ref M), some (.ref N), o18, o19, o20, o21, some (.int e0.1), some (.ref g), o24, o25] : L2.St) = [some (.ref a0), some (.ref a), some (.int n), some (.int l), some (.int u), some mv, some (.ref pd), some (.ref De), some (.ref pr), some (.ref q3), some (.ref t), some (.ref m), some (.ref QN), some (.ref t2), some (.ref p1), some (.ref p2), some (.ref M), some (.ref N), p18, p19, p20, p21, p22, p23, p24, p25] ∧ Fs a L ns HF (upd (upd Hx qq (.tup [.int x0, .ref g])) N (.lst (xN ++ [.ref qq]))) ∧ LstR K (EndT K) (upd (upd Hx qq (.tup [.int x0, .ref g])) N (.lst (xN ++ [.ref qq]))) N es' ∧ es'.length = i + 1 ∧ Like n es es' := @fun x0 Hx qq eX hq hp hx => by
          have sq := same_new (o := .tup [.int x0, .ref g]) hq
          have eq := eX.trans (fs_same (a := a) (L := L) (ns := ns) sq)
          refine ⟨_, _, _, _, _, _, _, _, _, rfl, fs_upd SF (e6.trans eq) hN, lst_snoc (z := (x0, e0.2)) kE (eq.keep _ _ nNa n1') n2' (fun j x z a b => (n3' j x z a b).kt eq.kt) ⟨_, _, rfl, SqT.of upd_same, ⟨g, rfl, (KT.of sq).tup (eX.kt.tup hg)⟩⟩, by rw [List.length_append, le6]; rfl, like_snoc like6 le6 he0 hp hx ho⟩
        refine ⟨ar, _, rfl, ha, rfl, _, _, rfl, _, _, rfl, rfl, _, rfl, .inl ⟨rfl, _, SqL.of n1'⟩, ?_⟩
        refine ⟨_, rfl, g, _, rfl, .inr hg, _, rfl, rfl, _, rfl, ite2 (fun c => ?_) (fun c => ?_)⟩
        · have ee : ((e0.2.length : Nat) : Int) = n := by
            have := int_eq c
            rw [List.length_map] at this
            exact this
          refine ⟨_, rfl, _, rfl, a, L, ns, n, rfl, S5', by omega, m200 (by omega), fun r' H6' hr' e' => ⟨_, rfl, (by show 2 ≤ sizeLine; decide), fun qq hqq => ?_⟩⟩
          have sq := same_new (o := .tup [.int r', .ref g]) hqq
          refine ⟨N, _, _, rfl, rfl, sq _ _ (e'.keep _ _ nNa n1'), k1000 lN, fin e' hqq ?_ hr'⟩
          unfold plainF
          rw [if_pos ee, if_pos ee]
        · refine ⟨_, rfl, _, rfl, (by show 2 ≤ sizeLine; decide), fun qq hqq => ?_⟩
          have sq := same_new (o := .tup [.int e0.1, .ref g]) hqq
          exact ⟨N, _, _, rfl, rfl, sq _ _ n1', k1000 lN, fin (fs_same (Same.refl _)) hqq rfl ho.1⟩
      · obtain ⟨es', o18, o19, o20, o21, o22, o23, o24, o25, rfl, e6, n6, le6, like6⟩ := p
        exact ⟨es', _, _, _, _, _, _, _, _, rfl, e6, n6, by omega, like6⟩
    rintro σ5 HG ⟨es', o18, o19, o20, o21, o22, o23, o24, o25, rfl, eFG, lN, len', like⟩
    have SG := eFG.on SF
    have pdG := pdF.fs kIK eFG npd
    have MG := lM.fs kRK eFG nMa
    have h1G := eFG.keep _ _ n1a h1F
    have h2G := eFG.keep _ _ n2a h2F
    refine ⟨_, rfl, _, rfl, _, rfl, List Int, IntsT K, pd, p1, ds, to, kIK, rfl, pdG, h1G, by rw [dl]; exact sh1, by omega, fun D1 HI ds' sI nD1 ld ldl led1 => ?_⟩
    refine ⟨_, rfl, _, rfl, Int × List Int, EndT K, N, p2, es', tu, kE, rfl, LstR.same kE sI lN, sI _ _ h2G, by rw [len', el]; exact sh2, by omega, fun D2 HJ es'' sJ nD2 le lel led2 => ?_⟩
    refine ⟨_, rfl, fun qo dqo hqo hdqo ndqo => ?_⟩
    have MJ := LstR.same kRK (sI.trans sJ) MG
    have ldJ := LstR.same kIK sJ ld
    have sM := (fun b u h => by
      rw [upd_ne (ne_of_none h hqo), upd_ne (ne_of_none h hdqo)]
      exact h : Same HJ (upd (upd HJ dqo (.own qo)) qo (.ins C_Book.C dqo [])))
    have sh1' : Shuf ds.length to := by rw [dl]; exact sh1
    have sh2' : Shuf es'.length tu := by rw [len', el]; exact sh2
    have ds'l : (ds'.length : Int) = l := by rw [ldl]; exact dl
    have es''l : (es''.length : Int) = u := by rw [lel, len']; exact el
    obtain ⟨rm, hrm⟩ : ∃ rm, rm = (rs ++ rs.take 2).map (mvR (atF to) (atF tu)) := ⟨_, rfl⟩
    rw [← hrm] at MJ
    have l10 : (rs ++ rs.take 2).length ≤ 10 := by
      rw [List.length_append, List.length_take]
      omega
    have rm4 : ∀ r ∈ rm, SgS l u r := fun r hr => by
      rw [hrm] at hr
      obtain ⟨r0, hr0, rfl⟩ := List.mem_map.mp hr
      have hr3 : r0 ∈ rs := (List.mem_append.mp hr0).elim id List.mem_of_mem_take
      obtain ⟨b1, b2, b3, b4⟩ := rg r0 hr3
      refine ⟨fun s hs => ?_, fun s hs => ?_, by show (r0.1.map _).length ≤ 4; rw [List.length_map]; exact b3, by show (r0.2.map _).length ≤ 4; rw [List.length_map]; exact b4⟩
      · obtain ⟨s0, h0, rfl⟩ := List.mem_map.mp hs
        exact mv_stands sh1 sh2 (by omega) (by omega) (b1 s0 h0)
      · obtain ⟨s0, h0, rfl⟩ := List.mem_map.mp hs
        exact mv_stands sh1 sh2 (by omega) (by omega) (b2 s0 h0)
    have rml : rm.length ≤ 10 := by
      rw [hrm, List.length_map]
      exact l10
    have eno : ∀ e ∈ es'', EnOk n e := fun e he => by
      obtain ⟨j, hj⟩ := List.mem_iff_getElem?.mp (led_mem sh2' led2 lel he)
      have hjl := (List.getElem?_eq_some_iff.mp hj).1
      have hz : es[j]? = some (es[j]'(by omega)) := List.getElem?_eq_getElem _
      exact (like j _ _ hz hj).2
    have ok' : BookOk rm ds' es'' n := by
      refine ⟨n0, fun d hd => ?_, fun e he => ?_, fun r hr => ?_, by omega, by omega, by omega⟩
      · obtain ⟨q1, q2⟩ := dr d (led_mem sh1' led1 ldl hd)
        exact ⟨q1, by omega, q2⟩
      · obtain ⟨q1, q2, q3, q4⟩ := eno e he
        exact ⟨q1, by omega, q3, q4⟩
      · obtain ⟨q1, q2, q3, q4⟩ := rm4 r hr
        rw [ds'l, es''l]
        exact ⟨by omega, by omega, q1, q2⟩
    have fR' : (flat rm).length < 500 := by
      have := rows_le (c := 4) (rs := rm) fun r hr => (rm4 r hr).2.2
      omega
    refine ⟨qo, _, _, _, n, dqo, rm, ds', es'', rfl, upd_same, lst_seqs (fun _ _ h => RowT.s h) (LstR.same kRK sM MJ), lst_seqs (fun _ _ h => h.s) (LstR.same kIK sM ldJ), lst_seqs (fun _ _ h => h.p) (LstR.same kE sM le), ok', fun ro do_ eo HK bt hso hAo => ⟨rfl, ?_⟩⟩
    have sJK := same_make hqo hdqo bt
    refine ⟨_, rfl, qo, dqo, ro, do_, eo, n, rm, ds', es'', rfl, hso, hAo, ok', fR', fun t3 HL sKL nt3 hC3 => ?_⟩
    obtain ⟨dt3, bk3, db3, r3', d3', e3', l3, u3, g1', g2', g3', g4', g5'⟩ := hC3
    have stn : ∀ r ∈ rs, (∀ s ∈ r.1, Stands l u s) ∧ ∀ s ∈ r.2, Stands l u s := fun r hr => ⟨(rg r hr).1, (rg r hr).2.1⟩
    obtain ⟨tw1, tw2, tw3⟩ := twin (ren_shuf sh1 sh2) stn (rs.take 2) fun r hr => List.mem_of_mem_take hr
    rw [← hrm] at tw1 tw2 tw3
    obtain ⟨li1, li2⟩ := let_in stn
    have eD : cDeeds ds' rm = cDeeds ds rs := by
      unfold cDeeds
      rw [tw1]
      refine twin_map (α := Int) fun x hx => ?_
      rw [List.getD_eq_getElem?_getD, List.getD_eq_getElem?_getD, led_at sh1' led1 (by rw [dl]; exact li1 x hx)]
    have eE : cEnds n es'' rm = cEnds n es rs := by
      unfold cEnds
      rw [tw2]
      refine twin_map (α := Int) fun x hx => ?_
      have hx' : InR es'.length x := by
        rw [len', el]
        exact li2 x hx
      rw [List.getD_eq_getElem?_getD, List.getD_eq_getElem?_getD, led_at sh2' led2 hx']
      have hj : x.toNat < es'.length := by have := hx'.1; have := hx'.2; omega
      have hz : es[x.toNat]? = some (es[x.toNat]'(by omega)) := List.getElem?_eq_getElem _
      have hz' : es'[x.toNat]? = some (es'[x.toNat]'hj) := List.getElem?_eq_getElem _
      rw [hz, hz']
      exact (like _ _ _ hz hz').1
    rw [tw3, eD, eE] at g3'
    rw [tw1] at g4'
    rw [tw2] at g5'
    have sGL : Same HG HL := sI.trans (sJ.trans (sJK.trans sKL))
    have e3G : Fs a L ns H3 HG := e3F.trans eFG
    have e3L : Fs a L ns H3 HL := e3G.trans (fs_same sGL)
    obtain ⟨dtL, bkL, dbL, rL, dL, eL, lL', uL', c1L, c2L, c3L, c4L, c5L⟩ := hC.kt e3L.kt
    refine ⟨_, rfl, t3, C_Canon.C, dt3, _, _, rfl, g1', C_Canon.cl, C_Canon.n1, rfl, _, rfl, t, C_Canon.C, dtL, _, _, rfl, c1L, C_Canon.cl, C_Canon.n1, rfl, ⟨ins_of ⟨db3, dbL, _, _, _, _, _, _, _, _, _, _, g2', c2L, g3', c3L⟩, fun HM sLM => ⟨_, rfl, iteF ?_⟩⟩⟩
    have e3M : Fs a L ns H3 HM := e3L.trans (fs_same sLM)
    have sGM := sGL.trans sLM
    have hDM := e3M.kt.tup d1
    have h1M := sGM _ _ h1G
    have h2M := sGM _ _ h2G
    have kM := KT.of sLM
    refine ⟨_, rfl, t3, C_Canon.C, dt3, _, _, rfl, sLM _ _ g1', C_Canon.cl, C_Canon.n2, rfl, ?_⟩
    refine seq_rd (H0 := HM) (Same.refl _) (fun _ q => ⟨_, rfl, m, _, 1, _, rfl, rfl, hDM, rfl, q⟩) (.inr (e3M.kt.tup hlq)) fun J Gw w1 gw Dx hDx => ?_
    refine lc_fr (R := fun _ i y => ∀ s, (cLet rs)[i]? = some s → y = .int (atF to s)) w1 (by rw [List.length_map]; exact k1000 (by omega)) (fun _ _ _ _ _ h => h) gd0 hDx trivial (fun H' e => gw H' fun o h => F0.same e _ o h) (fun i x H8 Q8 hi hx e q8 => ?_) (fun H8 e got => ?_)
    · obtain ⟨s, hs', rfl⟩ := map_at hx
      have hin := li1 s (List.mem_of_getElem? hs')
      obtain ⟨z, z1, z2⟩ := at_int (ns := to) (i := s) hin sh1.len
      refine ⟨rfl, _, rfl, _, rfl, p1, _, s, .int z, rfl, rfl, SqL.of (F0.same e _ _ h1M), z2, q8 _ _ (F0.of (Same.refl _)) fun s' hs2 => ?_⟩
      rw [hs'] at hs2
      cases hs2
      have := atF_at sh1 hin
      rw [z1] at this
      rw [Option.some.inj this]
    rw [List.length_map] at got
    try dsimp only [tNil]
    refine rd_tup (.inl (SqL.of (got_map got))) fun b H9 s9 t9 => ?_
    have s89 := (F0.same e).trans s9
    refine rd_neD (flt_iD _) (by decide) (dp_ints (g4'.kt (kM.trans (KT.of s89)))) (dp_ints ⟨b, rfl, t9⟩) ⟨_, rfl, iteF ?_⟩
    have sMN := s89
    generalize hHN : H9 = HN at sMN ⊢
    clear got s89 hDx t9 s9 gw w1
    have e3N := e3M.trans (fs_same (a := a) (L := L) (ns := ns) sMN)
    have hDN := e3N.kt.tup d1
    have h2N := sMN _ _ h2M
    have sLN := sLM.trans sMN
    have kN := KT.of sLN
    refine ⟨_, rfl, t3, C_Canon.C, dt3, _, _, rfl, sLN _ _ g1', C_Canon.cl, C_Canon.n3, rfl, ?_⟩
    refine seq_rd (H0 := HN) (Same.refl _) (fun _ q => ⟨_, rfl, m, _, 2, _, rfl, rfl, hDN, rfl, q⟩) (.inr (e3N.kt.tup huq)) fun J Gw w1 gw Dx hDx => ?_
    refine lc_fr (R := fun _ i y => ∀ s, (cUnk rs)[i]? = some s → y = .int (atF tu s)) w1 (by rw [List.length_map]; exact k1000 (by omega)) (fun _ _ _ _ _ h => h) gd0 hDx trivial (fun H' e => gw H' fun o h => F0.same e _ o h) (fun i x H8 Q8 hi hx e q8 => ?_) (fun H8 e got => ?_)
    · obtain ⟨s, hs', rfl⟩ := map_at hx
      have hin := li2 s (List.mem_of_getElem? hs')
      obtain ⟨z, z1, z2⟩ := at_int (ns := tu) (i := s) hin sh2.len
      refine ⟨rfl, _, rfl, _, rfl, p2, _, s, .int z, rfl, rfl, SqL.of (F0.same e _ _ h2N), z2, q8 _ _ (F0.of (Same.refl _)) fun s' hs2 => ?_⟩
      rw [hs'] at hs2
      cases hs2
      have := atF_at sh2 hin
      rw [z1] at this
      rw [Option.some.inj this]
    rw [List.length_map] at got
    try dsimp only [tNil]
    refine rd_tup (.inl (SqL.of (got_map got))) fun b H9 s9 t9 => ?_
    have s89 := (F0.same e).trans s9
    refine rd_neD (flt_iD _) (by decide) (dp_ints (g5'.kt (kN.trans (KT.of s89)))) (dp_ints ⟨b, rfl, t9⟩) ⟨_, rfl, iteF ?_⟩
    have sNO := s89
    generalize hHO : H9 = HO' at sNO ⊢
    have e3O := e3N.trans (fs_same (a := a) (L := L) (ns := ns) sNO)
    have sLO := sLN.trans sNO
    have sKO := sKL.trans sLO
    obtain ⟨xz, z1, z2, z3⟩ := hpr.fs kRK e3O npr
    refine ⟨_, rfl, q3, C_Book.C, dq3, _, _, rfl, e3O.kt _ _ rfl B3, C_Book.cl, C_Book.n1, rfl, _, rfl, ?_⟩
    try dsimp only [tNil]
    refine rd_tup (.inl (SqL.of z1)) fun b1 HP sOP tp => ?_
    have e3P := e3O.trans (fs_same (a := a) (L := L) (ns := ns) sOP)
    have hA3P := hA3.kt e3P.kt
    refine rd_eqD (flt_sq flt_rw rs) (by decide) (dp_rows hA3P.r) (dp_rows (lst_tup tp z2 fun i x z a b => (z3 i x z a b).kt (KT.of sOP))) ⟨_, rfl, iteT ?_⟩
    obtain ⟨xe, ze1, ze2, ze3⟩ := hDe.fs kE e3P nDe
    refine ⟨_, rfl, q3, C_Book.C, dq3, _, _, rfl, e3P.kt _ _ rfl B3, C_Book.cl, C_Book.n3, rfl, _, rfl, ?_⟩
    try dsimp only [tNil]
    refine rd_tup (.inl (SqL.of ze1)) fun b2 HR sPR tr => ?_
    have e3R := e3P.trans (fs_same (a := a) (L := L) (ns := ns) sPR)
    have hA3R := hA3.kt e3R.kt
    refine rd_eqD (flt_sq flt_en es) (by decide) (dp_ends hA3R.e) (dp_ends (lst_tup tr ze2 fun i x z a b => (ze3 i x z a b).kt (KT.of sPR))) ⟨_, rfl, iteT ?_⟩
    have sKR := sKO.trans (sOP.trans sPR)
    obtain ⟨xm, zm1, zm2, zm3⟩ := LstR.same kRK (sJK.trans sKR) MJ
    refine ⟨_, rfl, qo, C_Book.C, dqo, _, _, rfl, sKR _ _ hso, C_Book.cl, C_Book.n1, rfl, _, rfl, ?_⟩
    try dsimp only [tNil]
    refine rd_tup (.inl (SqL.of zm1)) fun b3 HS sRS ts => ?_
    refine rd_eqD (flt_sq flt_rw rm) (by decide) (dp_rows (hAo.kt (KT.of (sKR.trans sRS))).r) (dp_rows (lst_tup ts zm2 fun i x z a b => (zm3 i x z a b).kt (KT.of sRS))) (k _)
end
end My
set_option maxHeartbeats 4000000
/-! a Hook that looks at any Boolean of one's own -/
namespace Hm
open PySem PySem.Spec PyProof.Rows L2 He
def obsM (ck : PySem.W.Frag → Bool) (fn : List DefD) (K : PySem.W.Frag) : AlD := (ck K && fn.all fun d => d.ok K, fn.map fun d => fnW K d.at_)
def SaysM (ck : PySem.W.Frag → Bool) (fn : List DefD) (K : PySem.W.Frag) : Prop := obsM ck fn K = valD fn
def obsMG (n : Nat) (ck : PySem.W.Frag → Bool) (fn : List DefD) (g : Addr → Option Obj) : AlD := obsM ck fn (frG g (asD g n))
def hookM (n : Nat) (ck : PySem.W.Frag → Bool) (fn : List DefD) : PySem.W.Hook where
  α := AlD
  obs := fun s => obsMG n ck fn s.heap.get?
  val := fun _ => valD fn
  says := fun _ h => ∃ K : PySem.W.Frag, K.In h ∧ SaysM ck fn K
  of := fun _ _ e => ⟨_, frG_in, e⟩
  keeps := fun _ _ _ ⟨K, hK, c⟩ k => ⟨K, PySem.W.Frag.In.keeps hK k, c⟩
theorem obsMG_eq {n : Nat} {ck : PySem.W.Frag → Bool} {fn : List DefD} {g : Addr → Option Obj} {s : Shared} (h : ∀ a, g a = s.heap.get? a) : obsMG n ck fn g = (hookM n ck fn).obs s := by
  have e : g = s.heap.get? := funext h
  rw [e] <;> rfl
section
variable {ck : PySem.W.Frag → Bool} {fn : List DefD} {K : PySem.W.Frag}
theorem SaysM.ckT (c : SaysM ck fn K) : ck K = true :=
  (ba (show (ck K && fn.all fun d => d.ok K) = true from congrArg (fun z : AlD => z.1) c)).1
theorem SaysM.def_ (c : SaysM ck fn K) (i : Nat) {d : DefD} (h : fn[i]? = some d := by rfl) : ∃ fd, FunD K d.name d.qual d.params d.body d.scope (d.dvs K) (d.kws K) (fAd K d.at_) fd := by
  have c2 := (ba (show (ck K && fn.all fun d => d.ok K) = true from congrArg (fun z : AlD => z.1) c)).2
  have e : fn.map (fun d => fnW K d.at_) = fn.map DefD.val := congrArg (fun z : AlD => z.2) c
  have e2 : (fn.map fun d => fnW K d.at_)[i]? = (fn.map DefD.val)[i]? := by rw [e]
  rw [List.getElem?_map, List.getElem?_map, h] at e2
  exact DefD.funD (Option.some.inj e2) (List.all_eq_true.mp c2 d (List.mem_of_getElem? h))
end
/-! ### exception classes over ValueError, by an own base -/
def oexB (K : PySem.W.Frag) (C : Addr) (bm : List Value) : Bool := match K.lookup C with
  | some ⟨.type "type", _, .cls cd, sl⟩ => (match cd.mro, sl.toList with
    | .ref C' :: bm', [_, _, _, _, some (.builtin n), _] => decide (C' = C) && (decide (n = "ValueError.__new__") && (!cd.hasDel && (cd.hasDict && decide (bm' = bm))))
    | _, _ => false)
  | _ => false
theorem oexB_ok {K : PySem.W.Frag} {C : Addr} {bm : List Value} (q : oexB K C bm = true) :
    ∃ nm qn N bs sn sub ab col dd k0 k1 k2 k3 k5, K.lookup C = some (excClassObj nm qn C N bs bm true sn sub ab col dd k0 k1 k2 k3 k5 "ValueError.__new__") := by
  unfold oexB at q
  split at q
  · rename_i dd cd sl ho
    split at q
    · rename_i C' bm' k0 k1 k2 k3 n k5 hm hs
      simp only [Bool.and_eq_true, decide_eq_true_eq, Bool.not_eq_true'] at q
      obtain ⟨rfl, rfl, hdel, hdc, rfl⟩ := q
      obtain ⟨nm, bs, mro, ns, qn, hd, sn, sub, ab, col, del⟩ := cd
      dsimp only at hm hdel hdc
      subst hm hdel hdc
      have hsl : sl = #[k0, k1, k2, k3, some (.builtin "ValueError.__new__"), k5] := by
        obtain ⟨l⟩ := sl
        simp only at hs
        rw [hs]
      subst hsl
      exact ⟨nm, qn, ns, bs, sn, sub, ab, col, dd, k0, k1, k2, k3, k5, ho⟩
    · cases q
  · cases q
def excB (K : PySem.W.Frag) (C : Addr) (fs : List Str) : Bool :=
  eqO (PySem.W.findIn K (.ref C) "__setattr__") (some (some (.builtin "object.__setattr__"))) && (decide (PySem.W.subIn K (.ref C) (.type "BaseException") = some true) && (decide (PySem.W.typeIn K (.ref C) = some (.type "type")) && (PySem.W.keepIn K (.ref C) &&
  (eqO (PySem.W.findIn K (.ref C) "__getattribute__") (some (some (.builtin "BaseException.__getattribute__"))) && (eqO (PySem.W.findIn K (.ref C) "__getattr__") (some none) && (PySem.W.hasDictIn K C && (eqO (PySem.W.findIn K (.ref C) "__class__") (some (some (.builtin "object.__class__"))) &&
  (decide (PySem.W.mroIn K C (.type "object") = some true) && fs.all fun f => eqO (PySem.W.findIn K (.ref C) f) (some none)))))))))
def comB (K : PySem.W.Frag) : Bool := decide (PySem.W.specialIn K (.builtin "object.__class__") "__get__" = some (some (.builtin "getset_descriptor.__get__"))) && decide (PySem.W.takesIn K (.builtin "object.__class__") = some true)
/-- what is known of an exception class -/
structure XC (K : PySem.W.Frag) (C : Addr) (bm : List Value) (fs : List Str) : Prop where
  ox : OexC K C
  xc : ExcC K C
  cd : ∃ cd, PySem.W.clsIn K C = some cd ∧ cd.mro = .ref C :: bm
  no : ∀ f ∈ fs, PySem.W.findIn K (.ref C) f = some none
theorem xc_ok {K : PySem.W.Frag} {C : Addr} {bm : List Value} {fs : List Str} (c : comB K = true) (h1 : oexB K C bm = true) (h2 : excB K C fs = true) (hbm : PySem.HandSPX.refsVE bm = true) : XC K C bm fs := by
  obtain ⟨c1, c2⟩ := ba c
  obtain ⟨a1, h2⟩ := ba h2
  obtain ⟨a2, h2⟩ := ba h2
  obtain ⟨a3, h2⟩ := ba h2
  obtain ⟨a4, h2⟩ := ba h2
  obtain ⟨a5, h2⟩ := ba h2
  obtain ⟨a6, h2⟩ := ba h2
  obtain ⟨a7, h2⟩ := ba h2
  obtain ⟨a8, h2⟩ := ba h2
  obtain ⟨a9, a10⟩ := ba h2
  obtain ⟨nm, qn, N, bs, sn, sub, ab, col, dd, k0, k1, k2, k3, k5, hC⟩ := oexB_ok h1
  refine ⟨⟨⟨nm, qn, N, bs, bm, sn, sub, ab, col, dd, k0, k1, k2, k3, k5, hC, hbm⟩, eqO_ok a1, of_decide_eq_true a2, of_decide_eq_true a3, a4⟩, ⟨eqO_ok a5, eqO_ok a6, of_decide_eq_true a2, a7, eqO_ok a8, of_decide_eq_true c1, of_decide_eq_true c2, of_decide_eq_true a9⟩, ?_, fun f hf => eqO_ok (List.all_eq_true.mp a10 f hf)⟩
  refine ⟨{ name := nm, bases := bs, mro := .ref C :: bm, ns := N, qualname := qn, hasDict := true, slotNames := sn, subclasses := sub, abstract := ab, collection := col, hasDel := false }, ?_, rfl⟩
  unfold PySem.W.clsIn
  rw [hC] <;> rfl
/-- isinstance of an instance of C: of an own class D, of a built-in one -/
theorem kit_own {K : PySem.W.Frag} {C D : Addr} {bm bm' : List Value} {fs fs' : List Str} (x : XC K C bm fs) (y : XC K D bm' fs') : PySem.W.kitOne K (.ref C) (.ref D) = some (decide (C = D) || bm.contains (.ref D)) := by
  unfold PySem.W.kitOne
  by_cases e : C = D
  · subst e
    rw [if_pos (by simp)]
    simp
  · have ne : (Value.ref C == Value.ref D) = false := by simpa using e
    rw [ne, if_neg Bool.false_ne_true]
    obtain ⟨cd, hc, hm⟩ := x.cd
    obtain ⟨cd', hc', _⟩ := y.cd
    have e2 : ((PySem.W.clsIn K D).isSome && PySem.W.typeIn K (.ref D) == some (.type "type")) = true := by rw [hc', y.ox.tyC] <;> rfl
    show (if ((PySem.W.clsIn K D).isSome && PySem.W.typeIn K (.ref D) == some (.type "type")) = true then PySem.W.subIn K (.ref C) (.ref D) else none) = _
    rw [if_pos e2]
    show PySem.W.mroIn K C (.ref D) = _
    unfold PySem.W.mroIn
    rw [hc]
    show (if cd.mro.isEmpty = true then none else some (cd.mro.contains (.ref D))) = _
    rw [hm]
    have ne2 : (Value.ref D == Value.ref C) = false := by
      have : ¬ D = C := fun z => e z.symm
      simpa using this
    have ne3 : ¬ D = C := fun z => e z.symm
    simp [List.contains_cons, ne2, e, ne3]
theorem kit_bt {K : PySem.W.Frag} {C : Addr} {bm : List Value} {fs : List Str} {T : String} (x : XC K C bm fs) (hT : PySem.W.kitMeta T = true) : PySem.W.kitOne K (.ref C) (.type T) = some (bm.contains (.type T)) := by
  unfold PySem.W.kitOne
  have ne : (Value.ref C == Value.type T) = false := beq_eq_false_iff_ne.mpr (fun z => by cases z)
  rw [ne, if_neg Bool.false_ne_true]
  obtain ⟨cd, hc, hm⟩ := x.cd
  show (if PySem.W.kitMeta T = true then PySem.W.subIn K (.ref C) (.type T) else none) = _
  rw [if_pos hT]
  show PySem.W.mroIn K C (.type T) = _
  unfold PySem.W.mroIn
  rw [hc]
  show (if cd.mro.isEmpty = true then none else some (cd.mro.contains (.type T))) = _
  rw [hm]
  have ne2 : (Value.type T == Value.ref C) = false := beq_eq_false_iff_ne.mpr (fun z => by cases z)
  simp [List.contains_cons, ne2]
end Hm
set_option maxHeartbeats 4000000
/-! facts looked at over small pieces of the heap, carried to the whole -/
namespace Hm
open PySem PySem.Spec PyProof.Rows L2 He
def Sub (K1 K2 : PySem.W.Frag) : Prop := ∀ a o, K1.lookup a = some o → K2.lookup a = some o
section
variable {K1 K2 : PySem.W.Frag}
theorem Sub.cls (s : Sub K1 K2) {C : Addr} {cd : ClassData} (h : PySem.W.clsIn K1 C = some cd) : PySem.W.clsIn K2 C = some cd := by
  unfold PySem.W.clsIn at h ⊢
  split at h
  · rename_i c d cd' sl ho
    rw [s _ _ ho]
    exact h
  · cases h
theorem Sub.typ (s : Sub K1 K2) {a : Addr} {t : Value} (h : PySem.W.typeIn K1 (.ref a) = some t) : PySem.W.typeIn K2 (.ref a) = some t := by
  obtain ⟨o, ho, e⟩ := Option.map_eq_some_iff.mp h
  show (K2.lookup a).map _ = _
  rw [s _ _ ho]
  exact congrArg some e
theorem Sub.typeV (s : Sub K1 K2) {v t : Value} (h : PySem.W.typeIn K1 v = some t) : PySem.W.typeIn K2 v = some t := by
  cases v with
  | ref a => exact s.typ h
  | _ => exact h
theorem Sub.ns (s : Sub K1 K2) {N : Addr} {x : Str} {r : Option Value} (h : PySem.W.nsIn K1 N x = some r) : PySem.W.nsIn K2 N x = some r := by
  unfold PySem.W.nsIn at h ⊢
  split at h
  · rename_i c d es n sl ho
    rw [s _ _ ho]
    exact h
  · cases h
theorem Sub.own (s : Sub K1 K2) {x : Str} {v : Value} {r : Option Value} (h : PySem.W.ownIn K1 x v = some r) : PySem.W.ownIn K2 x v = some r := by
  cases v with
  | ref a =>
    unfold PySem.W.ownIn at h ⊢
    dsimp only at h ⊢
    split at h
    · rename_i c d cd sl ho
      rw [s _ _ ho]
      exact s.ns h
    · cases h
  | _ => exact h
theorem Sub.along (s : Sub K1 K2) {x : Str} : ∀ {l : List Value} {r : Option Value}, PySem.W.alongIn K1 x l = some r → PySem.W.alongIn K2 x l = some r
  | [], _, h => h
  | c :: l, r, h => by
    unfold PySem.W.alongIn at h ⊢
    cases e : PySem.W.ownIn K1 x c with
    | none =>
      rw [e] at h
      cases h
    | some q =>
      rw [e] at h
      rw [s.own e]
      cases q with
      | none => exact Sub.along s h
      | some v => exact h
theorem Sub.find (s : Sub K1 K2) {v : Value} {x : Str} {r : Option Value} (h : PySem.W.findIn K1 v x = some r) : PySem.W.findIn K2 v x = some r := by
  cases v with
  | ref a =>
    unfold PySem.W.findIn at h ⊢
    dsimp only at h ⊢
    split at h
    · rename_i c d cd sl ho
      rw [s _ _ ho]
      exact s.along h
    · cases h
  | _ => exact h
theorem Sub.mro (s : Sub K1 K2) {C : Addr} {b : Value} {r : Bool} (h : PySem.W.mroIn K1 C b = some r) : PySem.W.mroIn K2 C b = some r := by
  obtain ⟨cd, hc, e⟩ := Option.bind_eq_some_iff.mp h
  show (PySem.W.clsIn K2 C).bind _ = _
  rw [s.cls hc]
  exact e
theorem Sub.sub (s : Sub K1 K2) {t b : Value} {r : Bool} (h : PySem.W.subIn K1 t b = some r) : PySem.W.subIn K2 t b = some r := by
  cases t with
  | ref C => exact s.mro h
  | _ => exact h
theorem Sub.special (s : Sub K1 K2) {v : Value} {x : Str} {r : Option Value} (h : PySem.W.specialIn K1 v x = some r) : PySem.W.specialIn K2 v x = some r := by
  obtain ⟨t, ht, e⟩ := Option.bind_eq_some_iff.mp h
  show (PySem.W.typeIn K2 v).bind _ = _
  rw [s.typeV ht]
  exact s.find e
theorem Sub.keep (s : Sub K1 K2) {v : Value} (h : PySem.W.keepIn K1 v = true) : PySem.W.keepIn K2 v = true := by
  cases v with
  | ref a =>
    unfold PySem.W.keepIn at h ⊢
    dsimp only at h ⊢
    split at h
    · rename_i ho
      rw [s _ _ ho]
    · rename_i ho
      rw [s _ _ ho]
      have e : PySem.W.specialIn K1 (.ref a) "__call__" = some (some (.builtin "type.__call__")) := eq_of_beq h
      rw [s.special e]
      rfl
    · cases h
  | _ => exact h
theorem Sub.hasDict (s : Sub K1 K2) {C : Addr} (h : PySem.W.hasDictIn K1 C = true) : PySem.W.hasDictIn K2 C = true := by
  obtain ⟨cd, hc, e⟩ := PySem.W.any_some h
  unfold PySem.W.hasDictIn
  rw [s.cls hc]
  exact e
theorem Sub.code (s : Sub K1 K2) {cd : Value} {q : Str} (h : PySem.W.codeIn K1 cd q = true) : PySem.W.codeIn K2 cd q = true := by
  cases cd with
  | ref c =>
    unfold PySem.W.codeIn at h ⊢
    dsimp only at h ⊢
    split at h
    · rename_i ho
      rw [s _ _ ho]
      exact h
    · cases h
  | _ => exact h
theorem Sub.nsOk (s : Sub K1 K2) {N : Addr} (h : PySem.W.nsOkIn K1 N = true) : PySem.W.nsOkIn K2 N = true := by
  unfold PySem.W.nsOkIn at h ⊢
  split at h
  · rename_i ho
    rw [s _ _ ho]
    exact h
  · cases h
theorem Sub.tail (s : Sub K1 K2) {bm : List Value} : ∀ {l : List Value}, PySem.W.tailIn K1 bm l = true → PySem.W.tailIn K2 bm l = true
  | [], h => h
  | v :: r, h => by
    unfold PySem.W.tailIn at h ⊢
    rcases Bool.or_eq_true_iff.mp h with h | h
    · rw [h, Bool.true_or]
    · refine Bool.or_eq_true_iff.mpr (.inr ?_)
      cases v with
      | ref A =>
        dsimp only at h ⊢
        split at h
        · rename_i ho
          rw [s _ _ ho]
          obtain ⟨h1, h3⟩ := ba h
          obtain ⟨h1, h2⟩ := ba h1
          have e := eq_of_beq h2
          show (PySem.W.nsOkIn K2 _ && PySem.W.nsIn K2 _ "__init__" == some none && PySem.W.tailIn K2 bm r) = true
          rw [s.nsOk h1, s.ns e, Sub.tail s h3]
          rfl
        · cases h
      | _ => cases h
theorem Sub.exc (s : Sub K1 K2) {C : Addr} {bm : List Value} {n : String} (h : PySem.W.excIn K1 C bm n = true) : PySem.W.excIn K2 C bm n = true := by
  unfold PySem.W.excIn at h ⊢
  split at h
  · rename_i dd cd sl ho
    rw [s _ _ ho]
    split at h
    · rename_i hm hs
      simp only [hm, hs]
      obtain ⟨h, h6⟩ := ba h
      obtain ⟨h, h5⟩ := ba h
      obtain ⟨h, h4⟩ := ba h
      rw [h, s.tail h4, s.nsOk h5, s.ns (eq_of_beq h6)]
      rfl
    · cases h
  · cases h
theorem Sub.takes (s : Sub K1 K2) {a : Value} {r : Bool} (h : PySem.W.takesIn K1 a = some r) : PySem.W.takesIn K2 a = some r := by
  unfold PySem.W.takesIn at h ⊢
  split at h
  · rename_i q
    rw [s.special q]
    exact h
  · rename_i q
    rw [s.special q]
    obtain ⟨y, hy, e⟩ := Option.map_eq_some_iff.mp h
    show (PySem.W.specialIn K2 a "__delete__").map _ = _
    rw [s.special hy]
    exact congrArg some e
  · cases h
theorem Sub.xc (s : Sub K1 K2) {C : Addr} {bm : List Value} {fs : List Str} (x : XC K1 C bm fs) : XC K2 C bm fs := by
  obtain ⟨⟨⟨nm, q, N, bs, bm', sn, sub, ab, col, dd, k0, k1, k2, k3, k5, hC, hbm⟩, a1, a2, a3, a4⟩, ⟨b1, b2, b3, b4, b5, b6, b7, b8⟩, ⟨cd, hc, hm⟩, no⟩ := x
  exact ⟨⟨⟨nm, q, N, bs, bm', sn, sub, ab, col, dd, k0, k1, k2, k3, k5, s _ _ hC, hbm⟩, s.find a1, s.sub a2, s.typ a3, s.keep a4⟩, ⟨s.find b1, s.find b2, s.sub b3, s.hasDict b4, s.find b5, s.special b6, s.takes b7, s.mro b8⟩, ⟨cd, s.cls hc, hm⟩, fun f hf => s.find (no f hf)⟩
theorem Sub.fund (s : Sub K1 K2) {x qual : Str} {params : Arguments} {body : List Stmt} {scope : Scope} {f : Addr} {fd : FuncData} (F : FunD K1 x qual params body scope [] [] f fd) : FunD K2 x qual params body scope [] [] f fd := by
  obtain ⟨⟨oc, od, dV, kV, doc, pm, an, cdv, ct, osl, rfl, lk, hcd, hD, hK⟩, kp⟩ := F
  refine ⟨⟨oc, od, dV, kV, doc, pm, an, cdv, ct, osl, rfl, s _ _ lk, s.code hcd, ?_, .inl rfl⟩, s.keep kp⟩
  rcases hD with ⟨_, e⟩ | ⟨e, _⟩
  · exact .inl ⟨rfl, e⟩
  · exact absurd rfl e
end
/-! ### pieces of the heap -/
theorem frG_mem {g : Addr → Option Obj} {a : Addr} {o : Obj} : ∀ {as : List Addr}, a ∈ as → g a = some o → (frG g as).lookup a = some o
  | [], h, _ => nomatch h
  | b :: r, h, e => by
    unfold frG
    rw [List.filterMap_cons]
    by_cases hb : a = b
    · subst hb
      rw [e]
      show (List.lookup a ((a, o) :: _)) = some o
      simp [List.lookup]
    · have hr : a ∈ r := by
        rcases List.mem_cons.mp h with q | q
        · exact absurd q hb
        · exact q
      have ih := frG_mem hr e
      unfold frG at ih
      cases hg : g b with
      | none => exact ih
      | some ob =>
        show (List.lookup a ((b, ob) :: _)) = some o
        have ne : (a == b) = false := by simpa using hb
        simp only [List.lookup, ne]
        exact ih
theorem frG_keys {g : Addr → Option Obj} {a : Addr} {o : Obj} : ∀ {as : List Addr}, (frG g as).lookup a = some o → a ∈ as
  | [], h => by cases h
  | b :: r, h => by
    by_cases hb : a = b
    · rw [hb]
      exact List.mem_cons_self ..
    · refine List.mem_cons_of_mem _ (frG_keys (g := g) (o := o) ?_)
      unfold frG at h ⊢
      rw [List.filterMap_cons] at h
      cases hg : g b with
      | none =>
        rw [hg] at h
        exact h
      | some ob =>
        rw [hg] at h
        have ne : (a == b) = false := by simpa using hb
        have h2 : List.lookup a ((b, ob) :: r.filterMap fun a => (g a).map fun o => (a, o)) = some o := h
        simp only [List.lookup, ne] at h2
        exact h2
theorem sub_of {g : Addr → Option Obj} {as bs : List Addr} (h : ∀ a ∈ as, a ∈ bs) : Sub (frG g as) (frG g bs) := fun a o e => frG_mem (h a (frG_keys e)) (frG_at as e)
def growFrom (g : Addr → Option Obj) : Nat → List Addr → List Addr
  | 0, as => as
  | n + 1, as => growFrom g n (growD g as)
def gaG (g : Addr → Option Obj) (x : Str) : Addr := ga (frG g [mainGlobals]) x
/-- one name of the module: what is looked at, n steps from its object -/
structure Itm where
  x : Str
  n : Nat
  ck : (Str → Addr) → PySem.W.Frag → Addr → Bool
def Itm.as (g : Addr → Option Obj) (i : Itm) : List Addr := growFrom g i.n [gaG g i.x]
def Itm.ok (g : Addr → Option Obj) (i : Itm) : Bool := eqO (PySem.W.nsIn (frG g [mainGlobals]) mainGlobals i.x) (some (some (.ref (gaG g i.x)))) && i.ck (gaG g) (frG g (i.as g)) (gaG g i.x)
/-- one def, or one __init__ -/
structure Fn where
  x : Str
  m : Option Str
  name : Str
  qual : Str
  params : Arguments
  body : List Stmt
  scope : Scope
def Fn.adr (g : Addr → Option Obj) (d : Fn) : Addr := match d.m with
  | none => gaG g d.x
  | some m => ma (frG g (growFrom g 2 [gaG g d.x])) (gaG g d.x) m
def Fn.as (g : Addr → Option Obj) (d : Fn) : List Addr := growFrom g 1 [d.adr g]
def Fn.as2 (g : Addr → Option Obj) (d : Fn) : List Addr := match d.m with
  | none => []
  | some _ => growFrom g 2 [gaG g d.x]
def fnB (K : PySem.W.Frag) (a : Addr) (q : Str) : Bool := PySem.W.keepIn K (.ref a) && (match K.lookup a with
  | some ⟨_, _, .func fd, _⟩ => PySem.W.codeIn K fd.code q && dflB K fd.defaults []
  | _ => false)
def Fn.ok (g : Addr → Option Obj) (d : Fn) : Bool := fnB (frG g (d.as g)) (d.adr g) d.qual && (match d.m with
  | none => true
  | some m => eqO (PySem.W.findIn (frG g (growFrom g 2 [gaG g d.x])) (.ref (gaG g d.x)) m) (some (some (.ref (d.adr g)))))
def Fn.w (g : Addr → Option Obj) (d : Fn) : FnW := match g (d.adr g) with
  | some ⟨_, _, .func fd, _⟩ => some (fd.name, fd.qualname, fd.params, fd.body, fd.scope, fd.globals, fd.closure, fd.builtins)
  | _ => none
def Fn.val (d : Fn) : FnW := some (d.name, d.qual, d.params, .stmts d.body, d.scope, mainGlobals, [], builtinsNs)
theorem Fn.fund {g : Addr → Option Obj} {d : Fn} (e : d.w g = d.val) (c : d.ok g = true) : ∃ fd, FunD (frG g (d.as g)) d.name d.qual d.params d.body d.scope [] [] (d.adr g) fd := by
  obtain ⟨kp, c2⟩ := ba (show (PySem.W.keepIn (frG g (d.as g)) (.ref (d.adr g)) && _) = true from (ba c).1)
  cases q : (frG g (d.as g)).lookup (d.adr g) with
  | none =>
    rw [q] at c2
    cases c2
  | some o =>
    have hg := frG_at _ q
    unfold Fn.w at e
    rw [hg] at e
    obtain ⟨oc, od, dt, osl⟩ := o
    rw [q] at c2
    cases dt with
    | func fd =>
      obtain ⟨n1, n2, n3, n4, n5, n6, n7, n8, n9, n10, n11, n12, n13, n14, n15⟩ := fd
      have e2 : (some (n1, n2, n3, n4, n5, n6, n7, n15) : FnW) = some (d.name, d.qual, d.params, .stmts d.body, d.scope, mainGlobals, [], builtinsNs) := e
      simp only [Option.some.injEq, Prod.mk.injEq] at e2
      obtain ⟨h1, h2, h3, h4, h5, h6, h7, h8⟩ := e2
      subst h1 h2 h3 h4 h5 h6 h7 h8
      obtain ⟨k1, k3⟩ := ba (show (PySem.W.codeIn (frG g (d.as g)) n13 d.qual && dflB (frG g (d.as g)) n8 []) = true from c2)
      exact ⟨_, ⟨oc, od, n8, n9, n10, n11, n12, n13, n14, osl, rfl, q, k1, dflB_ok k3, .inl rfl⟩, kp⟩
    | _ => cases c2
/-! ### the Hook -/
def obsS (its : List Itm) (fns : List Fn) (frees : List Str) (ex : (Str → Addr) → Bool) (g : Addr → Option Obj) : AlD :=
  (its.all (Itm.ok g) && (fns.all (Fn.ok g) && (frees.all (fun x => eqO (PySem.W.nsIn (frG g [mainGlobals]) mainGlobals x) (some none)) && ex (gaG g))), fns.map (Fn.w g))
def wholeK (its : List Itm) (fns : List Fn) (g : Addr → Option Obj) : PySem.W.Frag := frG g (mainGlobals :: (its.flatMap (Itm.as g) ++ (fns.flatMap (Fn.as g) ++ fns.flatMap (Fn.as2 g))))
/-- what the end leans on -/
structure SaysS (its : List Itm) (fns : List Fn) (frees : List Str) (ex : (Str → Addr) → Bool) (K : PySem.W.Frag) : Prop where
  glo : ∀ (j : Nat) (i : Itm), its[j]? = some i → PySem.W.nsIn K mainGlobals i.x = some (some (.ref (ga K i.x)))
  it : ∃ γ : Str → Addr, (∀ (j : Nat) (i : Itm), its[j]? = some i → γ i.x = ga K i.x ∧ ∃ K1, Sub K1 K ∧ i.ck γ K1 (ga K i.x) = true) ∧ ex γ = true
  fn : ∀ (j : Nat) (d : Fn), fns[j]? = some d → (∃ (k : Nat) (i : Itm), its[k]? = some i ∧ i.x = d.x) → ∃ (a : Addr) (fd : FuncData), FunD K d.name d.qual d.params d.body d.scope [] [] a fd ∧ (d.m = none → a = ga K d.x) ∧ ∀ m, d.m = some m → PySem.W.findIn K (.ref (ga K d.x)) m = some (some (.ref a))
  free : ∀ x ∈ frees, PySem.W.nsIn K mainGlobals x = some none
theorem says_of {its : List Itm} {fns : List Fn} {frees : List Str} {ex : (Str → Addr) → Bool} {g : Addr → Option Obj} (e : obsS its fns frees ex g = (true, fns.map Fn.val)) : SaysS its fns frees ex (wholeK its fns g) := by
  have e1 : (its.all (Itm.ok g) && (fns.all (Fn.ok g) && (frees.all (fun x => eqO (PySem.W.nsIn (frG g [mainGlobals]) mainGlobals x) (some none)) && ex (gaG g)))) = true := congrArg (fun z : AlD => z.1) e
  have e2 : fns.map (Fn.w g) = fns.map Fn.val := congrArg (fun z : AlD => z.2) e
  obtain ⟨c1, c2⟩ := ba e1
  obtain ⟨c2, c3⟩ := ba c2
  obtain ⟨c3, c4⟩ := ba c3
  have s0 : Sub (frG g [mainGlobals]) (wholeK its fns g) := sub_of fun a h => by
    have : a = mainGlobals := by simpa using h
    rw [this]
    exact List.mem_cons_self ..
  have gl : ∀ (j : Nat) (i : Itm), its[j]? = some i → PySem.W.nsIn (wholeK its fns g) mainGlobals i.x = some (some (.ref (gaG g i.x))) := fun j i h =>
    s0.ns (eqO_ok (ba (List.all_eq_true.mp c1 i (List.mem_of_getElem? h))).1)
  have ge : ∀ (j : Nat) (i : Itm), its[j]? = some i → gaG g i.x = ga (wholeK its fns g) i.x := fun j i h => by
    unfold ga
    rw [gl j i h]
  refine ⟨fun j i h => by rw [← ge j i h]; exact gl j i h, ⟨gaG g, fun j i h => ⟨ge j i h, frG g (i.as g), ?_, ?_⟩, c4⟩, fun j d h hx => ?_, fun x hx => s0.ns (eqO_ok (List.all_eq_true.mp c3 x hx))⟩
  · exact sub_of fun a ha => List.mem_cons_of_mem _ (List.mem_append_left _ (List.mem_flatMap.mpr ⟨i, List.mem_of_getElem? h, ha⟩))
  · rw [← ge j i h]
    exact (ba (List.all_eq_true.mp c1 i (List.mem_of_getElem? h))).2
  · have e3 : (fns.map (Fn.w g))[j]? = (fns.map Fn.val)[j]? := by rw [e2]
    rw [List.getElem?_map, List.getElem?_map, h] at e3
    obtain ⟨fd, F⟩ := Fn.fund (Option.some.inj e3) (List.all_eq_true.mp c2 d (List.mem_of_getElem? h))
    have sd : Sub (frG g (d.as g)) (wholeK its fns g) := sub_of fun a ha => List.mem_cons_of_mem _ (List.mem_append_right _ (List.mem_append_left _ (List.mem_flatMap.mpr ⟨d, List.mem_of_getElem? h, ha⟩)))
    obtain ⟨k, i, hk, hix⟩ := hx
    have gx : gaG g d.x = ga (wholeK its fns g) d.x := by
      rw [← hix]
      exact ge k i hk
    refine ⟨d.adr g, fd, sd.fund F, fun hm => ?_, fun m hm => ?_⟩
    · unfold Fn.adr
      rw [hm, ← gx]
    · have sm : Sub (frG g (growFrom g 2 [gaG g d.x])) (wholeK its fns g) := sub_of fun a ha => List.mem_cons_of_mem _ (List.mem_append_right _ (List.mem_append_right _ (List.mem_flatMap.mpr ⟨d, List.mem_of_getElem? h, by
        unfold Fn.as2
        rw [hm]
        exact ha⟩)))
      have q := (ba (List.all_eq_true.mp c2 d (List.mem_of_getElem? h))).2
      rw [hm] at q
      have z := sm.find (eqO_ok q)
      rw [gx] at z
      exact z
def hookS (its : List Itm) (fns : List Fn) (frees : List Str) (ex : (Str → Addr) → Bool) : PySem.W.Hook where
  α := AlD
  obs := fun s => obsS its fns frees ex s.heap.get?
  val := fun _ => (true, fns.map Fn.val)
  says := fun _ h => ∃ K : PySem.W.Frag, K.In h ∧ SaysS its fns frees ex K
  of := fun _ _ e => ⟨_, frG_in, says_of e⟩
  keeps := fun _ _ _ ⟨K, hK, c⟩ k => ⟨K, PySem.W.Frag.In.keeps hK k, c⟩
theorem obsS_eq {its : List Itm} {fns : List Fn} {frees : List Str} {ex : (Str → Addr) → Bool} {g : Addr → Option Obj} {s : Shared} (h : ∀ a, g a = s.heap.get? a) : obsS its fns frees ex g = (hookS its fns frees ex).obs s := by
  have e : g = s.heap.get? := funext h
  rw [e] <;> rfl
end Hm
set_option maxHeartbeats 4000000
/-! facts looked at over small pieces of the heap: own classes, defs with defaults -/
namespace Hu
open PySem PySem.Spec PyProof.Rows L2 He Hm
section
variable {K1 K2 : PySem.W.Frag}
theorem inst (s : Sub K1 K2) {v b : Value} {r : Bool} (h : PySem.W.instIn K1 v b = some r) : PySem.W.instIn K2 v b = some r := by
  obtain ⟨t, ht, e⟩ := Option.bind_eq_some_iff.mp h
  show (PySem.W.typeIn K2 v).bind _ = _
  rw [s.typeV ht]
  exact s.sub e
theorem isFn (s : Sub K1 K2) {v : Value} (h : PySem.W.isFn K1 v = true) : PySem.W.isFn K2 v = true := by
  have e := eq_of_beq (show (PySem.W.typeIn K1 v == some (.type "function")) = true from h)
  show (PySem.W.typeIn K2 v == some (.type "function")) = true
  rw [s.typeV e]
  rfl
theorem makes (s : Sub K1 K2) {C : Addr} (h : PySem.W.makesIn K1 C = true) : PySem.W.makesIn K2 C = true := by
  unfold PySem.W.makesIn at h ⊢
  split at h
  · rename_i oc od cd sl ho
    rw [s _ _ ho]
    obtain ⟨h, h2⟩ := ba h
    obtain ⟨h, h1⟩ := ba h
    dsimp only
    rw [h, s.special (eq_of_beq h1), inst s (eq_of_beq h2)]
    rfl
  · cases h
theorem plainGet (s : Sub K1 K2) {C : Addr} {x : Str} (h : PySem.W.plainGet K1 C x = true) : PySem.W.plainGet K2 C x = true := by
  obtain ⟨h1, h2⟩ := ba (show (PySem.W.findIn K1 (.ref C) "__getattribute__" == some (some (.builtin "object.__getattribute__")) && PySem.W.findIn K1 (.ref C) "__getattr__" == some none) = true from h)
  show (PySem.W.findIn K2 (.ref C) "__getattribute__" == some (some (.builtin "object.__getattribute__")) && PySem.W.findIn K2 (.ref C) "__getattr__" == some none) = true
  rw [s.find (eq_of_beq h1), s.find (eq_of_beq h2)]
  rfl
theorem plainOver (s : Sub K1 K2) {C : Addr} (h : PySem.W.plainOver K1 C = true) : PySem.W.plainOver K2 C = true := by
  obtain ⟨cd, hc, e⟩ := PySem.W.any_some h
  unfold PySem.W.plainOver
  rw [s.cls hc]
  exact e
theorem cls (s : Sub K1 K2) {C : Addr} (c : Cls K1 C) : Cls K2 C := ⟨plainGet s c.pg, s.hasDict c.hd, plainOver s c.po, s.find c.sa⟩
theorem insC (s : Sub K1 K2) {C : Addr} (c : C8.InsC K1 C) : C8.InsC K2 C := by
  refine ⟨cls s c.cl, s.find c.ha, s.special c.hn, s.takes c.htk, s.mro c.hm, ?_⟩
  unfold PySem.W.kitOne
  rw [if_pos (by simp)]
theorem mk (s : Sub K1 K2) {C f : Addr} (m : Mk K1 C f) : Mk K2 C f := ⟨makes s m.makes, s.find m.init, isFn s m.fn, s.keep m.kp⟩
theorem dflV (s : Sub K1 K2) {v : Value} {ds : List V} (h : DflV K1 v ds) : DflV K2 v ds := by
  rcases h with h | ⟨h, T, o, its, n, e, l, d, r⟩
  · exact .inl h
  · exact .inr ⟨h, T, o, its, n, e, s _ _ l, d, r⟩
theorem fund (s : Sub K1 K2) {x qual : Str} {params : Arguments} {body : List Stmt} {scope : Scope} {ds : List V} {f : Addr} {fd : FuncData} (F : FunD K1 x qual params body scope ds [] f fd) : FunD K2 x qual params body scope ds [] f fd := by
  obtain ⟨⟨oc, od, dV, kV, doc, pm, an, cdv, ct, osl, rfl, lk, hcd, hD, hK⟩, kp⟩ := F
  exact ⟨⟨oc, od, dV, kV, doc, pm, an, cdv, ct, osl, rfl, s _ _ lk, s.code hcd, dflV s hD, .inl rfl⟩, s.keep kp⟩
end
/-! ### one def, one method, with its defaults -/
structure Fn where
  x : Str
  m : Option Str
  name : Str
  qual : Str
  params : Arguments
  body : List Stmt
  scope : Scope
  dfl : List V
  pr : Bool := false
/-- a property's getter -/
def prA (K : PySem.W.Frag) (p : Addr) : Addr := match PySem.W.recIn K p "property" with
  | some (.ref g :: _) => g
  | _ => p
def prB (K : PySem.W.Frag) (C : Addr) (m : Str) (a : Addr) : Bool := match PySem.W.findIn K (.ref C) m with
  | some (some (.ref p)) => eqO (PySem.W.specialIn K (.ref p) "__get__") (some (some (.builtin "property.__get__"))) && (decide (PySem.W.takesIn K (.ref p) = some true) && (match PySem.W.recIn K p "property" with
    | some (.ref g :: _) => decide (g = a)
    | _ => false))
  | _ => false
theorem recS {K1 K2 : PySem.W.Frag} (s : Sub K1 K2) {p : Addr} {T : String} {vs : List Value} (h : PySem.W.recIn K1 p T = some vs) : PySem.W.recIn K2 p T = some vs := by
  unfold PySem.W.recIn at h ⊢
  split at h
  · rename_i n d ws sl ho
    rw [s _ _ ho]
    exact h
  · cases h
theorem prB_ok {K1 K2 : PySem.W.Frag} (s : Sub K1 K2) {C : Addr} {m : Str} {a : Addr} (h : prB K1 C m a = true) : ∃ p, PropOf K2 C m p a := by
  unfold prB at h
  split at h
  · rename_i p hp
    obtain ⟨h1, h⟩ := ba h
    obtain ⟨h2, h3⟩ := ba h
    split at h3
    · rename_i g rest hr
      have e := of_decide_eq_true h3
      subst e
      exact ⟨p, s.find hp, s.special (eqO_ok h1), s.takes (of_decide_eq_true h2), rest, recS s hr⟩
    · cases h3
  · cases h
def Fn.adr (g : Addr → Option Obj) (d : Fn) : Addr := match d.m with
  | none => gaG g d.x
  | some m => if d.pr then prA (frG g (growFrom g 2 [gaG g d.x])) (ma (frG g (growFrom g 2 [gaG g d.x])) (gaG g d.x) m) else ma (frG g (growFrom g 2 [gaG g d.x])) (gaG g d.x) m
def Fn.as (g : Addr → Option Obj) (d : Fn) : List Addr := growFrom g 1 [d.adr g]
def Fn.as2 (g : Addr → Option Obj) (d : Fn) : List Addr := match d.m with
  | none => []
  | some _ => growFrom g 2 [gaG g d.x]
def fnB (K : PySem.W.Frag) (a : Addr) (q : Str) (ds : List V) : Bool := PySem.W.keepIn K (.ref a) && (match K.lookup a with
  | some ⟨_, _, .func fd, _⟩ => PySem.W.codeIn K fd.code q && dflB K fd.defaults ds
  | _ => false)
def Fn.ok (g : Addr → Option Obj) (d : Fn) : Bool := fnB (frG g (d.as g)) (d.adr g) d.qual d.dfl && (match d.m with
  | none => true
  | some m => if d.pr then prB (frG g (growFrom g 2 [gaG g d.x])) (gaG g d.x) m (d.adr g) else eqO (PySem.W.findIn (frG g (growFrom g 2 [gaG g d.x])) (.ref (gaG g d.x)) m) (some (some (.ref (d.adr g)))))
def Fn.w (g : Addr → Option Obj) (d : Fn) : FnW := match g (d.adr g) with
  | some ⟨_, _, .func fd, _⟩ => some (fd.name, fd.qualname, fd.params, fd.body, fd.scope, fd.globals, fd.closure, fd.builtins)
  | _ => none
def Fn.val (d : Fn) : FnW := some (d.name, d.qual, d.params, .stmts d.body, d.scope, mainGlobals, [], builtinsNs)
theorem Fn.fund {g : Addr → Option Obj} {d : Fn} (e : d.w g = d.val) (c : d.ok g = true) : ∃ fd, FunD (frG g (d.as g)) d.name d.qual d.params d.body d.scope d.dfl [] (d.adr g) fd := by
  obtain ⟨kp, c2⟩ := ba (show (PySem.W.keepIn (frG g (d.as g)) (.ref (d.adr g)) && _) = true from (ba c).1)
  cases q : (frG g (d.as g)).lookup (d.adr g) with
  | none =>
    rw [q] at c2
    cases c2
  | some o =>
    have hg := frG_at _ q
    unfold Fn.w at e
    rw [hg] at e
    obtain ⟨oc, od, dt, osl⟩ := o
    rw [q] at c2
    cases dt with
    | func fd =>
      obtain ⟨n1, n2, n3, n4, n5, n6, n7, n8, n9, n10, n11, n12, n13, n14, n15⟩ := fd
      have e2 : (some (n1, n2, n3, n4, n5, n6, n7, n15) : FnW) = some (d.name, d.qual, d.params, .stmts d.body, d.scope, mainGlobals, [], builtinsNs) := e
      simp only [Option.some.injEq, Prod.mk.injEq] at e2
      obtain ⟨h1, h2, h3, h4, h5, h6, h7, h8⟩ := e2
      subst h1 h2 h3 h4 h5 h6 h7 h8
      obtain ⟨k1, k3⟩ := ba (show (PySem.W.codeIn (frG g (d.as g)) n13 d.qual && dflB (frG g (d.as g)) n8 d.dfl) = true from c2)
      exact ⟨_, ⟨oc, od, n8, n9, n10, n11, n12, n13, n14, osl, rfl, q, k1, dflB_ok k3, .inl rfl⟩, kp⟩
    | _ => cases c2
/-! ### the Hook -/
def obsS (its : List Itm) (fns : List Fn) (frees : List Str) (ex : (Str → Addr) → Bool) (g : Addr → Option Obj) : AlD :=
  (its.all (Itm.ok g) && (fns.all (Fn.ok g) && (frees.all (fun x => eqO (PySem.W.nsIn (frG g [mainGlobals]) mainGlobals x) (some none)) && ex (gaG g))), fns.map (Fn.w g))
def wholeK (its : List Itm) (fns : List Fn) (g : Addr → Option Obj) : PySem.W.Frag := frG g (mainGlobals :: (its.flatMap (Itm.as g) ++ (fns.flatMap (Fn.as g) ++ fns.flatMap (Fn.as2 g))))
/-- what the end leans on -/
structure SaysS (its : List Itm) (fns : List Fn) (frees : List Str) (ex : (Str → Addr) → Bool) (K : PySem.W.Frag) : Prop where
  glo : ∀ (j : Nat) (i : Itm), its[j]? = some i → PySem.W.nsIn K mainGlobals i.x = some (some (.ref (ga K i.x)))
  it : ∃ γ : Str → Addr, (∀ (j : Nat) (i : Itm), its[j]? = some i → γ i.x = ga K i.x ∧ ∃ K1, Sub K1 K ∧ i.ck γ K1 (ga K i.x) = true) ∧ ex γ = true
  fn : ∀ (j : Nat) (d : Fn), fns[j]? = some d → (∃ (k : Nat) (i : Itm), its[k]? = some i ∧ i.x = d.x) → ∃ (a : Addr) (fd : FuncData), FunD K d.name d.qual d.params d.body d.scope d.dfl [] a fd ∧ (d.m = none → a = ga K d.x) ∧ (∀ m, d.m = some m → d.pr = false → PySem.W.findIn K (.ref (ga K d.x)) m = some (some (.ref a))) ∧ ∀ m, d.m = some m → d.pr = true → ∃ p, PropOf K (ga K d.x) m p a
  free : ∀ x ∈ frees, PySem.W.nsIn K mainGlobals x = some none
theorem says_of {its : List Itm} {fns : List Fn} {frees : List Str} {ex : (Str → Addr) → Bool} {g : Addr → Option Obj} (e : obsS its fns frees ex g = (true, fns.map Fn.val)) : SaysS its fns frees ex (wholeK its fns g) := by
  have e1 : (its.all (Itm.ok g) && (fns.all (Fn.ok g) && (frees.all (fun x => eqO (PySem.W.nsIn (frG g [mainGlobals]) mainGlobals x) (some none)) && ex (gaG g)))) = true := congrArg (fun z : AlD => z.1) e
  have e2 : fns.map (Fn.w g) = fns.map Fn.val := congrArg (fun z : AlD => z.2) e
  obtain ⟨c1, c2⟩ := ba e1
  obtain ⟨c2, c3⟩ := ba c2
  obtain ⟨c3, c4⟩ := ba c3
  have s0 : Sub (frG g [mainGlobals]) (wholeK its fns g) := sub_of fun a h => by
    have : a = mainGlobals := by simpa using h
    rw [this]
    exact List.mem_cons_self ..
  have gl : ∀ (j : Nat) (i : Itm), its[j]? = some i → PySem.W.nsIn (wholeK its fns g) mainGlobals i.x = some (some (.ref (gaG g i.x))) := fun j i h =>
    s0.ns (eqO_ok (ba (List.all_eq_true.mp c1 i (List.mem_of_getElem? h))).1)
  have ge : ∀ (j : Nat) (i : Itm), its[j]? = some i → gaG g i.x = ga (wholeK its fns g) i.x := fun j i h => by
    unfold ga
    rw [gl j i h]
  refine ⟨fun j i h => by rw [← ge j i h]; exact gl j i h, ⟨gaG g, fun j i h => ⟨ge j i h, frG g (i.as g), ?_, ?_⟩, c4⟩, fun j d h hx => ?_, fun x hx => s0.ns (eqO_ok (List.all_eq_true.mp c3 x hx))⟩
  · exact sub_of fun a ha => List.mem_cons_of_mem _ (List.mem_append_left _ (List.mem_flatMap.mpr ⟨i, List.mem_of_getElem? h, ha⟩))
  · rw [← ge j i h]
    exact (ba (List.all_eq_true.mp c1 i (List.mem_of_getElem? h))).2
  · have e3 : (fns.map (Fn.w g))[j]? = (fns.map Fn.val)[j]? := by rw [e2]
    rw [List.getElem?_map, List.getElem?_map, h] at e3
    obtain ⟨fd, F⟩ := Fn.fund (Option.some.inj e3) (List.all_eq_true.mp c2 d (List.mem_of_getElem? h))
    have sd : Sub (frG g (d.as g)) (wholeK its fns g) := sub_of fun a ha => List.mem_cons_of_mem _ (List.mem_append_right _ (List.mem_append_left _ (List.mem_flatMap.mpr ⟨d, List.mem_of_getElem? h, ha⟩)))
    obtain ⟨k, i, hk, hix⟩ := hx
    have gx : gaG g d.x = ga (wholeK its fns g) d.x := by
      rw [← hix]
      exact ge k i hk
    refine ⟨d.adr g, fd, Hu.fund sd F, fun hm => ?_, fun m hm hp => ?_, fun m hm hp => ?_⟩
    · unfold Fn.adr
      rw [hm, ← gx]
    · have sm : Sub (frG g (growFrom g 2 [gaG g d.x])) (wholeK its fns g) := sub_of fun a ha => List.mem_cons_of_mem _ (List.mem_append_right _ (List.mem_append_right _ (List.mem_flatMap.mpr ⟨d, List.mem_of_getElem? h, by
        unfold Fn.as2
        rw [hm]
        exact ha⟩)))
      have q := (ba (List.all_eq_true.mp c2 d (List.mem_of_getElem? h))).2
      rw [hm] at q
      dsimp only at q
      rw [hp] at q
      have z := sm.find (eqO_ok q)
      rw [gx] at z
      exact z
    · have sm : Sub (frG g (growFrom g 2 [gaG g d.x])) (wholeK its fns g) := sub_of fun a ha => List.mem_cons_of_mem _ (List.mem_append_right _ (List.mem_append_right _ (List.mem_flatMap.mpr ⟨d, List.mem_of_getElem? h, by
        unfold Fn.as2
        rw [hm]
        exact ha⟩)))
      have q := (ba (List.all_eq_true.mp c2 d (List.mem_of_getElem? h))).2
      rw [hm] at q
      dsimp only at q
      rw [hp] at q
      rw [← gx]
      exact prB_ok sm q
def hookS (its : List Itm) (fns : List Fn) (frees : List Str) (ex : (Str → Addr) → Bool) : PySem.W.Hook where
  α := AlD
  obs := fun s => obsS its fns frees ex s.heap.get?
  val := fun _ => (true, fns.map Fn.val)
  says := fun _ h => ∃ K : PySem.W.Frag, K.In h ∧ SaysS its fns frees ex K
  of := fun _ _ e => ⟨_, frG_in, says_of e⟩
  keeps := fun _ _ _ ⟨K, hK, c⟩ k => ⟨K, PySem.W.Frag.In.keeps hK k, c⟩
theorem obsS_eq {its : List Itm} {fns : List Fn} {frees : List Str} {ex : (Str → Addr) → Bool} {g : Addr → Option Obj} {s : Shared} (h : ∀ a, g a = s.heap.get? a) : obsS its fns frees ex g = (hookS its fns frees ex).obs s := by
  have e : g = s.heap.get? := funext h
  rw [e] <;> rfl
/-! ### what is looked at of an own class -/
def clsB (K : PySem.W.Frag) (C : Addr) (fs ms : List Str) : Bool :=
  PySem.W.plainGet K C Str.empty && (PySem.W.hasDictIn K C && (PySem.W.plainOver K C && (eqO (PySem.W.findIn K (.ref C) "__setattr__") (some (some (.builtin "object.__setattr__"))) &&
  (PySem.W.makesIn K C && (PySem.W.keepIn K (.ref C) && (eqO (PySem.W.findIn K (.ref C) "__class__") (some (some (.builtin "object.__class__"))) && (comB K && (decide (PySem.W.mroIn K C (.type "object") = some true) &&
  (decide (PySem.W.typeIn K (.ref C) = some (.type "type")) && ((fs.all fun f => eqO (PySem.W.findIn K (.ref C) f) (some none)) &&
  ms.all fun m => PySem.W.isFn K (.ref (ma K C m)) && eqO (PySem.W.findIn K (.ref C) m) (some (some (.ref (ma K C m))))))))))))))
structure ClsK (K : PySem.W.Frag) (C : Addr) (fs ms : List Str) : Prop where
  cl : Cls K C
  mkI : PySem.W.makesIn K C = true
  kp : PySem.W.keepIn K (.ref C) = true
  ins : C8.InsC K C
  ty : PySem.W.typeIn K (.ref C) = some (.type "type")
  cd : ∃ cd, PySem.W.clsIn K C = some cd
  no : ∀ f ∈ fs, NoAttr K C f
  me : ∀ m ∈ ms, ∃ a, PySem.W.findIn K (.ref C) m = some (some (.ref a)) ∧ PySem.W.isFn K (.ref a) = true
theorem clsK_of {K1 K : PySem.W.Frag} (s : Sub K1 K) {C : Addr} {fs ms : List Str} (h : clsB K1 C fs ms = true) : ClsK K C fs ms := by
  unfold clsB at h
  obtain ⟨a1, h⟩ := ba h
  obtain ⟨a2, h⟩ := ba h
  obtain ⟨a3, h⟩ := ba h
  obtain ⟨a4, h⟩ := ba h
  obtain ⟨a5, h⟩ := ba h
  obtain ⟨a6, h⟩ := ba h
  obtain ⟨a7, h⟩ := ba h
  obtain ⟨a8, h⟩ := ba h
  obtain ⟨a9, h⟩ := ba h
  obtain ⟨a10, h⟩ := ba h
  obtain ⟨a11, a12⟩ := ba h
  obtain ⟨c1, c2⟩ := ba a8
  have c : Cls K1 C := ⟨a1, a2, a3, eqO_ok a4⟩
  have i : C8.InsC K1 C := ⟨c, eqO_ok a7, of_decide_eq_true c1, of_decide_eq_true c2, of_decide_eq_true a9, by
    unfold PySem.W.kitOne
    rw [if_pos (by simp)]⟩
  obtain ⟨cd, hc, _⟩ := PySem.W.any_some a2
  refine ⟨cls s c, makes s a5, s.keep a6, insC s i, s.typ (of_decide_eq_true a10), ⟨cd, s.cls hc⟩, fun f hf => s.find (eqO_ok (List.all_eq_true.mp a11 f hf)), fun m hm => ?_⟩
  obtain ⟨q1, q2⟩ := ba (List.all_eq_true.mp a12 m hm)
  exact ⟨_, s.find (eqO_ok q2), isFn s q1⟩
/-- isinstance of an instance of C, of another own class D -/
theorem kit_no {K : PySem.W.Frag} {C D : Addr} {fs' ms' : List Str} (y : ClsK K D fs' ms') (ne : C ≠ D) (h : PySem.W.mroIn K C (.ref D) = some false) : PySem.W.kitOne K (.ref C) (.ref D) = some false := by
  unfold PySem.W.kitOne
  have n : (Value.ref C == Value.ref D) = false := by simpa using ne
  rw [n, if_neg Bool.false_ne_true]
  obtain ⟨cd, hc⟩ := y.cd
  have e2 : ((PySem.W.clsIn K D).isSome && PySem.W.typeIn K (.ref D) == some (.type "type")) = true := by rw [hc, y.ty] <;> rfl
  show (if ((PySem.W.clsIn K D).isSome && PySem.W.typeIn K (.ref D) == some (.type "type")) = true then PySem.W.subIn K (.ref C) (.ref D) else none) = _
  rw [if_pos e2]
  exact h
end Hu
set_option maxHeartbeats 0
namespace My
open PySem PySem.Spec PyProof.Rows L2 He Hm Hu Ne
def dFn (x : Str) (st : Stmt) : Hu.Fn := ⟨x, none, x, x, defArgs st, defBody st, defScope st, [], false⟩
def mFn (x m qual : Str) (st : Stmt) (ds : List V) : Hu.Fn := ⟨x, some m, m, qual, defArgs st, defBody st, defScope st, ds, false⟩
def pFn (x m qual : Str) (st : Stmt) : Hu.Fn := ⟨x, some m, m, qual, defArgs st, defBody st, defScope st, [], true⟩
def fns : List Hu.Fn := [dFn "is_whole" (topS 4), dFn "is_sequence" (topS 5), dFn "is_couple" (topS 6), dFn "is_state" (topS 7), dFn "is_deed" (topS 8), dFn "is_goals" (topS 9), dFn "is_ends" (topS 10), dFn "is_side" (topS 11), dFn "is_row" (topS 12), dFn "sign_stands" (topS 13), dFn "canon" (topS 17), dFn "canon_of" (topS 18), dFn "unlike_rows" (topS 19), dFn "first_places" (topS 20), dFn "plain_ends" (topS 21), dFn "_law_source" (topS 23), dFn "_law_take" (topS 24), dFn "_law_moves" (topS 25), dFn "_law_deed" (topS 26), dFn "_law_side" (topS 27), dFn "_law_plain_rows" (topS 28), dFn "_law_strip" (topS 29), dFn "_law_tidy" (topS 30), dFn "_law_canon" (topS 31), dFn "_law_lots" (topS 32), dFn "_law_end_states" (topS 33), dFn "_law_tidy_rows" (topS 34), dFn "_law_shuffled" (topS 35), dFn "_law_renamed" (topS 36), dFn "_law_led" (topS 37), dFn "_law_is_canon" (topS 38), dFn "law" (topS 39), mFn "Book" "__init__" "Book.__init__" (inClass (topS 14) 0) [.int 1], pFn "Book" "key" "Book.key" (inClass (topS 14) 1), mFn "Book" "__eq__" "Book.__eq__" (inClass (topS 14) 2) [], mFn "Canon" "__init__" "Canon.__init__" (inClass (topS 16) 0) [], mFn "Canon" "__eq__" "Canon.__eq__" (inClass (topS 16) 1) []]
def mkG (x : Str) : Itm := ⟨x, 0, fun _ _ _ => true⟩
def neB (K : PySem.W.Frag) (a : Addr) : Bool := eqO (PySem.W.findIn K (.ref a) "__ne__") (some (some (.builtin "object.__ne__")))
def mkC (x : Str) (fs ms others : List Str) : Itm := ⟨x, 3, fun γ K a => clsB K a fs ms && ((others.all fun y => decide (a ≠ γ y) && decide (PySem.W.mroIn K a (.ref (γ y)) = some false)) && neB K a)⟩
def its : List Itm := [mkG "is_whole", mkG "is_sequence", mkG "is_couple", mkG "is_state", mkG "is_deed", mkG "is_goals", mkG "is_ends", mkG "is_side", mkG "is_row", mkG "sign_stands", mkG "canon", mkG "canon_of", mkG "unlike_rows", mkG "first_places", mkG "plain_ends", mkG "_law_source", mkG "_law_take", mkG "_law_moves", mkG "_law_deed", mkG "_law_side", mkG "_law_plain_rows", mkG "_law_strip", mkG "_law_tidy", mkG "_law_canon", mkG "_law_lots", mkG "_law_end_states", mkG "_law_tidy_rows", mkG "_law_shuffled", mkG "_law_renamed", mkG "_law_led", mkG "_law_is_canon", mkG "law", mkC "Book" ["rows", "deeds", "ends", "states"] ["__init__", "__eq__"] ["Canon"], mkC "Canon" ["book", "letters", "unknowns"] ["__init__", "__eq__"] ["Book"]]
def frees : List Str := ["len", "int", "bool", "list", "tuple", "isinstance", "all", "range", "min", "enumerate", "zip", "any", "sum", "max", "sorted", "dict", "repr", "str", "set"]
def ex (_ : Str → Addr) : Bool := true
abbrev R : PySem.W.OpenRow := PySem.W.OpenLaw.row PySem.Challenge.rw_pressedwords_k04_whole_canon_by_renaming
abbrev hk : PySem.W.Hook := Hu.hookS its fns frees ex
def ob (s : PySem.W.SharedT) : AlD := Hu.obsS its fns frees ex (HandSHeadRun.getT s)
theorem ob_eq (s : PySem.W.SharedT) : ob s = hk.obs s.abs := Hu.obsS_eq (HandSHeadRun.getT_eq s)
def nm0 : List PySem.Str := ["PressError", "BadBook", "Book", "Canon", "is_whole", "is_sequence", "is_couple", "is_state", "is_deed", "is_goals", "is_ends", "is_side", "is_row", "sign_stands", "canon", "canon_of", "unlike_rows", "first_places", "plain_ends", "_law_source", "_law_take", "_law_moves", "_law_deed", "_law_side", "_law_plain_rows", "_law_strip", "_law_tidy", "_law_canon", "_law_lots", "_law_end_states"]
def nm1 : List PySem.Str := ["_law_tidy_rows", "_law_shuffled", "_law_renamed", "_law_led", "_law_is_canon"]
def loose : List PySem.Str := nm0 ++ (nm1)
theorem run (w : World) : HandSHeadRun.RunEq R (PySem.W.view R.prog [39]) hk ob 12500 loose w := by
  intro os
  kernel_rfl
section
variable {P : Program} {w : World} {K : PySem.W.Frag} {h : Heap} {mg : Str → Option Value}
theorem dn_of (X : K.In h) (G : h.Ns mainGlobals mg) (c : Hu.SaysS its fns frees ex K) (j : Nat) {x : Str} {st : Stmt} {ps : List Str} (hf : fns[j]? = some (dFn x st)) (hi : its[j]? = some (mkG x))
    (hb : ∀ (kV doc pm : Value) (an : Option Addr) (cdv ct : Value) (us : List Value), us.length = ps.length → bindArgs (PySem.W.fnOf x x (defArgs st) (defBody st) (defScope st) .none kV doc pm an cdv ct) ⟨us, []⟩ = pure (ps.zip us)) : ∃ D : Dn K mg x st ps, D.f = ga K x := by
  obtain ⟨a, fd, F, ha, _⟩ := c.fn j _ hf ⟨_, _, hi, rfl⟩
  have e : a = ga K x := ha rfl
  subst e
  exact ⟨⟨_, fd, F, PySem.W.mg_of X G (c.glo j _ hi), FunD.bindsN F hb⟩, rfl⟩
theorem fr_of (X : K.In h) (G : h.Ns mainGlobals mg) (c : Hu.SaysS its fns frees ex K) {x : Str} (hx : x ∈ frees) : mg x = none := PySem.W.mg_none_of X G (c.free x hx)
theorem cl_of (X : K.In h) (G : h.Ns mainGlobals mg) (c : Hu.SaysS its fns frees ex K) (j : Nat) {x : Str} {fs ms others : List Str} (hi : its[j]? = some (mkC x fs ms others)) : mg x = some (.ref (ga K x)) ∧ ClsK K (ga K x) fs ms := by
  obtain ⟨γ, hγ, _⟩ := c.it
  obtain ⟨_, K1, s1, q⟩ := hγ j _ hi
  exact ⟨PySem.W.mg_of X G (c.glo j _ hi), clsK_of s1 (ba (show (clsB K1 (ga K x) fs ms && _) = true from q)).1⟩
theorem no_of (c : Hu.SaysS its fns frees ex K) (j i : Nat) {x y : Str} {fs ms os fs' ms' os' : List Str} (hj : its[j]? = some (mkC x fs ms os)) (hi : its[i]? = some (mkC y fs' ms' os')) (hy : y ∈ os) (k : ClsK K (ga K y) fs' ms') : PySem.W.kitOne K (.ref (ga K x)) (.ref (ga K y)) = some false := by
  obtain ⟨γ, hγ, _⟩ := c.it
  obtain ⟨_, K1, s1, q⟩ := hγ j _ hj
  have e : γ y = ga K y := (hγ i _ hi).1
  obtain ⟨q1, q2⟩ := ba (List.all_eq_true.mp (ba (ba (show (clsB K1 (ga K x) fs ms && ((os.all fun y => decide (ga K x ≠ γ y) && decide (PySem.W.mroIn K1 (ga K x) (.ref (γ y)) = some false)) && neB K1 (ga K x))) = true from q)).2).1 y hy)
  have q1 := of_decide_eq_true q1
  have q2 := of_decide_eq_true q2
  rw [e] at q1 q2
  exact kit_no k q1 (s1.mro q2)
theorem me_of (c : Hu.SaysS its fns frees ex K) (j i : Nat) {x m qual : Str} {st : Stmt} {ds : List V} {it : Itm} (hf : fns[j]? = some (mFn x m qual st ds)) (hi : its[i]? = some it) (hx : it.x = x) : ∃ a fd, FunD K m qual (defArgs st) (defBody st) (defScope st) ds [] a fd ∧ PySem.W.findIn K (.ref (ga K x)) m = some (some (.ref a)) := by
  obtain ⟨a, fd, F, _, hm, _⟩ := c.fn j _ hf ⟨_, _, hi, hx⟩
  exact ⟨a, fd, F, hm m rfl rfl⟩
theorem pr_of (c : Hu.SaysS its fns frees ex K) (j i : Nat) {x m qual : Str} {st : Stmt} {it : Itm} (hf : fns[j]? = some (pFn x m qual st)) (hi : its[i]? = some it) (hx : it.x = x) : ∃ a fd, FunD K m qual (defArgs st) (defBody st) (defScope st) [] [] a fd ∧ ∃ p, PropOf K (ga K x) m p a := by
  obtain ⟨a, fd, F, _, _, hp⟩ := c.fn j _ hf ⟨_, _, hi, hx⟩
  exact ⟨a, fd, F, hp m rfl rfl⟩
theorem ne_of (c : Hu.SaysS its fns frees ex K) (j : Nat) {x : Str} {fs ms others : List Str} (hi : its[j]? = some (mkC x fs ms others)) : PySem.W.findIn K (.ref (ga K x)) "__ne__" = some (some (.builtin "object.__ne__")) := by
  obtain ⟨γ, hγ, _⟩ := c.it
  obtain ⟨_, K1, s1, q⟩ := hγ j _ hi
  exact s1.find (eqO_ok (ba (ba (show (clsB K1 (ga K x) fs ms && ((others.all fun y => decide (ga K x ≠ γ y) && decide (PySem.W.mroIn K1 (ga K x) (.ref (γ y)) = some false)) && neB K1 (ga K x))) = true from q)).2).2)
theorem law_fn (X : K.In h) (G : h.Ns mainGlobals mg) (c : Hu.SaysS its fns frees ex K) {fa : Addr} (hfa : mg ("law" : Str) = some (.ref fa)) : ∃ fd : FuncData, (∀ (s : Shared) (v : Value), BindsTo s fd ⟨[v], []⟩ [("_law_script", v)]) ∧ ∀ base : Heap, K.In base → base.Ns mainGlobals mg → FnOk P w K mg base CX0 9 fa fd ["_law_script"] (sp_law K) := by
  obtain ⟨D_is_whole, _⟩ := dn_of (st := s_is_whole) (ps := ["thing"]) X G c 0 (x := "is_whole") rfl rfl fun _ _ _ _ _ _ us hl => match us, hl with | [_], _ => rfl
  obtain ⟨D_is_sequence, _⟩ := dn_of (st := s_is_sequence) (ps := ["thing"]) X G c 1 (x := "is_sequence") rfl rfl fun _ _ _ _ _ _ us hl => match us, hl with | [_], _ => rfl
  obtain ⟨D_is_couple, _⟩ := dn_of (st := s_is_couple) (ps := ["thing"]) X G c 2 (x := "is_couple") rfl rfl fun _ _ _ _ _ _ us hl => match us, hl with | [_], _ => rfl
  obtain ⟨D_is_state, _⟩ := dn_of (st := s_is_state) (ps := ["thing", "states"]) X G c 3 (x := "is_state") rfl rfl fun _ _ _ _ _ _ us hl => match us, hl with | [_, _], _ => rfl
  obtain ⟨D_is_deed, _⟩ := dn_of (st := s_is_deed) (ps := ["thing", "states"]) X G c 4 (x := "is_deed") rfl rfl fun _ _ _ _ _ _ us hl => match us, hl with | [_, _], _ => rfl
  obtain ⟨D_is_goals, _⟩ := dn_of (st := s_is_goals) (ps := ["thing", "states"]) X G c 5 (x := "is_goals") rfl rfl fun _ _ _ _ _ _ us hl => match us, hl with | [_, _], _ => rfl
  obtain ⟨D_is_ends, _⟩ := dn_of (st := s_is_ends) (ps := ["thing", "states"]) X G c 6 (x := "is_ends") rfl rfl fun _ _ _ _ _ _ us hl => match us, hl with | [_, _], _ => rfl
  obtain ⟨D_is_side, _⟩ := dn_of (st := s_is_side) (ps := ["thing"]) X G c 7 (x := "is_side") rfl rfl fun _ _ _ _ _ _ us hl => match us, hl with | [_], _ => rfl
  obtain ⟨D_is_row, _⟩ := dn_of (st := s_is_row) (ps := ["thing"]) X G c 8 (x := "is_row") rfl rfl fun _ _ _ _ _ _ us hl => match us, hl with | [_], _ => rfl
  obtain ⟨D_sign_stands, _⟩ := dn_of (st := s_sign_stands) (ps := ["sign", "letters", "unknowns"]) X G c 9 (x := "sign_stands") rfl rfl fun _ _ _ _ _ _ us hl => match us, hl with | [_, _, _], _ => rfl
  obtain ⟨D_canon, _⟩ := dn_of (st := s_canon) (ps := ["book"]) X G c 10 (x := "canon") rfl rfl fun _ _ _ _ _ _ us hl => match us, hl with | [_], _ => rfl
  obtain ⟨D_canon_of, _⟩ := dn_of (st := s_canon_of) (ps := ["tidied", "old_deeds", "old_ends", "states"]) X G c 11 (x := "canon_of") rfl rfl fun _ _ _ _ _ _ us hl => match us, hl with | [_, _, _, _], _ => rfl
  obtain ⟨D_unlike_rows, _⟩ := dn_of (st := s_unlike_rows) (ps := ["rows"]) X G c 12 (x := "unlike_rows") rfl rfl fun _ _ _ _ _ _ us hl => match us, hl with | [_], _ => rfl
  obtain ⟨D_first_places, _⟩ := dn_of (st := s_first_places) (ps := ["numbers"]) X G c 13 (x := "first_places") rfl rfl fun _ _ _ _ _ _ us hl => match us, hl with | [_], _ => rfl
  obtain ⟨D_plain_ends, _⟩ := dn_of (st := s_plain_ends) (ps := ["ends", "states"]) X G c 14 (x := "plain_ends") rfl rfl fun _ _ _ _ _ _ us hl => match us, hl with | [_, _], _ => rfl
  obtain ⟨D__law_source, _⟩ := dn_of (st := s__law_source) (ps := ["_law_script"]) X G c 15 (x := "_law_source") rfl rfl fun _ _ _ _ _ _ us hl => match us, hl with | [_], _ => rfl
  obtain ⟨D__law_take, _⟩ := dn_of (st := s__law_take) (ps := ["_law_source_here", "_law_many"]) X G c 16 (x := "_law_take") rfl rfl fun _ _ _ _ _ _ us hl => match us, hl with | [_, _], _ => rfl
  obtain ⟨D__law_moves, _⟩ := dn_of (st := s__law_moves) (ps := ["_law_source_here", "_law_states", "_law_letters"]) X G c 17 (x := "_law_moves") rfl rfl fun _ _ _ _ _ _ us hl => match us, hl with | [_, _, _], _ => rfl
  obtain ⟨D__law_deed, _⟩ := dn_of (st := s__law_deed) (ps := ["_law_moves_here", "_law_places"]) X G c 18 (x := "_law_deed") rfl rfl fun _ _ _ _ _ _ us hl => match us, hl with | [_, _], _ => rfl
  obtain ⟨D__law_side, _⟩ := dn_of (st := s__law_side) (ps := ["_law_source_here", "_law_letters", "_law_unknowns", "_law_most"]) X G c 19 (x := "_law_side") rfl rfl fun _ _ _ _ _ _ us hl => match us, hl with | [_, _, _, _], _ => rfl
  obtain ⟨D__law_plain_rows, _⟩ := dn_of (st := s__law_plain_rows) (ps := ["_law_source_here", "_law_many", "_law_letters", "_law_unknowns", "_law_most"]) X G c 20 (x := "_law_plain_rows") rfl rfl fun _ _ _ _ _ _ us hl => match us, hl with | [_, _, _, _, _], _ => rfl
  obtain ⟨D__law_strip, _⟩ := dn_of (st := s__law_strip) (ps := ["_law_left", "_law_right"]) X G c 21 (x := "_law_strip") rfl rfl fun _ _ _ _ _ _ us hl => match us, hl with | [_, _], _ => rfl
  obtain ⟨D__law_tidy, _⟩ := dn_of (st := s__law_tidy) (ps := ["_law_rows"]) X G c 22 (x := "_law_tidy") rfl rfl fun _ _ _ _ _ _ us hl => match us, hl with | [_], _ => rfl
  obtain ⟨D__law_canon, _⟩ := dn_of (st := s__law_canon) (ps := ["_law_rows", "_law_deeds", "_law_ends", "_law_states"]) X G c 23 (x := "_law_canon") rfl rfl fun _ _ _ _ _ _ us hl => match us, hl with | [_, _, _, _], _ => rfl
  obtain ⟨D__law_lots, _⟩ := dn_of (st := s__law_lots) (ps := ["_law_source_here", "_law_moves_here", "_law_many"]) X G c 24 (x := "_law_lots") rfl rfl fun _ _ _ _ _ _ us hl => match us, hl with | [_, _, _], _ => rfl
  obtain ⟨D__law_end_states, _⟩ := dn_of (st := s__law_end_states) (ps := ["_law_source_here", "_law_states"]) X G c 25 (x := "_law_end_states") rfl rfl fun _ _ _ _ _ _ us hl => match us, hl with | [_, _], _ => rfl
  obtain ⟨D__law_tidy_rows, _⟩ := dn_of (st := s__law_tidy_rows) (ps := ["_law_source_here", "_law_letters", "_law_unknowns"]) X G c 26 (x := "_law_tidy_rows") rfl rfl fun _ _ _ _ _ _ us hl => match us, hl with | [_, _, _], _ => rfl
  obtain ⟨D__law_shuffled, _⟩ := dn_of (st := s__law_shuffled) (ps := ["_law_source_here", "_law_many"]) X G c 27 (x := "_law_shuffled") rfl rfl fun _ _ _ _ _ _ us hl => match us, hl with | [_, _], _ => rfl
  obtain ⟨D__law_renamed, _⟩ := dn_of (st := s__law_renamed) (ps := ["_law_side_here", "_law_to_letter", "_law_to_unknown"]) X G c 28 (x := "_law_renamed") rfl rfl fun _ _ _ _ _ _ us hl => match us, hl with | [_, _, _], _ => rfl
  obtain ⟨D__law_led, _⟩ := dn_of (st := s__law_led) (ps := ["_law_things", "_law_to"]) X G c 29 (x := "_law_led") rfl rfl fun _ _ _ _ _ _ us hl => match us, hl with | [_, _], _ => rfl
  obtain ⟨D__law_is_canon, _⟩ := dn_of (st := s__law_is_canon) (ps := ["_law_told", "_law_due"]) X G c 30 (x := "_law_is_canon") rfl rfl fun _ _ _ _ _ _ us hl => match us, hl with | [_, _], _ => rfl
  obtain ⟨m_Book, k_Book⟩ := cl_of X G c 32 (x := "Book") rfl
  obtain ⟨m_Canon, k_Canon⟩ := cl_of X G c 33 (x := "Canon") rfl
  obtain ⟨a_Book_init, fd_Book_init, F_Book_init, i_Book_init⟩ := me_of c 32 32 (x := "Book") (m := "__init__") (st := s_Book_init) rfl rfl rfl
  obtain ⟨a_Book_key, fd_Book_key, F_Book_key, i_Book_key⟩ := pr_of c 33 32 (x := "Book") (m := "key") (st := s_Book_key) rfl rfl rfl
  obtain ⟨a_Book_eq, fd_Book_eq, F_Book_eq, i_Book_eq⟩ := me_of c 34 32 (x := "Book") (m := "__eq__") (st := s_Book_eq) rfl rfl rfl
  obtain ⟨a_Canon_init, fd_Canon_init, F_Canon_init, i_Canon_init⟩ := me_of c 35 33 (x := "Canon") (m := "__init__") (st := s_Canon_init) rfl rfl rfl
  obtain ⟨a_Canon_eq, fd_Canon_eq, F_Canon_eq, i_Canon_eq⟩ := me_of c 36 33 (x := "Canon") (m := "__eq__") (st := s_Canon_eq) rfl rfl rfl
  obtain ⟨D_law, _⟩ := dn_of (st := s_law) (ps := ["_law_script"]) X G c 31 (x := "law") rfl rfl fun _ _ _ _ _ _ us hl => match us, hl with | [_], _ => rfl
  have e_law : fa = D_law.f := by
    have e := hfa.symm.trans D_law.m
    exact Value.ref.inj (Option.some.inj e)
  subst e_law
  have fr : ∀ {x : Str}, x ∈ frees → mg x = none := fun hx => fr_of X G c hx
  have T : TB mg := ⟨fr (by decide +kernel), fr (by decide +kernel), fr (by decide +kernel), fr (by decide +kernel), fr (by decide +kernel), fr (by decide +kernel), fr (by decide +kernel), fr (by decide +kernel), fr (by decide +kernel), fr (by decide +kernel), fr (by decide +kernel), fr (by decide +kernel), fr (by decide +kernel), fr (by decide +kernel), fr (by decide +kernel), fr (by decide +kernel), fr (by decide +kernel), fr (by decide +kernel), fr (by decide +kernel)⟩
  have TS : TxtS mg := ⟨T.len, T.int, T.list_⟩
  have N_Book := ne_of c 32 (x := "Book") rfl
  have N_Canon := ne_of c (32 + 1) (x := "Canon") rfl
  obtain ⟨C_Book, eB⟩ : ∃ C : BookC K mg, C.C = ga K "Book" := by
    obtain ⟨ds, h1, h2⟩ := FunD.binds1 (ps := ["self", "rows", "deeds", "ends", "states"]) F_Book_init 5 1 (by simp) rfl fun _ _ _ _ _ _ _ us its hl hi => match us, its, hl, hi with | [_, _, _, _, _], [_], _, _ => ⟨_, rfl, rfl⟩
    cases h1
    obtain ⟨a', h3, h4⟩ := k_Book.me "__init__" (by decide +kernel)
    cases i_Book_init.symm.trans h3
    exact ⟨⟨_, _, fd_Book_init, F_Book_init, m_Book, ⟨k_Book.mkI, h3, h4, k_Book.kp⟩, k_Book.cl, h2, k_Book.no _ (by decide +kernel), k_Book.no _ (by decide +kernel), k_Book.no _ (by decide +kernel), k_Book.no _ (by decide +kernel)⟩, rfl⟩
  obtain ⟨C_Canon, eC⟩ : ∃ C : CanonC K mg, C.C = ga K "Canon" := by
    obtain ⟨a', h3, h4⟩ := k_Canon.me "__init__" (by decide +kernel)
    cases i_Canon_init.symm.trans h3
    exact ⟨⟨_, _, fd_Canon_init, F_Canon_init, m_Canon, ⟨k_Canon.mkI, h3, h4, k_Canon.kp⟩, k_Canon.cl, FunD.bindsN F_Canon_init fun _ _ _ _ _ _ us hl => match us, hl with | [_, _, _, _], _ => rfl, k_Canon.no _ (by decide +kernel), k_Canon.no _ (by decide +kernel), k_Canon.no _ (by decide +kernel)⟩, rfl⟩
  rw [← eB] at k_Book i_Book_eq i_Book_key N_Book
  rw [← eC] at k_Canon i_Canon_eq N_Canon
  have I_Book := k_Book.ins
  have I_Canon := k_Canon.ins
  have O_Book := I_Book.hm
  have O_Canon := I_Canon.hm
  obtain ⟨Q_Book⟩ : Nonempty (EqC K "Book.__eq__" s_Book_eq C_Book.C) := by
    obtain ⟨a', h3, h4⟩ := k_Book.me "__eq__" (by decide +kernel)
    cases i_Book_eq.symm.trans h3
    exact ⟨⟨_, fd_Book_eq, F_Book_eq, h3, h4, FunD.bindsN F_Book_eq fun _ _ _ _ _ _ us hl => match us, hl with | [_, _], _ => rfl, I_Book⟩⟩
  obtain ⟨Q_Canon⟩ : Nonempty (EqC K "Canon.__eq__" s_Canon_eq C_Canon.C) := by
    obtain ⟨a', h3, h4⟩ := k_Canon.me "__eq__" (by decide +kernel)
    cases i_Canon_eq.symm.trans h3
    exact ⟨⟨_, fd_Canon_eq, F_Canon_eq, h3, h4, FunD.bindsN F_Canon_eq fun _ _ _ _ _ _ us hl => match us, hl with | [_, _], _ => rfl, I_Canon⟩⟩
  obtain ⟨Y_Key⟩ : Nonempty (KeyC K C_Book.C) := by
    obtain ⟨p, hp⟩ := i_Book_key
    exact ⟨⟨p, _, fd_Book_key, hp, F_Book_key, FunD.bindsN F_Book_key fun _ _ _ _ _ _ us hl => match us, hl with | [_], _ => rfl⟩⟩
  have b := FunD.bindsA (ps := ["_law_script"]) D_law.F fun _ _ _ _ _ _ us hl => match us, hl with | [_], _ => rfl
  exact ⟨D_law.fd, fun s v => b s [v] rfl, fun base _ _ => by
    have G_is_whole := ok_is_whole (P := P) (w := w) (base := base) D_is_whole T
    have G_is_sequence := ok_is_sequence (P := P) (w := w) (base := base) D_is_sequence T
    have G_is_couple := ok_is_couple (P := P) (w := w) (base := base) D_is_couple D_is_sequence G_is_sequence T
    have G_is_state := ok_is_state (P := P) (w := w) (base := base) D_is_state D_is_whole G_is_whole T
    have G_is_deed := ok_is_deed (P := P) (w := w) (base := base) D_is_deed D_is_state G_is_state D_is_sequence G_is_sequence T
    have G_is_goals := ok_is_goals (P := P) (w := w) (base := base) D_is_goals D_is_state G_is_state D_is_sequence G_is_sequence T
    have G_is_ends := ok_is_ends (P := P) (w := w) (base := base) D_is_ends D_is_goals G_is_goals D_is_state G_is_state D_is_couple G_is_couple T
    have G_is_side := ok_is_side (P := P) (w := w) (base := base) D_is_side D_is_whole G_is_whole D_is_sequence G_is_sequence T
    have G_is_row := ok_is_row (P := P) (w := w) (base := base) D_is_row D_is_side G_is_side D_is_couple G_is_couple T
    have G_sign_stands := ok_sign_stands (P := P) (w := w) (base := base) D_sign_stands T
    have G_Book := ok_Book_init (P := P) (w := w) (base := base) C_Book D_sign_stands G_sign_stands D_is_row G_is_row D_is_sequence G_is_sequence D_is_ends G_is_ends D_is_deed G_is_deed D_is_whole G_is_whole T
    have G__law_take := ok__law_take (P := P) (w := w) (base := base) D__law_take TS
    have G__law_moves := ok__law_moves (P := P) (w := w) (base := base) D__law_moves D__law_take G__law_take T
    have G__law_deed := ok__law_deed (P := P) (w := w) (base := base) D__law_deed T
    have G__law_side := ok__law_side (P := P) (w := w) (base := base) D__law_side D__law_take G__law_take T
    have G__law_lots := ok__law_lots (P := P) (w := w) (base := base) D__law_lots D__law_deed G__law_deed D__law_take G__law_take T
    have G__law_end_states := ok__law_end_states (P := P) (w := w) (base := base) D__law_end_states D__law_take G__law_take T
    have G__law_strip := ok__law_strip (P := P) (w := w) (base := base) D__law_strip T
    have G__law_tidy := ok__law_tidy (P := P) (w := w) (base := base) D__law_tidy D__law_strip G__law_strip T
    have G_Book_eq := ok_Book_eq (P := P) (w := w) (base := base) C_Book Q_Book T
    have G_unlike_rows := ok_unlike_rows (P := P) (w := w) (base := base) D_unlike_rows T
    have G_first_places := ok_first_places (P := P) (w := w) (base := base) D_first_places T
    have G_plain_ends := ok_plain_ends (P := P) (w := w) (base := base) D_plain_ends T
    have G_Book_key := ok_Book_key (P := P) (w := w) (base := base) C_Book Y_Key T
    have G_Canon := ok_Canon_init (P := P) (w := w) (base := base) C_Canon
    have G_Canon_eq := ok_Canon_eq (P := P) (w := w) (base := base) C_Book Q_Book G_Book_eq C_Canon Q_Canon T
    have G_canon_of := ok_canon_of (P := P) (w := w) (base := base) D_canon_of C_Canon G_Canon C_Book G_Book D_plain_ends G_plain_ends D_first_places G_first_places D_unlike_rows G_unlike_rows T
    have G_canon := ok_canon (P := P) (w := w) (base := base) C_Book C_Canon D_canon D_canon_of G_canon_of T
    have G__law_plain_rows := ok__law_plain_rows (P := P) (w := w) (base := base) D__law_plain_rows D__law_side G__law_side T
    have G__law_shuffled := ok__law_shuffled (P := P) (w := w) (base := base) D__law_shuffled D__law_take G__law_take T
    have G__law_renamed := ok__law_renamed (P := P) (w := w) (base := base) D__law_renamed T
    have G__law_led := ok__law_led (P := P) (w := w) (base := base) D__law_led T
    have G__law_tidy_rows := ok__law_tidy_rows (P := P) (w := w) (base := base) D__law_tidy_rows D__law_take G__law_take D__law_plain_rows G__law_plain_rows D__law_tidy G__law_tidy T
    have G__law_canon := ok__law_canon (P := P) (w := w) (base := base) D__law_canon T
    have G__law_is_canon := ok__law_is_canon (P := P) (w := w) (base := base) D__law_is_canon T C_Book Y_Key G_Book_key C_Canon I_Canon
    have G__law_source := ok__law_source (P := P) (w := w) (base := base) D__law_source TS
    have G_law := ok_law (P := P) (w := w) (base := base) D_law C_Book G_Book C_Canon G_Canon Q_Book G_Book_eq Q_Canon G_Canon_eq N_Book O_Book N_Canon O_Canon D_canon G_canon D__law_led G__law_led D__law_take G__law_take D__law_renamed G__law_renamed D__law_shuffled G__law_shuffled D__law_is_canon G__law_is_canon D__law_canon G__law_canon D__law_tidy_rows G__law_tidy_rows D__law_end_states G__law_end_states D__law_lots G__law_lots D__law_moves G__law_moves D__law_source G__law_source T
    exact G_law⟩
end
end My
open PySem PySem.W PySem.Calls PyProof.Rows
set_option maxRecDepth 100000 in
set_option maxHeartbeats 0 in
theorem PySem.Challenge.cw_pressedwords_k04_whole_canon_by_renaming_holds : PySem.Challenge.rw_pressedwords_k04_whole_canon_by_renaming.Holds := by
  w_on; o_law
  refine HandSHeadRun.head_any (r := OpenLaw.row PySem.Challenge.rw_pressedwords_k04_whole_canon_by_renaming) (q := view (OpenLaw.row PySem.Challenge.rw_pressedwords_k04_whole_canon_by_renaming).prog [39]) (H := My.hk) (ob := My.ob) (M := 12500) (loose := My.loose) (d := HandSHeadRun.topDef (OpenLaw.row PySem.Challenge.rw_pressedwords_k04_whole_canon_by_renaming).prog 39) (kwd := []) My.ob_eq
    (by kernel_rfl) (fun s => by kernel_rfl) My.run (by kernel_rfl) (by kernel_rfl) (by kernel_rfl) (by rfl) (by first | assumption | decide +kernel) (by decide +kernel) ⟨rfl, rfl, rfl, rfl, rfl, by decide +kernel⟩ ?hw ?hc
  case hw => w_witness2
  case hc =>
    refine L2.walk_ofE (l := PySem.Challenge.rw_pressedwords_k04_whole_canon_by_renaming) (n := 63) (k := 9) (x := "_law_script") (CX := L2.CX0) rfl (by decide) (by kernel_rfl) ⟨rfl, by decide, by decide⟩ ?F (fun _ _ _ _ z => z)
    intro w mg fa h Y G hmg0
    obtain ⟨K, KX, c⟩ := Y
    have hmg : mg ("law" : PySem.Str) = some (.ref fa) := by
      have e : (HandSHeadRun.topDef (OpenLaw.row PySem.Challenge.rw_pressedwords_k04_whole_canon_by_renaming).prog 39).name = ("law" : PySem.Str) := by kernel_rfl
      rw [← e]
      exact hmg0
    obtain ⟨fd, hb, hF⟩ := My.law_fn (P := (PySem.Challenge.rw_pressedwords_k04_whole_canon_by_renaming).prog) (w := w) KX G c hmg
    exact ⟨K, fd, My.sp_law K, KX, hb, fun H a ns hl _ hS => ⟨a, ns, rfl, hS, fun _ => rfl⟩, hF⟩
