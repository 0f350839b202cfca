import PyProof.Rows.All
import Wide.All
import OpenK.AllK
import Wide.FinOn
import HandS.Base
import HandS.Call
import HandS.List
import HandS.Comp
import HandS.Ends
import HandS.Words
import HandS.WordsList
import HandS.Wide
import HandS.Codes
import HandS.Defaults
import HandS.Iter
import HandS.Walk
import HandS.IsInst
import HandS.TupAny
import HandS.Conv
import PyProof.EnumMake
import PyProof.Rows.EnumRows
import HandS.OwnEq
import KE.KStateDown
import HandS.Exc
import HandS.ExcInit
import HandS.ExcIs
import HandS.Head0
import HandS.Head1
import HandS.Head2
import HandS.HeadEnd
import HandS.HeadHook1
import HandS.HeadHook2
import HandS.Property
import PySem.Challenge.RW_pressedwords_k03_whole_tidy_keeps_all_fi
set_option Elab.async false
set_option linter.all false
set_option maxRecDepth 100000
set_option maxHeartbeats 2000000
/-! a list comprehension of any number of clauses -/
namespace Lcn
open PySem PySem.Spec PyProof.Rows L2
section
variable {elt tg iter tg1 iter1 : Expr} {ifs ifs1 : List Expr} {gens : List Comprehension} {scope : Scope} {pos : Pos} {d : Nat} {it acc : Value} {env : Env}
theorem turn_mid (hd : gens[d]? = some ⟨tg, iter, ifs, 0⟩) (hd1 : gens[d + 1]? = some ⟨tg1, iter1, ifs1, 0⟩) :
    compTurn (.ListComp elt gens scope pos) d it acc env = (do
      standAt iter.pos
      match ← pyNext it with
      | none => pure (.done .next)
      | some v =>
        letOwnedTupleGo tg it v
        assign tg env v
        let mut ok := true
        for c in ifs do
          if ok then ok ← isTrue c env (eval c env)
        if ok then
          let x ← eval iter1 env
          standAt iter1.pos
          let x ← foldedSetIterable iter1 env x
          let _ ← runOwn (.compStart (.ListComp elt gens scope pos) (d + 1) (← holding [x] (pyIter x)) acc env) env
        again (.compLoop (.ListComp elt gens scope pos) d it acc env)) := by
  unfold compTurn
  simp only [hd, hd1]
  rfl
theorem turn_in (hd : gens[d]? = some ⟨tg, iter, ifs, 0⟩) (hd1 : gens[d + 1]? = none) :
    compTurn (.ListComp elt gens scope pos) d it acc env = (do
      standAt iter.pos
      match ← pyNext it with
      | none => pure (.done .next)
      | some v =>
        letOwnedTupleGo tg it v
        assign tg env v
        let mut ok := true
        for c in ifs do
          if ok then ok ← isTrue c env (eval c env)
        if ok then
          (do let _ ← call (.builtin "list.append") [acc, ← eval elt env])
        again (.compLoop (.ListComp elt gens scope pos) d it acc env)) := by
  unfold compTurn
  simp only [hd, hd1]
  rfl
variable {prog : Program} {w : World} {A : Around} {s : Shared} {R : Result → Shared → Prop}
abbrev F0 : Value → Shared → Prop := fun _ _ => False
/-- what stands behind a clause's tests, to Z: the next clause, whole; or the element, appended -/
def Body (prog : Program) (w : World) (A : Around) (elt : Expr) (gens : List Comprehension) (scope : Scope) (pos : Pos) (acc : Value) (env : Env) (d : Nat) (Z : Shared → Prop) (s : Shared) : Prop :=
  match gens[d]? with
  | some g' => g'.is_async = 0 ∧ (∀ x, foldedSetIterable g'.iter env x = pure x) ∧ wpAny (model prog w) A (eval g'.iter env) (fun x s₄ => wpAny (model prog w) A (pyIter x) (fun i s₅ =>
      codeAny (model prog w) A (.compStart (.ListComp elt gens scope pos) d i acc env) (fun r s' => match r with
        | .ok _ => Z s'
        | .error _ => False) s₅) F0 s₄) F0 s
  | none => wpAny (model prog w) A (eval elt env) (fun x s₄ => wpAny (model prog w) A (call (.builtin "list.append") [acc, x]) (fun _ s₅ => Z s₅) F0 s₄) F0 s
/-- the loop of the clause d, by a word I that falls -/
theorem loop_rule (hsync : ∀ g ∈ gens, g.is_async = 0) (hd : gens[d]? = some ⟨tg, iter, ifs, 0⟩) (I : Nat → Shared → Prop)
    (turn : ∀ n s, I n s → wpAny (model prog w) A (pyNext it) (fun r s₁ => match r with
      | none => R (.ok .next) s₁
      | some v => wpAny (model prog w) A (letOwnedTupleGo tg it v) (fun _ s₁' => wpAny (model prog w) A (assign tg env v) (fun _ s₂ =>
          wpAny (model prog w) A (forIn ifs true fun c r => if r = true then do let ok ← isTrue c env (eval c env); pure (ForInStep.yield ok) else pure (ForInStep.yield r)) (fun ok s₃ =>
            if ok = true then Body prog w A elt gens scope pos acc env (d + 1) (fun s' => ∃ m, m < n ∧ I m s') s₃ else ∃ m, m < n ∧ I m s₃) F0 s₂) F0 s₁') F0 s₁) F0 s)
    (n : Nat) (h : I n s) : codeAny (model prog w) A (.compLoop (.ListComp elt gens scope pos) d it acc env) R s := by
  refine codeAny_loop rfl I (fun n s hI => ?_) n h
  show wpAny _ A ((compTurn (.ListComp elt gens scope pos) d it acc env).onRaise _) _ _ s
  refine wpAny_noted ?_
  cases hn : gens[d + 1]? with
  | none =>
    rw [turn_in hd hn]
    refine wpAny_bind (wpAny_standAt (wpAny_bind (thnF (turn n s hI) fun r s₁ h₁ => ?_)))
    cases r with
    | none => exact wpAny_pure h₁
    | some v =>
      refine wpAny_bind (thnF h₁ fun _ s₁' h₁' => wpAny_bind (thnF h₁' fun _ s₂ h₂ => wpAny_bind (thnF h₂ fun ok s₃ h₃ => ?_)))
      cases ok with
      | false => exact wpAny_pure ⟨rfl, h₃⟩
      | true =>
        have h₃ : Body prog w A elt gens scope pos acc env (d + 1) (fun s' => ∃ m, m < n ∧ I m s') s₃ := h₃
        unfold Body at h₃
        rw [hn] at h₃
        exact wpAny_bind (wpAny_bind (thnF h₃ fun x s₄ h₄ => wpAny_bind (thnF h₄ fun _ s₅ h₅ => wpAny_pure (wpAny_pure ⟨rfl, h₅⟩))))
  | some g' =>
    obtain ⟨tg1, iter1, ifs1, asy⟩ := g'
    by_cases ha : asy = 0
    · subst ha
      rw [turn_mid hd hn]
      refine wpAny_bind (wpAny_standAt (wpAny_bind (thnF (turn n s hI) fun r s₁ h₁ => ?_)))
      cases r with
      | none => exact wpAny_pure h₁
      | some v =>
        refine wpAny_bind (thnF h₁ fun _ s₁' h₁' => wpAny_bind (thnF h₁' fun _ s₂ h₂ => wpAny_bind (thnF h₂ fun ok s₃ h₃ => ?_)))
        cases ok with
        | false => exact wpAny_pure ⟨rfl, h₃⟩
        | true =>
          have h₃ : Body prog w A elt gens scope pos acc env (d + 1) (fun s' => ∃ m, m < n ∧ I m s') s₃ := h₃
          unfold Body at h₃
          rw [hn] at h₃
          obtain ⟨_, hs, h₃⟩ := h₃
          refine wpAny_bind (thnF h₃ fun x s₄ h₄ => ?_)
          refine wpAny_bind (wpAny_standAt (wpAny_bind (wpAny_of_eq (hs x) (wpAny_bind (wpAny_holding (thnF h₄ fun i1 s₅ h₅ => ?_))))))
          refine wpAny_bind (wpAny_runOwn ?_)
          rw [Around.mark_none]
          refine codeAny_mono h₅ fun r s' hr => ?_
          cases r with
          | ok f =>
            first
              | exact wpAny_pure ⟨rfl, hr⟩
              | exact wpAny_bind (wpAny_pure (wpAny_pure ⟨rfl, hr⟩))
          | error e => exact hr.elim
    · exact absurd (hsync _ (List.mem_of_getElem? hn)) ha
/-- a clause's start: its source is asked for its iterator once more, or not -/
theorem start_rule (hd : gens[d]? = some ⟨tg, iter, ifs, 0⟩) (h0 : codeAny (model prog w) A (.compLoop (.ListComp elt gens scope pos) d it acc env) R s)
    (h : wpAny (model prog w) A (pyIter it) (fun it' s' => codeAny (model prog w) A (.compLoop (.ListComp elt gens scope pos) d it' acc env) R s') (notedBy (model prog w) A env fun x s' => R (.error x) s') s) :
    codeAny (model prog w) A (.compStart (.ListComp elt gens scope pos) d it acc env) R s := by
  refine codeAny_of_tree ?_
  show wpAny _ _ ((compStart (.ListComp elt gens scope pos) d it acc env).onRaise _) _ _ s
  refine wpAny_notedAt ?_
  unfold compStart
  have e1 : (clausesOf (.ListComp elt gens scope pos))[d]? = some ⟨tg, iter, ifs, 0⟩ := hd
  rw [e1]
  show wpAny _ _ (ask >>= _) _ _ s
  refine wpAny_bind (wpAny_askSetting (wpAny_ite ?_))
  split
  · first
      | exact wpAny_bind (wpAny_pure (wpAny_pure (And.intro rfl h0)))
      | exact wpAny_pure (And.intro rfl h0)
  · first
      | exact wpAny_bind (wpAny_rule (wpAny_bind (wpAny_standAt (wpAny_bind (wpAny_mono h (fun it' s' h' => wpAny_pure (And.intro rfl h')) fun _ _ x => x)))))
      | (refine wpAny_bind (wpAny_rule ?_); show wpAny _ _ (standAt iter.pos >>= _) _ _ s; exact wpAny_bind (wpAny_standAt (wpAny_bind (wpAny_mono h (fun it' s' h' => wpAny_pure (And.intro rfl h')) fun _ _ x => x))))
end
section
variable {X : Cx} {elt : Expr} {gens : List Comprehension} {scope : Scope} {pos : Pos}
/-- what a block's rest is to reach, the list being built at D -/
abbrev TB := Addr → L2.St → Hp → (Hp → Prop) → Prop
/-- the element, appended -/
def tEnd (te : TE) : TB := fun D σ H Nx => te σ H fun y H' => ∃ acc, H' D = some (.lst acc) ∧ acc.length < sizeLine ∧ Nx (upd H' D (.lst (acc ++ [y])))
/-- a clause's turns, from H on, till Z -/
def tTurns (g : TG) (tt : TT) (t1 : TB) (vs : List Nat) (J : It) (D : Addr) (σ : L2.St) (Z : Hp → Prop) (H : Hp) : Prop :=
  ∃ W : Nat → Nat → Hp → Prop, (∃ m, W 0 m H) ∧ ∀ i m H, W i m H → (J.stop i H ∧ Z H) ∨
    (J.go i H ∧ ∃ Nx : Hp → Prop, (∀ H', Nx H' → ∃ m', m' < m ∧ W (i + 1) m' H') ∧ ∀ x H', J.yld i H x H' → g x (wipe σ vs) H' fun σ2 H2 => wipe σ2 vs = wipe σ vs ∧ tt σ2 H2 fun b H3 => if b = true then t1 D σ2 H3 Nx else Nx H3)
/-- a clause behind another -/
def tCl (wi : TI) (g : TG) (tt : TT) (t1 : TB) (vs : List Nat) : TB := fun D σ H Nx => wi σ H fun J H1 => tTurns g tt t1 vs J D σ Nx H1
/-- the whole -/
def tLcN (wi : TI) (g : TG) (tt : TT) (t1 : TB) (vs : List Nat) : TE := fun σ H Q => wi σ H fun J H1 => ∀ D, H1 D = none → tTurns g tt t1 vs J D σ (fun H' => Q (.ref D) H') (upd H1 D (.lst []))
/-- slots that know, but for vs, what the others know -/
def Kn (vs : List Nat) (σ σ' : L2.St) : Prop := σ'.length = σ.length ∧ ∀ (j : Nat) v, (wipe σ vs)[j]? = some (some v) → σ'[j]? = some (some v)
structure PB (X : Cx) (elt : Expr) (gens : List Comprehension) (scope : Scope) (pos : Pos) (d : Nat) (vs : List Nat) (t : TB) : Prop where
  run : ∀ (D : Addr) (pins : List (Addr × Obj)) (s : Shared) (σ : L2.St) (H : Hp) (Nx : Hp → Prop) (Z : Shared → Prop), Inv X pins σ H s → t D σ H Nx →
    (∀ s' σ' H', Inv X pins σ' H' s' → Kn vs σ σ' → Nx H' → Z s') → Body X.prog X.w X.A elt gens scope pos (.ref D) X.env d Z s
theorem pb_end {d : Nat} {te : TE} (hx : X.xe = fun _ _ => False) (hd : gens[d]? = none) (he : PE X elt te) : PB X elt gens scope pos d [] (tEnd te) := by
  refine ⟨fun D pins s σ H Nx Z I h hZ => ?_⟩
  unfold Body
  rw [hd]
  have r := he.run pins s σ H _ I h
  rw [hx] at r
  refine thnF r fun z s1 ⟨yv, H1, I1, r1, acc, hD, hz, nx⟩ => ?_
  exact app_ok I1 hD hz r1 fun s2 I2 => hZ s2 σ _ I2 ⟨rfl, fun j v e => e⟩ nx
variable {tg iter : Expr} {ifs : List Expr} {d : Nat} {g : TG} {tt : TT} {t1 : TB} {vs vs1 : List Nat} {J : It} {fp : List Addr} {it : Addr} {tn : Nat → Heap → Prop} {pins : List (Addr × Obj)} {s : Shared} {σ : L2.St} {H : Hp} {D : Addr} {S : Hp → Prop} {R : Result → Shared → Prop}
theorem loop_ok (hx : X.xe = fun _ _ => False) (hc : X.calm = true) (hsync : ∀ g ∈ gens, g.is_async = 0) (hd : gens[d]? = some ⟨tg, iter, ifs, 0⟩) (pg : PG X tg g) (pt : PTs X ifs tt)
    (hb : PB X elt gens scope pos (d + 1) vs1 t1) (hv : ∀ i ∈ vs1, i ∈ vs) (T : Turn X.prog X.w X.K tg J fp it tn)
    (stat : ∀ {σ' : L2.St} {H' : Hp} {s' : Shared}, Inv X pins σ' H' s' → (∀ b ∈ fp, H' b = none) → ∀ b ∈ fp, FpOk X pins H' b)
    (I : Inv X pins (wipe σ vs) H s) (st : tn 0 s.heap) (nf : ∀ b ∈ fp, H b = none) (h : tTurns g tt t1 vs J D σ S H)
    (hR : ∀ s' H', Inv X pins (wipe σ vs) H' s' → S H' → R (.ok .next) s') :
    codeAny (model X.prog X.w) X.A (.compLoop (.ListComp elt gens scope pos) d (.ref it) (.ref D) X.env) R s := by
  obtain ⟨W, ⟨m0, w0⟩, turn⟩ := h
  refine loop_rule hsync hd (fun n s' => ∃ i H', Inv X pins (wipe σ vs) H' s' ∧ tn i s'.heap ∧ (∀ b ∈ fp, H' b = none) ∧ W i n H') ?_ m0 ⟨0, H, I, st, nf, w0⟩
  rintro n sa ⟨i, Ha, Ia, sta, na, wa⟩
  rcases turn i n Ha wa with ⟨stop, z⟩ | ⟨go, Nx, hNx, step⟩
  · refine thnF (T.done X rfl rfl rfl hc i pins sa _ Ha (fun _ _ => False) Ia (stat Ia na) sta stop) fun r sb ⟨hr, Ib⟩ => ?_
    subst hr
    exact hR sb Ha Ib z
  · refine thnF (T.item X rfl rfl rfl hc i pins sa _ Ha (fun _ _ => False) Ia (stat Ia na) sta go) fun r sb ⟨u, hr, hb'⟩ => ?_
    subst hr
    refine thnF hb' fun _ sc ⟨x, Hc, Ic, rc, yc, stc, nc⟩ => ?_
    have Ip := Ic.pinned (stat Ic nc) (T.obj _ _ stc)
    have r1 := pg.run _ sc _ Hc x u _ Ip rc (step x Hc yc)
    rw [hx] at r1
    refine thnF r1 fun _ sd ⟨σd, Hd, Id, hw, qd⟩ => ?_
    have r2 := pt.run _ sd σd Hd _ Id qd
    rw [hx] at r2
    refine thnF r2 fun b se ⟨He, Ie, qe⟩ => ?_
    have fin : ∀ {σf : L2.St} {s' : Shared} {H' : Hp}, Inv X (pins ++ pinsAt fp sc.heap) σf H' s' → Kn vs1 σd σf → Nx H' → ∃ m, m < n ∧ ∃ i H', Inv X pins (wipe σ vs) H' s' ∧ tn i s'.heap ∧ (∀ b ∈ fp, H' b = none) ∧ W i m H' := fun {σf s' H'} I' kn nx => by
      obtain ⟨m', hm, w'⟩ := hNx H' nx
      have pin' : ∀ b ∈ fp, ∀ o, sc.heap.get? b = some o → s'.heap.get? b = some o ∧ H' b = none := fun b hb o e =>
        let z := I'.pin (b, o) (List.mem_append_right _ (List.mem_append_right _ (mem_pinsAt hb e)))
        ⟨z.1, z.2.1⟩
      refine ⟨m', hm, i + 1, H', I'.unpinned.weak ?_ (fun j v e => ?_), T.keep _ _ _ stc fun b hb o e => (pin' b hb o e).1, fun b hb => ?_, w'⟩
      · rw [kn.1, ← wipe_length σd vs, hw]
      · rw [← hw] at e
        obtain ⟨e1, e2⟩ := wipe_some e
        exact kn.2 j v (by rw [wipe_out fun z => e2 (hv j z)]; exact e1)
      · obtain ⟨o, e, _⟩ := T.obj _ _ stc b hb
        exact (pin' b hb o e).2
    cases b with
    | false =>
      simp only [Bool.false_eq_true, if_false] at qe ⊢
      exact fin Ie ⟨rfl, fun j v e => (wipe_some e).1⟩ qe
    | true =>
      simp only [if_true] at qe ⊢
      exact hb.run D _ se σd He Nx _ Ie qe fun s' σ' H' I' kn nx => fin I' kn nx
/-- one clause more -/
theorem pb_cl {wi : TI} (hx : X.xe = fun _ _ => False) (hc : X.calm = true) (hsync : ∀ g ∈ gens, g.is_async = 0) (hd : gens[d]? = some ⟨tg, iter, ifs, 0⟩) (hi : PI X tg iter wi) (pg : PG X tg g) (pt : PTs X ifs tt)
    (hb : PB X elt gens scope pos (d + 1) vs1 t1) (hv : ∀ i ∈ vs1, i ∈ vs) (hs : ∀ env x, foldedSetIterable iter env x = pure x := by intro _ _; rfl) :
    PB X elt gens scope pos d vs (tCl wi g tt t1 vs) := by
  refine ⟨fun D pins s σ H Nx Z I h hZ => ?_⟩
  unfold Body
  rw [hd]
  refine ⟨rfl, hs _, ?_⟩
  have r := hi.run pins s σ H _ I h
  rw [hx] at r
  refine thnF r fun xv s1 h1 => thnF h1 fun itv s2 ⟨it, fp, tn, J, H2, e, I2, T, st, f, q⟩ => ?_
  subst e
  have loop := loop_ok (R := fun r s' => match r with
    | .ok _ => Z s'
    | .error _ => False) hx hc hsync hd pg pt hb hv T (fun _ hn b hb => ⟨hn b hb, (f b hb).2⟩) (I2.weak (wipe_length _ _) fun j v e => (wipe_some e).1) st (fun b hb => (f b hb).1) q
    fun s' H' I' z => hZ s' _ H' I' ⟨wipe_length _ _, fun j v e => e⟩ z
  exact start_rule hd loop (T.self X.A 0 _ _ _ st loop)
end
section
variable {X : Cx} {elt : Expr} {more : List Comprehension} {scope : Scope} {pos : Pos} {tg iter : Expr} {ifs : List Expr} {g : TG} {tt : TT} {t1 : TB} {vs1 : List Nat} {wi : TI} {own : List (Str × Nat)}
/-- [elt for tg in iter if .. for .. ..] as a value: any number of clauses -/
theorem pe_lcn (hc : X.calm = true) (hN : X.N.Nodup) (hi : PI X tg iter wi) (ok : BlkOk X.N X.env.scope scope own) (hsync : ∀ g ∈ (⟨tg, iter, ifs, 0⟩ :: more : List Comprehension), g.is_async = 0)
    (hg : ∀ (s : Shared) (H : Hp) (C : Addr) (cl : List (Str × Addr)) (fp : List Addr), PG (X.blk s H scope (compEnvC scope cl C X.env) fp) tg g)
    (ht : ∀ (s : Shared) (H : Hp) (C : Addr) (cl : List (Str × Addr)) (fp : List Addr), PTs (X.blk s H scope (compEnvC scope cl C X.env) fp) ifs tt)
    (hb : ∀ (s : Shared) (H : Hp) (C : Addr) (cl : List (Str × Addr)) (fp : List Addr), PB (X.blk s H scope (compEnvC scope cl C X.env) fp) elt (⟨tg, iter, ifs, 0⟩ :: more) scope pos 1 vs1 t1)
    (hv : ∀ i ∈ vs1, i ∈ own.map (·.2)) (hs : ∀ x, foldedSetIterable iter X.env x = pure x := by intro _; rfl) :
    PE X (.ListComp elt (⟨tg, iter, ifs, 0⟩ :: more) scope pos) (tLcN wi g tt t1 (own.map (·.2))) := by
  refine ⟨fun pins s σ H Q I h => ?_⟩
  rw [eval_ListComp]
  have seen : ∀ y ∈ scope.names, y.2 = .free → ∃ c, X.env.cells.lookup y.1 = some c := fun y hy e => (ok.free y hy e).elim (fun k => I.ok.has _ (.inl k)) fun k => I.ok.has _ (.inr k)
  refine wpAny_comprehension_free (use := none) (gs := more) rfl hs (closure_ok seen) ok.kind (fun y hy e => by rw [ok.uniq y hy, e])
    (thn (hi.run pins s σ H _ I h) fun xv s1 h1 => thn h1 fun itv s2 ⟨it, fp, tn, J, H2, e, I2, T, st2, f2, q⟩ => ?_)
  subst e
  refine wpAny_newObj_type (newEnv_comp ?_) (by show 0 ≤ sizeLine; decide)
  have fresh : H2 s2.heap.objs.size = none := I2.hok.fresh (Nat.le_refl _)
  have qD := q _ fresh
  generalize hD : s2.heap.objs.size = D at fresh qD
  generalize hs3 : ({ s2 with heap := s2.heap.push { cls := .type "list", data := .seq ([] : List Value).toArray } } : Shared) = s3
  have up : s3.heap = s2.heap.push { cls := .type "list", data := .seq ([] : List Value).toArray } := by rw [← hs3]
  generalize hH3 : upd H2 D (.lst []) = H3 at qD
  have I3 : Inv X pins σ H3 s3 := by
    rw [← hH3, ← hs3]
    exact I2.laid (t' := s2.toks) (fun b o e => Heap.get?_push_of_some _ e) (Nat.le_of_eq hD) ⟨Nat.zero_le _, [], 0, .nil, by rw [← hD]; exact Heap.get?_push_size _ rfl⟩
  have f3 : ∀ b ∈ fp, FpOk X pins H3 b ∧ b < s3.heap.objs.size := fun b hb => by
    obtain ⟨o, e, _⟩ := T.obj _ _ st2 b hb
    have lt := Heap.lt_size e
    refine ⟨⟨?_, (f2 b hb).2⟩, by rw [up, Heap.size_push]; exact Nat.lt_succ_of_lt lt⟩
    rw [← hH3, upd_ne (by rw [← hD]; exact Nat.ne_of_lt lt)]
    exact (f2 b hb).1
  have I4 := block_start I3 ok hN f3
  have hg := hg s3 H3 s3.heap.objs.size (cellsFrom (s3.heap.objs.size + 1) scope.names (cloFrom X.env.cells scope.names [])) fp
  have ht := ht s3 H3 s3.heap.objs.size (cellsFrom (s3.heap.objs.size + 1) scope.names (cloFrom X.env.cells scope.names [])) fp
  have hb := hb s3 H3 s3.heap.objs.size (cellsFrom (s3.heap.objs.size + 1) scope.names (cloFrom X.env.cells scope.names [])) fp
  generalize hce : compEnvC scope (cellsFrom (s3.heap.objs.size + 1) scope.names (cloFrom X.env.cells scope.names [])) s3.heap.objs.size X.env = ce at I4 hg ht hb
  have cL : ce.locals = s3.heap.objs.size := by subst hce; rfl
  generalize hs4 : ({ s3 with heap := pushCells (s3.heap.push { cls := .type "dict", data := .dict #[] }) scope.names } : Shared) = s4 at I4
  have st4 : tn 0 s4.heap := T.keep _ _ _ st2 fun b _ o e => by
    rw [← hs4]
    exact pushCells_keeps _ _ _ _ (Heap.get?_push_of_some _ (by rw [up]; exact Heap.get?_push_of_some _ e))
  have loop := loop_ok (X := X.blk s3 H3 scope ce fp) (it := it) (pos := pos) (R := compPost (model X.prog X.w) X.A X.xe none (EP X pins σ Q) (.ref D) s3.heap.objs.size) rfl hc hsync rfl hg ht hb hv T
    (fun I' hn b hb => ⟨hn b hb, (I'.ok.exf b hb).1, I'.ok.exfs b hb, .inl hb, fun x c e => (I'.ok.exf b hb).2 x c e, fun p hp => absurd (show p ∈ ([] : List (Addr × Obj)) ++ [] from hp) (by simp)⟩)
    I4 st4 (fun b hb => (f3 b hb).1.1) qD fun s5 H5 I5 z => by
      have I6 : Inv X pins σ H5 s5 := I3.call' (ch := fp) I5.os I5.base I5.hok I5.bare fun b hb => ⟨(f3 b hb).1.2.2.2.1, (f3 b hb).1.2.1, (f3 b hb).1.2.2.2.2.1, (f3 b hb).1.2.2.2.2.2⟩
      have nC : H5 s3.heap.objs.size = none := cL ▸ (I5.free : H5 ce.locals = none)
      obtain ⟨m, hn, _⟩ := I5.loc
      obtain ⟨g0, g1, g2, g3, g4, g5⟩ := I3.fpOk (Nat.le_refl _) nC
      refine ⟨m, cL ▸ (show s5.heap.Ns ce.locals m from hn), fun h'' sb => ?_⟩
      exact ⟨.ref D, H5, I6.turned (t' := s5.toks) (fun b o hb e => (sb.2 b hb).trans e) g0 g1 g3 g4 g5, rfl, z⟩
  subst hs3 hs4 hce hD
  exact codeAny_compStart_list loop (T.self X.A 0 _ _ _ st4 loop)
end
end Lcn
set_option maxHeartbeats 4000000
/-! sequences that are lists or tuples; comprehensions told by what they give -/
namespace Sq
open PySem PySem.Spec PyProof.Rows L2 Lcn
/-- a list or a tuple stands -/
def Sqn (K : PySem.W.Frag) (H : Hp) (a : Addr) (xs : List V) : Prop := SqL K H a xs ∨ SqT K H a xs
theorem SqT.same {K : PySem.W.Frag} {H H' : Hp} {a : Addr} {xs : List V} (e : Same H H') (h : SqT K H a xs) : SqT K H' a xs := by
  rcases h with (h | ⟨o, h⟩) | h
  · exact .inl (.inl (e _ _ h))
  · exact .inl (.inr ⟨o, e _ _ h⟩)
  · exact .inr h
theorem Sqn.same {K : PySem.W.Frag} {H H' : Hp} {a : Addr} {xs : List V} (e : Same H H') (h : Sqn K H a xs) : Sqn K H' a xs := h.imp e.seq (SqT.same e)
theorem same_upd {H H' : Hp} {p : Addr} {o : HO} (e : Same H H') (h : H p = none) : Same H (upd H' p o) := fun b u x => by
  rw [upd_ne (ne_of_none x h)]
  exact e b u x
theorem same_new {H : Hp} {p : Addr} {o : HO} (h : H p = none) : Same H (upd H p o) := same_upd (Same.refl H) h
/-! ### what is no list stays -/
def nol : HO → Bool
  | .lst _ => false
  | _ => true
def KT (H H' : Hp) : Prop := ∀ b o, nol o = true → H b = some o → H' b = some o
theorem KT.refl (H : Hp) : KT H H := fun _ _ _ h => h
theorem KT.trans {H H1 H2 : Hp} (a : KT H H1) (b : KT H1 H2) : KT H H2 := fun c o n h => b c o n (a c o n h)
theorem KT.of {H H' : Hp} (e : Same H H') : KT H H' := fun b o _ h => e b o h
theorem KT.tup {K : PySem.W.Frag} {H H' : Hp} {a : Addr} {xs : List V} (e : KT H H') (h : SqT K H a xs) : SqT K H' a xs := by
  rcases h with (h | ⟨o, h⟩) | h
  · exact .inl (.inl (e _ _ rfl h))
  · exact .inl (.inr ⟨o, e _ _ rfl h⟩)
  · exact .inr h
/-- a list's place written anew -/
theorem KT.lst {H : Hp} {D : Addr} {xs ys : List V} (h : H D = some (.lst xs)) : KT H (upd H D (.lst ys)) := fun b o n e => by
  by_cases hb : b = D
  · subst hb
    rw [h] at e
    cases e
    cases n
  · rw [upd_ne hb]
    exact e
theorem KT.new {H : Hp} {p : Addr} {o : HO} (h : H p = none) : KT H (upd H p o) := KT.of (same_new h)
/-! ### a frame: all stays but what M lets change, and M's own promise G goes on -/
structure Fr (M : Addr → Prop) (G : Hp → Prop) (H H' : Hp) : Prop where
  keep : ∀ b o, ¬ M b → H b = some o → H' b = some o
  kt : KT H H'
  on : G H → G H'
section
variable {M : Addr → Prop} {G : Hp → Prop}
theorem Fr.refl (H : Hp) : Fr M G H H := ⟨fun _ _ _ h => h, KT.refl H, fun g => g⟩
theorem Fr.trans {H H1 H2 : Hp} (a : Fr M G H H1) (b : Fr M G H1 H2) : Fr M G H H2 := ⟨fun c o n h => b.keep c o n (a.keep c o n h), a.kt.trans b.kt, fun g => b.on (a.on g)⟩
end
/-- G hangs on what stands at A alone, and A is there; M lies in A -/
structure Gd (A M : Addr → Prop) (G : Hp → Prop) : Prop where
  dep : ∀ H H', (∀ b o, A b → H b = some o → H' b = some o) → G H → G H'
  dom : ∀ H b, G H → A b → ∃ o, H b = some o
  sub : ∀ b, M b → A b
/-- nothing may change -/
abbrev F0 : Hp → Hp → Prop := Fr (fun _ => False) (fun _ => True)
theorem gd0 : Gd (fun _ => False) (fun _ => False) (fun _ => True) := ⟨fun _ _ _ g => g, fun _ _ _ z => z.elim, fun _ z => z⟩
theorem F0.of {H H' : Hp} (e : Same H H') : F0 H H' := ⟨fun b o _ h => e b o h, KT.of e, fun g => g⟩
theorem F0.same {H H' : Hp} (e : F0 H H') : Same H H' := fun b o h => e.keep b o (fun z => z) h
section
variable {A M : Addr → Prop} {G : Hp → Prop}
theorem Fr.of (u : Gd A M G) {H H' : Hp} (e : Same H H') : Fr M G H H' := ⟨fun b o _ h => e b o h, KT.of e, u.dep H H' fun b o _ h => e b o h⟩
theorem Gd.nA (u : Gd A M G) {H : Hp} {D : Addr} (g : G H) (h : H D = none) : ¬ A D := fun m => by
  obtain ⟨o, h'⟩ := u.dom H D g m
  rw [h] at h'
  cases h'
theorem Fr.free (u : Gd A M G) {H H' : Hp} (e : Fr M G H H') (g : G H) {D : Addr} (h : H' D = none) : H D = none := by
  cases q : H D with
  | none => rfl
  | some o =>
    rw [e.keep D o (fun m => u.nA (e.on g) h (u.sub D m)) q] at h
    cases h
theorem Gd.out (u : Gd A M G) {H : Hp} {D : Addr} {o : HO} (nA : ¬ A D) (g : G H) : G (upd H D o) := u.dep H _ (fun b ob ha h => by
  rw [upd_ne (fun z => nA (by rw [← z]; exact ha))]
  exact h) g
end
/-! ### a comprehension over one walk that keeps all -/
/-- n turns, turn i with x, X i x; the heap stays -/
def YIs (X : Nat → V → Prop) : Nat → Hp → V → Hp → Prop := fun i H x H' => H' = H ∧ X i x
/-- at D a list of n things stands, R of each -/
def Got (D : Addr) (n : Nat) (R : Hp → Nat → V → Prop) (H' : Hp) : Prop := ∃ ys, H' D = some (.lst ys) ∧ ys.length = n ∧ ∀ i y, ys[i]? = some y → R H' i y
def Stb (R : Hp → Nat → V → Prop) : Prop := ∀ H H' i v, KT H H' → R H i v → R H' i v
theorem got_snoc {D : Addr} {n : Nat} {R : Hp → Nat → V → Prop} {H : Hp} {ys : List V} {y : V} (st : Stb R) (h : H D = some (.lst ys)) (hn : ys.length = n) (hR : ∀ i y, ys[i]? = some y → R H i y) (hy : R H n y) : Got D (n + 1) R (upd H D (.lst (ys ++ [y]))) := by
  have k : KT H (upd H D (.lst (ys ++ [y]))) := KT.lst h
  refine ⟨ys ++ [y], upd_same, by rw [List.length_append, hn]; rfl, fun i z hz => ?_⟩
  rcases Nat.lt_or_ge i ys.length with lt | ge
  · rw [List.getElem?_append_left lt] at hz
    exact st _ _ _ _ k (hR i z hz)
  · rw [List.getElem?_append_right ge] at hz
    cases e : i - ys.length with
    | zero =>
      rw [e] at hz
      cases hz
      have : i = n := by omega
      rw [this]
      exact st _ _ _ _ k hy
    | succ j =>
      rw [e] at hz
      cases hz
theorem lc_fr {A M : Addr → Prop} {G : Hp → Prop} {J : It} {n : Nat} {Gw : Hp → Prop} {Xt : Nat → V → Prop} (w : Walk J n Gw (YIs Xt)) (hn : n < sizeLine) {g : TG} {te : TE} {vs : List Nat} {σ : L2.St} {H1 : Hp} {D : Addr} {Qd : Hp → Prop} {R : Hp → Nat → V → Prop} (st : Stb R) (u : Gd A M G)
    (hD : H1 D = none) (hG : G H1) (hGw : ∀ H', Fr M G H1 H' → Gw H')
    (hs : ∀ i x H' (Q : VK), i < n → Xt i x → Fr M G H1 H' → (∀ y H4, Fr M G H' H4 → R H4 i y → Q y H4) → g x (wipe σ vs) H' fun σ2 H2 => wipe σ2 vs = wipe σ vs ∧ te σ2 H2 Q)
    (hd : ∀ H', Fr M G H1 H' → Got D n R H' → Qd H') :
    ∃ W : Nat → Nat → Hp → Prop, (∃ m, W 0 m (upd H1 D (.lst []))) ∧ ∀ i m H, W i m H →
      (J.stop i H ∧ Qd H) ∨ (J.go i H ∧ ∃ Nx : Hp → Prop, (∀ H', Nx H' → ∃ m', m' < m ∧ W (i + 1) m' H') ∧ ∀ x H', J.yld i H x H' → g x (wipe σ vs) H' fun σ2 H2 => wipe σ2 vs = wipe σ vs ∧ tYes σ2 H2 fun b H3 =>
        if b = true then te σ2 H3 fun y H4 => ∃ acc, H4 D = some (.lst acc) ∧ acc.length < sizeLine ∧ Nx (upd H4 D (.lst (acc ++ [y]))) else Nx H3) := by
  have nA : ¬ A D := u.nA hG hD
  have nD : ¬ M D := fun m => nA (u.sub D m)
  refine lc_it w (fun i H => Fr M G H1 H ∧ Got D i R H) ⟨Fr.of u (same_new hD), [], upd_same, rfl, fun i y h => by cases i <;> cases h⟩ (fun i H _ p => hGw H p.1) (fun i x H H' hi p y => ?_) (fun H p => hd H p.1 p.2)
  obtain ⟨e, hx⟩ := y
  subst e
  obtain ⟨fr, ys, hDl, hl, hR⟩ := p
  refine hs i x H' _ hi hx fr fun y H4 f4 hy => ?_
  have d4 := f4.keep D _ nD hDl
  refine ⟨ys, d4, by omega, ⟨fun b o nm h => ?_, fun b o no h => ?_, fun gg => ?_⟩, got_snoc st d4 hl (fun i y h => st _ _ _ _ f4.kt (hR i y h)) hy⟩
  · rw [upd_ne (ne_of_none h hD)]
    exact f4.keep b o nm (fr.keep b o nm h)
  · rw [upd_ne (ne_of_none h hD)]
    exact f4.kt b o no (fr.kt b o no h)
  · exact u.out nA (f4.on (fr.on gg))
/-! ### a list or a tuple, walked -/
@[irreducible] def iSeq (K : PySem.W.Frag) (tl : TE) : TI := fun σ H R => tl σ H fun x H1 => ∃ a xs, x = .ref a ∧ ((SqL K H1 a xs ∧ R (Itl K a) H1) ∨ (SqT K H1 a xs ∧ R (Itt K a) H1))
theorem pi_seq {X : Cx} {tg l : Expr} {tl : TE} (hl : PE X l tl) : PI X tg l (iSeq X.K tl) := by
  refine ⟨fun pins s σ H R I h => ?_⟩
  unfold iSeq at h
  refine thn (hl.run pins s σ H _ I h) fun v s1 ⟨x, H1, I1, r1, a, xs, e, q⟩ => ?_
  subst e
  cases r1
  have here : ∀ b ∈ [s1.heap.objs.size], FpOk X pins H1 b := fun b hb => by
    have e : b = s1.heap.objs.size := by simpa using hb
    rw [e]
    exact I1.fpOk (Nat.le_refl _) (I1.hok.fresh (Nat.le_refl _))
  rcases q with ⟨hq, q⟩ | ⟨hq, q⟩
  · obtain ⟨its, rv, p, hz⟩ := I1.list hq
    exact wpAny_pyIter_list p.isList ⟨s1.heap.objs.size, [s1.heap.objs.size], _, _, H1, rfl, I1.kept (t' := s1.toks) fun b o e => Heap.get?_push_of_some _ e, turn_list a _, ⟨_, Heap.get?_push_size _ rfl, rfl, rfl⟩, here, q⟩
  · obtain ⟨its, rv, p, hz⟩ := I1.tuple hq
    exact wpAny_pyIter_tuple (show s1.heap.IsTuple a its.toArray from p) ⟨s1.heap.objs.size, [s1.heap.objs.size], _, _, H1, rfl, I1.kept (t' := s1.toks) fun b o e => Heap.get?_push_of_some _ e, turn_tuple a _, ⟨_, Heap.get?_push_size _ rfl, rfl, rfl⟩, here, q⟩
theorem seq_rd {K : PySem.W.Frag} {tl : TE} {σ : L2.St} {H H0 H1 : Hp} {R : It → Hp → Prop} {a : Addr} {xs : List V} (e0 : Same H0 H1) (hl : ∀ Q : VK, Q (.ref a) H1 → tl σ H Q) (hs : Sqn K H0 a xs)
    (q : ∀ (J : It) (Gw : Hp → Prop), Walk J xs.length Gw (YIs fun i x => xs[i]? = some x) → (∀ H', (∀ o, H0 a = some o → H' a = some o) → Gw H') → R J H1) : iSeq K tl σ H R := by
  unfold iSeq
  refine hl _ ⟨a, xs, rfl, hs.imp (fun h => ⟨e0.seq h, q _ _ walk_list fun H' e => ?_⟩) (fun h => ⟨SqT.same e0 h, q _ _ walk_tup fun H' e => ?_⟩)⟩
  · rcases h with (h | ⟨o, h⟩) | h
    · exact .inl (.inl (e _ h))
    · exact .inl (.inr ⟨o, e _ h⟩)
    · exact .inr h
  · rcases h with (h | ⟨o, h⟩) | h
    · exact .inl (.inl (e _ h))
    · exact .inl (.inr ⟨o, e _ h⟩)
    · exact .inr h
/-! ### xs.extend(t), t a tuple -/
def rExtT (K : PySem.W.Frag) : V → List V → Hp → VK → Prop := fun x vs H Q => ∃ l b xs zs, x = .ref l ∧ vs = [.ref b] ∧ H l = some (.lst xs) ∧ SqT K H b zs ∧ xs.length + zs.length ≤ sizeLine ∧ Q .non (upd H l (.lst (xs ++ zs)))
/-! ### tuple(x) -/
@[irreducible] def rTupOf (K : PySem.W.Frag) (xs : List V) (H : Hp) (Q : VK) : Prop := ∃ p ys, xs = [.ref p] ∧ ((SqL K H p ys ∧ ∀ l, H l = none → Q (.ref l) (upd H l (.tup ys))) ∨ (SqT K H p ys ∧ Q (.ref p) H))
theorem call_tupR {X : Cx} : CallR X (.type "tuple") (rTupOf X.K) := fun pins s σ H xs us Q I r h => by
  unfold rTupOf at h
  exact call_tuple_of pins s σ H xs us Q I r h
theorem rd_tup {K : PySem.W.Frag} {H : Hp} {a : Addr} {xs : List V} {Q : VK} (hs : Sqn K H a xs) (q : ∀ b H', Same H H' → SqT K H' b xs → Q (.ref b) H') : rTupOf K [.ref a] H Q := by
  unfold rTupOf
  exact ⟨a, xs, rfl, hs.imp (fun h => ⟨h, fun l hl => q l _ (same_new hl) (SqT.of upd_same)⟩) (fun h => ⟨h, q a H (Same.refl H) h⟩)⟩
/-! ### t[i:j], t a tuple -/
@[irreducible] def rSlR (K : PySem.W.Frag) (x : V) (lo hi : Option Int) (H : Hp) (Q : VK) : Prop := rSlA K x lo hi H Q
theorem sl_tupR {X : Cx} : SlR X (rSlR X.K) := by
  have e : rSlR X.K = rSlA X.K := by
    funext x lo hi H Q
    unfold rSlR
    rfl
  rw [e]
  exact sl_tupA
theorem rd_sl {K : PySem.W.Frag} {H : Hp} {a : Addr} {xs : List V} {lo hi : Option Int} {Q : VK} (ha : SqT K H a xs) (q : ∀ c H', Same H H' → SqT K H' c (cutV xs lo hi) → Q (.ref c) H') : rSlR K (.ref a) lo hi H Q := by
  unfold rSlR
  refine ⟨a, xs, rfl, ha, fun e => ?_, fun _ p hp => q p _ (same_new hp) (SqT.of upd_same)⟩
  refine q a H (Same.refl H) ?_
  have : cutV xs lo hi = xs := by
    unfold cutV
    rw [e.1, e.2]
    simp
  rw [this]
  exact ha
/-! ### rules for within a block: the written part named -/
section
variable {X : Cx} {K : PySem.W.Frag} (hK : X.K = K)
include hK
theorem ix_tupK : IxR X (rIxT K) := hK ▸ ix_tup
theorem ix_listK : IxR X (rIxL K) := hK ▸ ix_list
theorem ix_seqK : IxR X (rIx K) := hK ▸ ix_seq
theorem sl_tupRK : SlR X (rSlR K) := hK ▸ sl_tupR
theorem op_catAK : OpR X (binaryOp .Add) (rCatA K) := hK ▸ op_catA
theorem op_in_seqK : OpR X (compareOp .In) (rIn K false) := hK ▸ op_in_seq
theorem call_len_seqK : CallR X (.builtin "len") (fun xs H Q => ∃ p ys, xs = [.ref p] ∧ (SqL K H p ys ∨ SqT K H p ys) ∧ Q (.int ys.length) H) := hK ▸ call_len_seq
theorem call_tuple_ofK : CallR X (.type "tuple") (fun xs H Q => ∃ p ys, xs = [.ref p] ∧ ((SqL K H p ys ∧ ∀ l, H l = none → Q (.ref l) (upd H l (.tup ys))) ∨ (SqT K H p ys ∧ Q (.ref p) H))) := hK ▸ call_tuple_of
theorem call_tupRK : CallR X (.type "tuple") (rTupOf K) := hK ▸ call_tupR
theorem call_isiK : CallR X (.builtin "isinstance") (rIsi K) := hK ▸ call_isi
theorem call_isiTK : CallR X (.builtin "isinstance") (rIsiT K) := hK ▸ call_isiT
theorem cr_allK (hc : X.calm = true := by rfl) : CallR X (.builtin "all") (rAll K) := hK ▸ cr_all hc
theorem pi_seqK {tg l : Expr} {tl : TE} (hl : PE X l tl) : PI X tg l (iSeq K tl) := hK ▸ pi_seq hl
theorem pi_tupK {tg l : Expr} {tl : TE} (hl : PE X l tl) : PI X tg l (iTup K tl) := hK ▸ pi_tup hl
theorem pi_listK {tg l : Expr} {tl : TE} (hl : PE X l tl) : PI X tg l (iList K tl) := hK ▸ pi_list hl
theorem pg_tupK (hc : X.calm = true) {es : List Expr} {k : Nat} {pos : Pos} {t : TGs} {n : Nat} (h : PGs X es t) (hn : (assignEach es X.env).length = n := by rfl) (hst : (assignEach es X.env).findIdx? (·.1) = none := by rfl) : PG X (.Tuple es k pos) (gTup K n t) := hK ▸ pg_tup hc h hn hst
end
theorem ext_tup (l : Addr) (items : Array Value) (n : Nat) (b : Addr) (items2 : Array Value) (n2 : Nat) (dct : Option Addr) (sl : Array (Option Value)) (hs0 : ¬(!items.isEmpty && Builtin.List.listTooLong (items.size + items2.size)) = true) (hs1 : items.size ≤ sizeLine) (hs2 : items.size + items2.size ≤ sizeLine + 1) :
    Meets (Builtin.«list.extend» ⟨[.ref l, .ref b], []⟩) (fun _ R s => s.heap.get? l = some { cls := .type "list", dict := none, data := .seq items n, slots := #[] } ∧ s.heap.get? b = some ⟨.type "tuple", dct, .seq items2 n2, sl⟩ ∧ R (.ok (.ret Value.none)) { s with heap := s.heap.update l (Obj.mapSeq fun x => x ++ items2), toks := s.toks }) :=
  .of_wp fun prog w A R s h => by
    obtain ⟨hp, g, d, tk, os⟩ := s
    obtain ⟨hl, hb, h⟩ := h
    have f2 := AutoSeq1.sub_tuple_tuple
    have f4 := AutoSeq1.sub_tuple_list
    have f3 := AutoSeq1.sub_list_list
    have f5 := AutoSeq1.sub_list_tuple
    have hz' : (items ++ items2).size ≤ sizeLine + 1 := by rw [Array.size_append]; exact hs2
    wp_walk using (wpAny_updateSeq hl rfl (hz := hs1) (_hz' := hz')), AutoSeq1.wpAny_loadPart' hl, AutoSeq1.wpAny_loadPart' hb
    exact ⟨_, rfl, h⟩
theorem mt_extT {X : Cx} : MtM X "list.extend" (rExtT X.K) := by
  intro pins s σ H x vs v us Q I rx rv h
  obtain ⟨l, b, xs, zs, rfl, rfl, hH, hB, hz, q⟩ := h
  cases rx
  obtain ⟨u, rfl, ru⟩ := rv.one
  cases ru
  obtain ⟨z, its, n, r, hl, e⟩ := I.lstM hH
  obtain ⟨its2, r2, ⟨⟨oc, od, dt, os⟩, e2, c2, n2, d2⟩, z2⟩ := I.tuple hB
  dsimp only at c2 d2
  subst c2 d2
  have l1 := r.length
  have l2 := r2.length
  have hsz : its.toArray.size + its2.toArray.size ≤ sizeLine := by
    rw [List.size_toArray, List.size_toArray]
    omega
  have hlong : ¬ (!its.toArray.isEmpty && Builtin.List.listTooLong (its.toArray.size + its2.toArray.size)) = true := by
    rw [notLongL hsz, Bool.and_false]
    exact Bool.false_ne_true
  refine call_meets PySem.F.slot_list_extend ⟨_, e, rfl⟩ PySem.F.entry_list_extend (PySem.F.args_list_extend_2 _ _) (ext_tup l its.toArray n b its2.toArray n2 od os hlong (by rw [List.size_toArray]; omega) (by omega)) ⟨e, e2, ?_⟩
  refine ⟨.non, _, I.lset (its' := its ++ its2) hH e (by simp) (r.append r2) ?_, rfl, q⟩
  rw [List.length_append]
  omega
theorem walk_at_list {K : PySem.W.Frag} {a : Addr} {xs : List V} : Walk (Itl K a) xs.length (fun H => SqL K H a xs) (YIs fun i x => xs[i]? = some x) := walk_list
theorem walk_at_tup {K : PySem.W.Frag} {a : Addr} {xs : List V} : Walk (Itt K a) xs.length (fun H => SqT K H a xs) (YIs fun i x => xs[i]? = some x) := walk_tup
theorem walk_at_range {lo : Int} {n : Nat} : Walk (Itr lo n) n (fun _ => True) (YIs fun i x => x = .int (lo + i)) := walk_range
end Sq
set_option maxHeartbeats 4000000
namespace My
open PySem L2
def topS (i : Nat) : Stmt := PySem.Challenge.pw_pressedwords_k03_whole_tidy_keeps_all_fi.main.body.getD i (.Pass ⟨0, 0, 0, 0⟩)
abbrev s__wall : Stmt := topS 0
abbrev s_BadBook_init : Stmt := inClass (topS 3) 0
abbrev s_is_whole : Stmt := topS 5
abbrev s_is_sequence : Stmt := topS 6
abbrev s_is_couple : Stmt := topS 7
abbrev s_is_state : Stmt := topS 8
abbrev s_is_deed : Stmt := topS 9
abbrev s_is_goals : Stmt := topS 10
abbrev s_is_ends : Stmt := topS 11
abbrev s_is_side : Stmt := topS 12
abbrev s_is_row : Stmt := topS 13
abbrev s_sign_stands : Stmt := topS 14
abbrev s_Book_init : Stmt := inClass (topS 15) 0
abbrev s_Book_key : Stmt := inClass (topS 15) 1
abbrev s_Book_eq : Stmt := inClass (topS 15) 2
abbrev s_Clash_init : Stmt := inClass (topS 16) 0
abbrev s_Clash_eq : Stmt := inClass (topS 16) 1
abbrev s_tidy : Stmt := topS 18
abbrev s_tidy_rows : Stmt := topS 19
abbrev s_stripped : Stmt := topS 20
abbrev s_clash_word : Stmt := topS 21
abbrev s__law_source : Stmt := topS 23
abbrev s__law_take : Stmt := topS 24
abbrev s__law_pick : Stmt := topS 25
abbrev s__law_moves : Stmt := topS 26
abbrev s__law_deed : Stmt := topS 27
abbrev s__law_after : Stmt := topS 28
abbrev s__law_side : Stmt := topS 29
abbrev s__law_filled : Stmt := topS 30
abbrev s__law_cut_row : Stmt := topS 31
abbrev s__law_text_deed : Stmt := topS 32
abbrev s__law_fits : Stmt := topS 33
abbrev s__law_texts : Stmt := topS 34
abbrev s__law_rows_hold : Stmt := topS 35
abbrev s__law_fillings : Stmt := topS 36
abbrev s__law_strip : Stmt := topS 37
abbrev s__law_tidy : Stmt := topS 38
abbrev s__law_lots : Stmt := topS 39
abbrev s__law_end_states : Stmt := topS 40
abbrev s__law_draw_rows : Stmt := topS 41
abbrev s__law_same_tidy : Stmt := topS 42
abbrev s_law : Stmt := topS 43
/-- a def of the module, where it stands -/
structure Dn (K : PySem.W.Frag) (mg : Str → Option Value) (x : Str) (st : Stmt) (ps : List Str) where
  f : Addr
  fd : FuncData
  F : FunD K x x (defArgs st) (defBody st) (defScope st) [] [] f fd
  m : mg x = some (.ref f)
  b : Binds K fd ps []
/-- the built-in names that the module leaves alone -/
structure TB (mg : Str → Option Value) : Prop where
  len : mg "len" = none
  int : mg "int" = none
  bool : mg "bool" = none
  list_ : mg "list" = none
  tuple_ : mg "tuple" = none
  isinstance : mg "isinstance" = none
  all_ : mg "all" = none
  range : mg "range" = none
  min_ : mg "min" = none
  enumerate : mg "enumerate" = none
  zip : mg "zip" = none
  any_ : mg "any" = none
  sum_ : mg "sum" = none
  max_ : mg "max" = none
  sorted : mg "sorted" = none
  dict : mg "dict" = none
  repr : mg "repr" = none
  str_ : mg "str" = none
  set_ : mg "set" = none
section
variable {P : Program} {w : World} {K : PySem.W.Frag} {mg : Str → Option Value} {base : Heap}
theorem ok0 {x qual : Str} {params : Arguments} {body : List Stmt} {scope : Scope} {dvs : List V} {kws : List (Str × V)} {f : Addr} {fd : FuncData} {N ps : List Str} {k : Nat} {sp : Sp} (F : FunD K x qual params body scope dvs kws f fd) (S : FnScope N ps scope) (len : ∀ vs H Q E, sp vs H Q E → vs.length = ps.length)
    (hbody : ∀ (cdv : Value) (A : Around) (outer : List Env) (s : Shared) (H : Hp) (vs : List V) (Q : VK) (E : XK), Room k (A.deeper (PyProof.Rows.envOfC qual scope s.heap.objs.size f cdv)) → sp vs H Q E →
      ∃ t, PSs (cxOf CX0 P w K mg base N qual scope f cdv A outer s H E).nox body t ∧ t { nx := fun _ H' => Q .non H', rt := Q } (start N vs) H) : FnOk P w K mg base CX0 (k + 1) f fd ps sp := by
  refine F.ok S len fun cdv A outer s H vs Q E hr hsp => ?_
  obtain ⟨t, h, q⟩ := hbody cdv A outer s H vs Q E hr hsp
  exact ⟨t, h.nox, q⟩
end
end My
set_option maxHeartbeats 4000000
namespace My
open PySem PySem.Spec PyProof.Rows L2 Lcn Sq
/-! ### books: what is whole, what is a sequence .. -/
def IntsS (K : PySem.W.Frag) (H : Hp) (v : V) (ns : List Int) : Prop := ∃ a, v = .ref a ∧ Sqn K H a (ns.map V.int)
def RowS (K : PySem.W.Frag) (H : Hp) (v : V) (r : List Int × List Int) : Prop := ∃ a x y, v = .ref a ∧ Sqn K H a [x, y] ∧ IntsS K H x r.1 ∧ IntsS K H y r.2
def EndS (K : PySem.W.Frag) (H : Hp) (v : V) (e : Int × List Int) : Prop := ∃ a y, v = .ref a ∧ Sqn K H a [.int e.1, y] ∧ IntsS K H y e.2
/-- a list or tuple of zs, each as R says -/
def SeqS {α : Type} (K : PySem.W.Frag) (R : Hp → V → α → Prop) (H : Hp) (v : V) (zs : List α) : Prop := ∃ a xs, v = .ref a ∧ Sqn K H a xs ∧ xs.length = zs.length ∧ ∀ (i : Nat) (x : V) (z : α), xs[i]? = some x → zs[i]? = some z → R H x z
section
variable {K : PySem.W.Frag} {H H' : Hp}
theorem IntsS.same (e : Same H H') {v : V} {ns : List Int} (h : IntsS K H v ns) : IntsS K H' v ns := by
  obtain ⟨a, r, s⟩ := h
  exact ⟨a, r, s.same e⟩
theorem RowS.same (e : Same H H') {v : V} {r : List Int × List Int} (h : RowS K H v r) : RowS K H' v r := by
  obtain ⟨a, x, y, r, s, h1, h2⟩ := h
  exact ⟨a, x, y, r, s.same e, h1.same e, h2.same e⟩
theorem EndS.same (e : Same H H') {v : V} {r : Int × List Int} (h : EndS K H v r) : EndS K H' v r := by
  obtain ⟨a, y, r, s, h1⟩ := h
  exact ⟨a, y, r, s.same e, h1.same e⟩
theorem SeqS.same {α : Type} {R : Hp → V → α → Prop} (m : ∀ v z, R H v z → R H' v z) (e : Same H H') {v : V} {zs : List α} (h : SeqS K R H v zs) : SeqS K R H' v zs := by
  obtain ⟨a, xs, r, s, l, f⟩ := h
  exact ⟨a, xs, r, s.same e, l, fun i x z h1 h2 => m x z (f i x z h1 h2)⟩
theorem ty_seq {a : Addr} {xs : List V} (h : Sqn K H a xs) : (∃ t, (t = "list" ∨ t = "tuple") ∧ TyX K H (.ref a) (.type t)) := by
  rcases h with h | h
  · rcases h with (h | ⟨o, h⟩) | ⟨o, its, n, h1, h2, _⟩
    · exact ⟨_, .inl rfl, .base (.lst h)⟩
    · exact ⟨_, .inl rfl, .base (.frz h)⟩
    · exact ⟨_, .inl rfl, .kList h1 h2⟩
  · rcases h with (h | ⟨o, h⟩) | ⟨o, its, n, h1, h2, _⟩
    · exact ⟨_, .inr rfl, .base (.tup h)⟩
    · exact ⟨_, .inr rfl, .fTuple h⟩
    · exact ⟨_, .inr rfl, .kTuple h1 h2⟩
theorem kit_seq {t : String} (h : t = "list" ∨ t = "tuple") : PySem.W.kitAny K (.type t) [.type "list", .type "tuple"] = some true := by
  rcases h with rfl | rfl
  · exact kitAny_cons (b := true) (kit_ty (by decide +kernel)) (fun z => nomatch z) (fun _ => rfl)
  · exact kitAny_cons (b := false) (kit_ty (by decide +kernel)) (fun _ => kitAny_cons (b := true) (kit_ty (by decide +kernel)) (fun z => nomatch z) (fun _ => rfl)) (fun z => nomatch z)
theorem stb_true : Stb fun _ _ v => v = .bl true := fun _ _ _ _ _ h => h
/-- all([..]) where each is True -/
theorem all_got {D : Addr} {n : Nat} (h : Got D n (fun _ _ v => v = .bl true) H) : SqL K H D ((List.replicate n true).map V.bl) ∧ (List.replicate n true).all id = true := by
  obtain ⟨ys, h1, h2, h3⟩ := h
  have e : ys = (List.replicate n true).map V.bl := by
    refine List.ext_getElem? fun i => ?_
    rw [List.getElem?_map]
    rcases Nat.lt_or_ge i n with lt | ge
    · obtain ⟨y, hy⟩ : ∃ y, ys[i]? = some y := ⟨ys[i], by simp [h2, lt]⟩
      rw [hy, h3 i y hy]
      simp [List.getElem?_replicate, lt]
    · rw [List.getElem?_eq_none (by omega), List.getElem?_eq_none (by simpa using ge)]
      rfl
  rw [← e]
  exact ⟨SqL.of h1, by simp⟩
end
/-- a promise: True, where ok holds -/
theorem big20 : (2 : Nat) ^ 20 < sizeLine := by decide
theorem ix_sqn {K : PySem.W.Frag} {H : Hp} {a : Addr} {xs : List V} {i : Int} {v : V} {Q : VK} (h : Sqn K H a xs) (hv : atI xs i = some v) (q : Q v H) : rIx K (.ref a) (.int i) H Q :=
  h.elim (fun h => .inl ⟨a, xs, i, v, rfl, rfl, h, hv, q⟩) (fun h => .inr (.inl ⟨a, xs, i, v, rfl, rfl, h, hv, q⟩))
theorem map_at {ns : List Int} {i : Nat} {x : V} (h : (ns.map V.int)[i]? = some x) : ∃ z, ns[i]? = some z ∧ x = .int z := by
  rw [List.getElem?_map] at h
  obtain ⟨z, h1, h2⟩ := Option.map_eq_some_iff.mp h
  exact ⟨z, h1, h2.symm⟩
theorem lenI {ns : List Int} (h : ns.length < 2 ^ 20) : (ns.map V.int).length < sizeLine := by
  rw [List.length_map]
  exact Nat.lt_trans h big20
/-- a promise: True, where ok holds -/
def spB (ok : Hp → List V → Prop) : Sp := fun vs H Q _ => ok H vs ∧ ∀ H', Same H H' → Q (.bl true) H'
def sp_is_whole : Sp := spB fun _ vs => ∃ i, vs = [.int i]
def sp_is_sequence (K : PySem.W.Frag) : Sp := spB fun H vs => ∃ a xs, vs = [.ref a] ∧ Sqn K H a xs
def sp_is_couple (K : PySem.W.Frag) : Sp := spB fun H vs => ∃ a x y, vs = [.ref a] ∧ Sqn K H a [x, y]
def InR (n : Int) (i : Int) : Prop := 0 ≤ i ∧ i < n
def sp_is_state : Sp := spB fun _ vs => ∃ i n, vs = [.int i, .int n] ∧ InR n i
def sp_is_deed (K : PySem.W.Frag) : Sp := spB fun H vs => ∃ v ns n, vs = [v, .int n] ∧ IntsS K H v ns ∧ (ns.length : Int) = n ∧ ns.length < 2 ^ 20 ∧ ∀ i ∈ ns, InR n i
def Asc (ns : List Int) : Prop := ∀ (j : Nat) (a b : Int), ns[j]? = some a → ns[j + 1]? = some b → a < b
def sp_is_goals (K : PySem.W.Frag) : Sp := spB fun H vs => ∃ v ns n, vs = [v, .int n] ∧ IntsS K H v ns ∧ ns.length < 2 ^ 20 ∧ (∀ i ∈ ns, InR n i) ∧ Asc ns
def sp_is_ends (K : PySem.W.Frag) : Sp := spB fun H vs => ∃ v e n, vs = [v, .int n] ∧ EndS K H v e ∧ e.2.length < 2 ^ 20 ∧ InR n e.1 ∧ (∀ i ∈ e.2, InR n i) ∧ Asc e.2
def sp_is_side (K : PySem.W.Frag) : Sp := spB fun H vs => ∃ v ns, vs = [v] ∧ IntsS K H v ns ∧ ns.length < 2 ^ 20
def sp_is_row (K : PySem.W.Frag) : Sp := spB fun H vs => ∃ v r, vs = [v] ∧ RowS K H v r ∧ r.1.length < 2 ^ 20 ∧ r.2.length < 2 ^ 20
def Stands (l u : Int) (s : Int) : Prop := s < l ∧ -1 - s < u
def sp_sign_stands : Sp := spB fun _ vs => ∃ s l u, vs = [.int s, .int l, .int u] ∧ Stands l u s
theorem sc_is_whole : FnScope ["thing"] ["thing"] (defScope s_is_whole) := ⟨rfl, rfl, rfl, by decide +kernel, rfl, by decide +kernel, by decide +kernel⟩
section
variable {P : Program} {w : World} {K : PySem.W.Frag} {mg : Str → Option Value} {base : Heap}
theorem ok_is_whole (D_is_whole : Dn K mg "is_whole" s_is_whole ["thing"]) (T : TB mg) : FnOk P w K mg base CX0 1 D_is_whole.f D_is_whole.fd ["thing"] sp_is_whole := by
  refine ok0 D_is_whole.F sc_is_whole (fun vs H Q E h => ?_) (fun cdv A outer s H vs Q E hr h => ?_)
  · obtain ⟨⟨i, rfl⟩, k⟩ := h
    rfl
  · obtain ⟨⟨i, rfl⟩, k⟩ := h
    refine ⟨_, (pss_one (ps_ret (pe_and (pe_callB call_isi (by rfl) T.isinstance (by decide +kernel) (pa_cons (pv 0) (pa_cons (pe_bltn (v := .ty "int") (by rfl) T.int (by decide +kernel) rfl) pa_nil))) (pe_one (pe_not (pe_callB call_isi (by rfl) T.isinstance (by decide +kernel) (pa_cons (pv 0) (pa_cons (pe_bltn (v := .ty "bool") (by rfl) T.bool (by decide +kernel) rfl) pa_nil)))))))), ?_⟩
    refine ⟨_, rfl, _, _, _, _, true, rfl, .ty _, .base (.int _), kit_ty (by decide +kernel), _, rfl, iteT ?_⟩
    exact ⟨_, rfl, _, _, _, _, false, rfl, .ty _, .base (.int _), kit_ty (by decide +kernel), _, rfl, k H (Same.refl H)⟩
end
theorem sc_is_sequence : FnScope ["thing"] ["thing"] (defScope s_is_sequence) := ⟨rfl, rfl, rfl, by decide +kernel, rfl, by decide +kernel, by decide +kernel⟩
section
variable {P : Program} {w : World} {K : PySem.W.Frag} {mg : Str → Option Value} {base : Heap}
theorem ok_is_sequence (D_is_sequence : Dn K mg "is_sequence" s_is_sequence ["thing"]) (T : TB mg) : FnOk P w K mg base CX0 1 D_is_sequence.f D_is_sequence.fd ["thing"] (sp_is_sequence K) := by
  refine ok0 D_is_sequence.F sc_is_sequence (fun vs H Q E h => ?_) (fun cdv A outer s H vs Q E hr h => ?_)
  · obtain ⟨⟨a, xs, rfl, hs⟩, k⟩ := h
    rfl
  · obtain ⟨⟨a, xs, rfl, hs⟩, k⟩ := h
    refine ⟨_, (pss_one (ps_ret (pe_callB call_isiT (by rfl) T.isinstance (by decide +kernel) (pa_cons (pv 0) (pa_cons (pe_tup (pa_cons (pe_bltn (v := .ty "list") (by rfl) T.list_ (by decide +kernel) rfl) (pa_cons (pe_bltn (v := .ty "tuple") (by rfl) T.tuple_ (by decide +kernel) rfl) pa_nil))) pa_nil))))), ?_⟩
    obtain ⟨t, ht, ty⟩ := ty_seq hs
    refine ⟨_, rfl, (by show 2 ≤ sizeLine; decide), fun p hp => ?_⟩
    obtain ⟨t, ht, ty⟩ := ty_seq (hs.same (same_new (o := .tup [.ty "list", .ty "tuple"]) hp))
    exact ⟨_, p, _, _, _, true, rfl, upd_same, .cons (.ty _) (.cons (.ty _) .nil), ty, kit_seq ht, k _ (same_new hp)⟩
end
theorem sc_is_couple : FnScope ["thing"] ["thing"] (defScope s_is_couple) := ⟨rfl, rfl, rfl, by decide +kernel, rfl, by decide +kernel, by decide +kernel⟩
section
variable {P : Program} {w : World} {K : PySem.W.Frag} {mg : Str → Option Value} {base : Heap}
theorem ok_is_couple (D_is_couple : Dn K mg "is_couple" s_is_couple ["thing"]) (D_is_sequence : Dn K mg "is_sequence" s_is_sequence ["thing"]) (G_is_sequence : FnOk P w K mg base CX0 1 D_is_sequence.f D_is_sequence.fd ["thing"] (sp_is_sequence K)) (T : TB mg) : FnOk P w K mg base CX0 2 D_is_couple.f D_is_couple.fd ["thing"] (sp_is_couple K) := by
  refine ok0 D_is_couple.F sc_is_couple (fun vs H Q E h => ?_) (fun cdv A outer s H vs Q E hr h => ?_)
  · obtain ⟨⟨a, x, y, rfl, hs⟩, k⟩ := h
    rfl
  · obtain ⟨⟨a, x, y, rfl, hs⟩, k⟩ := h
    refine ⟨_, (pss_one (ps_ret (pe_and (pe_call G_is_sequence (hr.mono (by decide)) (by rfl) D_is_sequence.m D_is_sequence.F.kp D_is_sequence.b .nil pass0 (pa_cons (pv 0) pa_nil)) (pe_one (pe_cmpR op_eq (pe_callB call_len_seq (by rfl) T.len PySem.boot_len (pa_cons (pv 0) pa_nil)) pe_int (nomark _)))))), ?_⟩
    refine ⟨_, rfl, ⟨a, _, rfl, hs⟩, fun H1 s1 => ⟨_, rfl, iteT ?_⟩⟩
    exact ⟨_, rfl, a, _, rfl, hs.same s1, rfl, k _ s1⟩
end
theorem sc_is_state : FnScope ["thing", "states"] ["thing", "states"] (defScope s_is_state) := ⟨rfl, rfl, rfl, by decide +kernel, rfl, by decide +kernel, by decide +kernel⟩
section
variable {P : Program} {w : World} {K : PySem.W.Frag} {mg : Str → Option Value} {base : Heap}
theorem ok_is_state (D_is_state : Dn K mg "is_state" s_is_state ["thing", "states"]) (D_is_whole : Dn K mg "is_whole" s_is_whole ["thing"]) (G_is_whole : FnOk P w K mg base CX0 1 D_is_whole.f D_is_whole.fd ["thing"] (sp_is_whole)) (T : TB mg) : FnOk P w K mg base CX0 2 D_is_state.f D_is_state.fd ["thing", "states"] sp_is_state := by
  refine ok0 D_is_state.F sc_is_state (fun vs H Q E h => ?_) (fun cdv A outer s H vs Q E hr h => ?_)
  · obtain ⟨⟨i, n, rfl, h0, h1⟩, k⟩ := h
    rfl
  · obtain ⟨⟨i, n, rfl, h0, h1⟩, k⟩ := h
    refine ⟨_, (pss_one (ps_ret (pe_and (pe_call G_is_whole (hr.mono (by decide)) (by rfl) D_is_whole.m D_is_whole.F.kp D_is_whole.b .nil pass0 (pa_cons (pv 0) pa_nil)) (pe_one (pe_chain op_le op_lt pe_int (pv 0) (pv 1)))))), ?_⟩
    refine ⟨_, rfl, ⟨i, rfl⟩, fun H1 s1 => ⟨_, rfl, iteT ?_⟩⟩
    refine ⟨_, rfl, _, _, rfl, rfl, _, rfl, ?_⟩
    rw [if_pos (decide_eq_true h0)]
    refine ⟨_, rfl, _, _, rfl, rfl, ?_⟩
    show Q (.bl (decide (i < n))) H1
    rw [decide_eq_true h1]
    exact k _ s1
end
theorem sc_is_deed : FnScope ["thing", "states", "state"] ["thing", "states"] (defScope s_is_deed) := ⟨rfl, rfl, rfl, by decide +kernel, rfl, by decide +kernel, by decide +kernel⟩
section
variable {P : Program} {w : World} {K : PySem.W.Frag} {mg : Str → Option Value} {base : Heap}
theorem ok_is_deed (D_is_deed : Dn K mg "is_deed" s_is_deed ["thing", "states"]) (D_is_state : Dn K mg "is_state" s_is_state ["thing", "states"]) (G_is_state : FnOk P w K mg base CX0 2 D_is_state.f D_is_state.fd ["thing", "states"] (sp_is_state)) (D_is_sequence : Dn K mg "is_sequence" s_is_sequence ["thing"]) (G_is_sequence : FnOk P w K mg base CX0 1 D_is_sequence.f D_is_sequence.fd ["thing"] (sp_is_sequence K)) (T : TB mg) : FnOk P w K mg base CX0 3 D_is_deed.f D_is_deed.fd ["thing", "states"] (sp_is_deed K) := by
  refine ok0 D_is_deed.F sc_is_deed (fun vs H Q E h => ?_) (fun cdv A outer s H vs Q E hr h => ?_)
  · obtain ⟨⟨v, ns, n, rfl, hv, hl, hz, hi⟩, k⟩ := h
    rfl
  · obtain ⟨⟨v, ns, n, rfl, hv, hl, hz, hi⟩, k⟩ := h
    refine ⟨_, (pss_one (ps_ret (pe_and (pe_call G_is_sequence (hr.mono (by decide)) (by rfl) D_is_sequence.m D_is_sequence.F.kp D_is_sequence.b .nil pass0 (pa_cons (pv 0) pa_nil)) (pe_and (pe_cmpR op_eq (pe_callB call_len_seq (by rfl) T.len PySem.boot_len (pa_cons (pv 0) pa_nil)) (pv 1) (nomark _)) (pe_one (pe_callB (cr_all rfl) (by rfl) T.all_ (by decide +kernel) (pa_cons (pe_lc (own := [(("state" : Str), 2)]) rfl sc_is_deed.nd (pi_seq (pv 0)) (blkOk_by (own := [(("state" : Str), 2)]) (N := ["thing", "states", "state"]) (sc := defScope s_is_deed) (by decide +kernel)) (fun _ _ _ _ _ => (pg_name (i := 2) sc_is_deed.nd rfl (Or.inl rfl))) (fun _ _ _ _ _ => pts_nil) (fun _ _ _ _ _ => (pe_call G_is_state (hr.mono (by decide)) (by rfl) D_is_state.m D_is_state.F.kp D_is_state.b .nil pass0 (pa_cons (pv 2) (pa_cons (pv 1) pa_nil))))) pa_nil))))))), ?_⟩
    obtain ⟨a, rfl, hs⟩ := hv
    refine ⟨_, rfl, ⟨a, _, rfl, hs⟩, fun H1 s1 => ⟨_, rfl, iteT ?_⟩⟩
    have hs1 := hs.same s1
    refine ⟨_, rfl, a, _, rfl, hs1, _, rfl, rfl, ?_⟩
    refine ⟨true, ?_, iteT ?_⟩
    · rw [List.length_map, hl]
      exact congrArg V.bl (decide_eq_true rfl)
    refine seq_rd s1 (fun _ q => ⟨_, rfl, q⟩) hs fun J Gw w gw D hD => ?_
    refine lc_fr w (lenI hz) stb_true gd0 hD trivial (fun H' e => gw H' fun o h => F0.same e _ o (s1 _ o h)) (fun i x H' Q' hi' hx e q => ?_) (fun H' e got => ?_)
    · obtain ⟨z, hz', rfl⟩ := map_at hx
      exact ⟨rfl, _, rfl, _, rfl, ⟨z, n, rfl, hi z (List.mem_of_getElem? hz')⟩, fun H2 s2 => q _ H2 (F0.of s2) rfl⟩
    · obtain ⟨g1, g2⟩ := all_got (K := K) got
      refine ⟨D, _, rfl, g1, ?_⟩
      rw [g2]
      exact k _ (s1.trans (F0.same e))
end
theorem sc_is_goals : FnScope ["thing", "states", "at", "state"] ["thing", "states"] (defScope s_is_goals) := ⟨rfl, rfl, rfl, by decide +kernel, rfl, by decide +kernel, by decide +kernel⟩
section
variable {P : Program} {w : World} {K : PySem.W.Frag} {mg : Str → Option Value} {base : Heap}
theorem ok_is_goals (D_is_goals : Dn K mg "is_goals" s_is_goals ["thing", "states"]) (D_is_state : Dn K mg "is_state" s_is_state ["thing", "states"]) (G_is_state : FnOk P w K mg base CX0 2 D_is_state.f D_is_state.fd ["thing", "states"] (sp_is_state)) (D_is_sequence : Dn K mg "is_sequence" s_is_sequence ["thing"]) (G_is_sequence : FnOk P w K mg base CX0 1 D_is_sequence.f D_is_sequence.fd ["thing"] (sp_is_sequence K)) (T : TB mg) : FnOk P w K mg base CX0 3 D_is_goals.f D_is_goals.fd ["thing", "states"] (sp_is_goals K) := by
  refine ok0 D_is_goals.F sc_is_goals (fun vs H Q E h => ?_) (fun cdv A outer s H vs Q E hr h => ?_)
  · obtain ⟨⟨v, ns, n, rfl, hv, hz, hi, asc⟩, k⟩ := h
    rfl
  · obtain ⟨⟨v, ns, n, rfl, hv, hz, hi, asc⟩, k⟩ := h
    refine ⟨_, (pss_cons (ps_if (PW.pt (pw_or (pt_not (pt_val (pe_call G_is_sequence (hr.mono (by decide)) (by rfl) D_is_sequence.m D_is_sequence.F.kp D_is_sequence.b .nil pass0 (pa_cons (pv 0) pa_nil)))) (pw_or1 (pt_not (pt_val (pe_callB (cr_all rfl) (by rfl) T.all_ (by decide +kernel) (pa_cons (pe_lc (own := [(("state" : Str), 3)]) rfl sc_is_goals.nd (pi_seq (pv 0)) (blkOk_by (own := [(("state" : Str), 3)]) (N := ["thing", "states", "at", "state"]) (sc := defScope s_is_goals) (by decide +kernel)) (fun _ _ _ _ _ => (pg_name (i := 3) sc_is_goals.nd rfl (Or.inl rfl))) (fun _ _ _ _ _ => pts_nil) (fun _ _ _ _ _ => (pe_call G_is_state (hr.mono (by decide)) (by rfl) D_is_state.m D_is_state.F.kp D_is_state.b .nil pass0 (pa_cons (pv 3) (pa_cons (pv 1) pa_nil))))) pa_nil))))))) (pss_one (ps_ret pe_bl)) pss_nil)
  (pss_one (ps_ret (pe_callB (cr_all rfl) (by rfl) T.all_ (by decide +kernel) (pa_cons (pe_lc (own := [(("at" : Str), 2)]) rfl sc_is_goals.nd (pi_range2 (by rfl) T.range (pa_cons pe_int (pa_cons (pe_callB call_len_seq (by rfl) T.len PySem.boot_len (pa_cons (pv 0) pa_nil)) pa_nil))) (blkOk_by (own := [(("at" : Str), 2)]) (N := ["thing", "states", "at", "state"]) (sc := defScope s_is_goals) (by decide +kernel)) (fun _ _ _ _ _ => (pg_name (i := 2) sc_is_goals.nd rfl (Or.inl rfl))) (fun _ _ _ _ _ => pts_nil) (fun _ _ _ _ _ => (pe_cmpR op_lt (pe_ix (ix_seqK (K := K) rfl) (pv 0) (pe_op op_sub (pv 2) pe_int) (fun _ _ => rfl)) (pe_ix (ix_seqK (K := K) rfl) (pv 0) (pv 2) (fun _ _ => rfl)) (nomark _)))) pa_nil))))), ?_⟩
    obtain ⟨a, rfl, hs⟩ := hv
    refine ⟨_, rfl, ⟨a, _, rfl, hs⟩, fun H1 s1 => ⟨_, rfl, iteF ?_⟩⟩
    have hs1 := hs.same s1
    refine seq_rd s1 (fun _ q => ⟨_, rfl, q⟩) hs fun J Gw w gw D hD => ?_
    refine lc_fr w (lenI hz) stb_true gd0 hD trivial (fun H' e => gw H' fun o h => F0.same e _ o (s1 _ o h)) (fun i x H' Q' hi' hx e q => ?_) (fun H' e got => ?_)
    · obtain ⟨z, hz', rfl⟩ := map_at hx
      exact ⟨rfl, _, rfl, _, rfl, ⟨z, n, rfl, hi z (List.mem_of_getElem? hz')⟩, fun H2 s2 => q _ H2 (F0.of s2) rfl⟩
    · obtain ⟨g1, g2⟩ := all_got (K := K) got
      refine ⟨D, _, rfl, g1, ?_⟩
      rw [g2]
      refine ⟨_, rfl, iteF ?_⟩
      have s2 := s1.trans (F0.same e)
      have hs2 := hs.same s2
      have zz : sizeLine < 2 ^ 62 := by decide
      refine ⟨_, rfl, a, _, rfl, hs2, 1, _, rfl, ⟨by decide, by decide, by omega, ?_⟩, fun D2 hD2 => ?_⟩
      · have := lenI hz
        omega
      refine lc_fr walk_at_range ?_ stb_true gd0 hD2 trivial (fun H' e => trivial) (fun i x H'' Q' hi' hx e2 q => ?_) (fun H'' e2 got2 => ?_)
      · have := lenI hz
        omega
      · subst hx
        have hs3 := hs2.same (F0.same e2)
        have hi2 : i + 1 < ns.length := by
          rw [List.length_map] at hi'
          omega
        have e1 : (1 : Int) + (i : Int) - 1 = (i : Nat) := by omega
        have e2 : (1 : Int) + (i : Int) = ((i + 1 : Nat) : Int) := by omega
        have a1 : (ns.map V.int)[i]? = some (.int ns[i]) := by simp [List.getElem?_map, Nat.lt_of_succ_lt hi2]
        have a2 : (ns.map V.int)[i + 1]? = some (.int ns[i + 1]) := by simp [List.getElem?_map, hi2]
        refine ⟨rfl, _, rfl, _, rfl, _, _, rfl, rfl, ix_sqn hs3 (by rw [e1]; exact atI_nat a1) ⟨_, rfl, _, rfl, ix_sqn hs3 (by rw [e2]; exact atI_nat a2) ⟨_, _, rfl, rfl, ?_⟩⟩⟩
        have lt := asc i _ _ (List.getElem?_eq_getElem (Nat.lt_of_succ_lt hi2)) (List.getElem?_eq_getElem hi2)
        exact q _ _ (Fr.refl _) (congrArg V.bl (decide_eq_true lt))
      · obtain ⟨g3, g4⟩ := all_got (K := K) got2
        refine ⟨D2, _, rfl, g3, ?_⟩
        rw [g4]
        exact k _ (s2.trans (F0.same e2))
end
theorem sc_is_ends : FnScope ["thing", "states"] ["thing", "states"] (defScope s_is_ends) := ⟨rfl, rfl, rfl, by decide +kernel, rfl, by decide +kernel, by decide +kernel⟩
section
variable {P : Program} {w : World} {K : PySem.W.Frag} {mg : Str → Option Value} {base : Heap}
theorem ok_is_ends (D_is_ends : Dn K mg "is_ends" s_is_ends ["thing", "states"]) (D_is_goals : Dn K mg "is_goals" s_is_goals ["thing", "states"]) (G_is_goals : FnOk P w K mg base CX0 3 D_is_goals.f D_is_goals.fd ["thing", "states"] (sp_is_goals K)) (D_is_state : Dn K mg "is_state" s_is_state ["thing", "states"]) (G_is_state : FnOk P w K mg base CX0 2 D_is_state.f D_is_state.fd ["thing", "states"] (sp_is_state)) (D_is_couple : Dn K mg "is_couple" s_is_couple ["thing"]) (G_is_couple : FnOk P w K mg base CX0 2 D_is_couple.f D_is_couple.fd ["thing"] (sp_is_couple K)) (T : TB mg) : FnOk P w K mg base CX0 4 D_is_ends.f D_is_ends.fd ["thing", "states"] (sp_is_ends K) := by
  refine ok0 D_is_ends.F sc_is_ends (fun vs H Q E h => ?_) (fun cdv A outer s H vs Q E hr h => ?_)
  · obtain ⟨⟨v, en, n, rfl, hv, hz, h0, hi, asc⟩, k⟩ := h
    rfl
  · obtain ⟨⟨v, en, n, rfl, hv, hz, h0, hi, asc⟩, k⟩ := h
    refine ⟨_, (pss_one (ps_ret (pe_and (pe_call G_is_couple (hr.mono (by decide)) (by rfl) D_is_couple.m D_is_couple.F.kp D_is_couple.b .nil pass0 (pa_cons (pv 0) pa_nil)) (pe_and (pe_call G_is_state (hr.mono (by decide)) (by rfl) D_is_state.m D_is_state.F.kp D_is_state.b .nil pass0 (pa_cons (pe_ix ix_seq (pv 0) pe_int (fun _ _ => rfl)) (pa_cons (pv 1) pa_nil))) (pe_one (pe_call G_is_goals (hr.mono (by decide)) (by rfl) D_is_goals.m D_is_goals.F.kp D_is_goals.b .nil pass0 (pa_cons (pe_ix ix_seq (pv 0) pe_int (fun _ _ => rfl)) (pa_cons (pv 1) pa_nil)))))))), ?_⟩
    obtain ⟨a, y, rfl, hs, hy⟩ := hv
    refine ⟨_, rfl, ⟨a, _, _, rfl, hs⟩, fun H1 s1 => ⟨_, rfl, iteT ?_⟩⟩
    refine ⟨_, rfl, ix_sqn (hs.same s1) rfl ⟨_, rfl, ⟨_, _, rfl, h0⟩, fun H2 s2 => ⟨_, rfl, iteT ?_⟩⟩⟩
    have s2 := s1.trans s2
    exact ⟨_, rfl, ix_sqn (hs.same s2) rfl ⟨_, rfl, ⟨_, _, _, rfl, hy.same s2, hz, hi, asc⟩, fun H3 s3 => k _ (s2.trans s3)⟩⟩
end
theorem sc_is_side : FnScope ["thing", "sign"] ["thing"] (defScope s_is_side) := ⟨rfl, rfl, rfl, by decide +kernel, rfl, by decide +kernel, by decide +kernel⟩
section
variable {P : Program} {w : World} {K : PySem.W.Frag} {mg : Str → Option Value} {base : Heap}
theorem ok_is_side (D_is_side : Dn K mg "is_side" s_is_side ["thing"]) (D_is_whole : Dn K mg "is_whole" s_is_whole ["thing"]) (G_is_whole : FnOk P w K mg base CX0 1 D_is_whole.f D_is_whole.fd ["thing"] (sp_is_whole)) (D_is_sequence : Dn K mg "is_sequence" s_is_sequence ["thing"]) (G_is_sequence : FnOk P w K mg base CX0 1 D_is_sequence.f D_is_sequence.fd ["thing"] (sp_is_sequence K)) (T : TB mg) : FnOk P w K mg base CX0 2 D_is_side.f D_is_side.fd ["thing"] (sp_is_side K) := by
  refine ok0 D_is_side.F sc_is_side (fun vs H Q E h => ?_) (fun cdv A outer s H vs Q E hr h => ?_)
  · obtain ⟨⟨v, ns, rfl, hv, hz⟩, k⟩ := h
    rfl
  · obtain ⟨⟨v, ns, rfl, hv, hz⟩, k⟩ := h
    refine ⟨_, (pss_one (ps_ret (pe_and (pe_call G_is_sequence (hr.mono (by decide)) (by rfl) D_is_sequence.m D_is_sequence.F.kp D_is_sequence.b .nil pass0 (pa_cons (pv 0) pa_nil)) (pe_one (pe_callB (cr_all rfl) (by rfl) T.all_ (by decide +kernel) (pa_cons (pe_lc (own := [(("sign" : Str), 1)]) rfl sc_is_side.nd (pi_seq (pv 0)) (blkOk_by (own := [(("sign" : Str), 1)]) (N := ["thing", "sign"]) (sc := defScope s_is_side) (by decide +kernel)) (fun _ _ _ _ _ => (pg_name (i := 1) sc_is_side.nd rfl (Or.inl rfl))) (fun _ _ _ _ _ => pts_nil) (fun _ _ _ _ _ => (pe_call G_is_whole (hr.mono (by decide)) (by rfl) D_is_whole.m D_is_whole.F.kp D_is_whole.b .nil pass0 (pa_cons (pv 1) pa_nil)))) pa_nil)))))), ?_⟩
    obtain ⟨a, rfl, hs⟩ := hv
    refine ⟨_, rfl, ⟨a, _, rfl, hs⟩, fun H1 s1 => ⟨_, rfl, iteT ?_⟩⟩
    have hs1 := hs.same s1
    refine seq_rd s1 (fun _ q => ⟨_, rfl, q⟩) hs fun J Gw w gw D hD => ?_
    refine lc_fr w (lenI hz) stb_true gd0 hD trivial (fun H' e => gw H' fun o h => F0.same e _ o (s1 _ o h)) (fun i x H' Q' hi' hx e q => ?_) (fun H' e got => ?_)
    · obtain ⟨z, hz', rfl⟩ := map_at hx
      exact ⟨rfl, _, rfl, ⟨z, rfl⟩, fun H2 s2 => q _ H2 (F0.of s2) rfl⟩
    · obtain ⟨g1, g2⟩ := all_got (K := K) got
      refine ⟨D, _, rfl, g1, ?_⟩
      rw [g2]
      exact k _ (s1.trans (F0.same e))
end
theorem sc_is_row : FnScope ["thing"] ["thing"] (defScope s_is_row) := ⟨rfl, rfl, rfl, by decide +kernel, rfl, by decide +kernel, by decide +kernel⟩
section
variable {P : Program} {w : World} {K : PySem.W.Frag} {mg : Str → Option Value} {base : Heap}
theorem ok_is_row (D_is_row : Dn K mg "is_row" s_is_row ["thing"]) (D_is_side : Dn K mg "is_side" s_is_side ["thing"]) (G_is_side : FnOk P w K mg base CX0 2 D_is_side.f D_is_side.fd ["thing"] (sp_is_side K)) (D_is_couple : Dn K mg "is_couple" s_is_couple ["thing"]) (G_is_couple : FnOk P w K mg base CX0 2 D_is_couple.f D_is_couple.fd ["thing"] (sp_is_couple K)) (T : TB mg) : FnOk P w K mg base CX0 3 D_is_row.f D_is_row.fd ["thing"] (sp_is_row K) := by
  refine ok0 D_is_row.F sc_is_row (fun vs H Q E h => ?_) (fun cdv A outer s H vs Q E hr h => ?_)
  · obtain ⟨⟨v, r, rfl, hv, h1, h2⟩, k⟩ := h
    rfl
  · obtain ⟨⟨v, r, rfl, hv, h1, h2⟩, k⟩ := h
    refine ⟨_, (pss_one (ps_ret (pe_and (pe_call G_is_couple (hr.mono (by decide)) (by rfl) D_is_couple.m D_is_couple.F.kp D_is_couple.b .nil pass0 (pa_cons (pv 0) pa_nil)) (pe_and (pe_call G_is_side (hr.mono (by decide)) (by rfl) D_is_side.m D_is_side.F.kp D_is_side.b .nil pass0 (pa_cons (pe_ix ix_seq (pv 0) pe_int (fun _ _ => rfl)) pa_nil)) (pe_one (pe_call G_is_side (hr.mono (by decide)) (by rfl) D_is_side.m D_is_side.F.kp D_is_side.b .nil pass0 (pa_cons (pe_ix ix_seq (pv 0) pe_int (fun _ _ => rfl)) pa_nil))))))), ?_⟩
    obtain ⟨a, x, y, rfl, hs, hx, hy⟩ := hv
    refine ⟨_, rfl, ⟨a, _, _, rfl, hs⟩, fun H1 s1 => ⟨_, rfl, iteT ?_⟩⟩
    refine ⟨_, rfl, ix_sqn (hs.same s1) rfl ⟨⟨_, _, rfl, hx.same s1, h1⟩, fun H2 s2 => ⟨_, rfl, iteT ?_⟩⟩⟩
    have s2 := s1.trans s2
    exact ⟨_, rfl, ix_sqn (hs.same s2) rfl ⟨⟨_, _, rfl, hy.same s2, h2⟩, fun H3 s3 => k _ (s2.trans s3)⟩⟩
end
theorem sc_sign_stands : FnScope ["sign", "letters", "unknowns"] ["sign", "letters", "unknowns"] (defScope s_sign_stands) := ⟨rfl, rfl, rfl, by decide +kernel, rfl, by decide +kernel, by decide +kernel⟩
section
variable {P : Program} {w : World} {K : PySem.W.Frag} {mg : Str → Option Value} {base : Heap}
theorem ok_sign_stands (D_sign_stands : Dn K mg "sign_stands" s_sign_stands ["sign", "letters", "unknowns"]) (T : TB mg) : FnOk P w K mg base CX0 1 D_sign_stands.f D_sign_stands.fd ["sign", "letters", "unknowns"] sp_sign_stands := by
  refine ok0 D_sign_stands.F sc_sign_stands (fun vs H Q E h => ?_) (fun cdv A outer s H vs Q E hr h => ?_)
  · obtain ⟨⟨i, l, u, rfl, h0, h1⟩, k⟩ := h
    rfl
  · obtain ⟨⟨i, l, u, rfl, h0, h1⟩, k⟩ := h
    refine ⟨_, (pss_one (ps_ret (pe_ifExp (pt_cmpR op_ge (pv 0) pe_int (nomark _)) (pe_cmpR op_lt (pv 0) (pv 1) (nomark _)) (pe_cmpR op_lt (pe_op op_sub (pe_un un_neg pe_int) (pv 0)) (pv 2) (nomark _))))), ?_⟩
    refine ⟨_, rfl, _, _, rfl, rfl, _, rfl, ?_⟩
    refine ite2 (fun _ => ?_) (fun _ => ?_)
    · refine ⟨_, rfl, _, rfl, _, _, rfl, rfl, ?_⟩
      show Q (.bl (decide (i < l))) H
      rw [decide_eq_true h0]
      exact k _ (Same.refl H)
    · refine ⟨_, rfl, _, rfl, _, _, rfl, rfl, _, rfl, _, _, rfl, rfl, ?_⟩
      show Q (.bl (decide (-1 - i < u))) H
      rw [decide_eq_true h1]
      exact k _ (Same.refl H)
end
end My
set_option maxHeartbeats 4000000
namespace My
open PySem PySem.Spec PyProof.Rows L2 Lcn Sq
/-! ### the clauses of a block, turn by turn -/
theorem turns_it {J : It} {n : Nat} {Gw : Hp → Prop} {Xt : Nat → V → Prop} (w : Walk J n Gw (YIs Xt)) {g : TG} {tt : TT} {t1 : Lcn.TB} {vs : List Nat} {D : Addr} {σ : L2.St} {Z : Hp → Prop} {H : Hp} (Pv : Nat → Hp → Prop) (h0 : Pv 0 H) (hG : ∀ i H, i ≤ n → Pv i H → Gw H)
    (hs : ∀ i x H, i < n → Xt i x → Pv i H → g x (wipe σ vs) H fun σ2 H2 => wipe σ2 vs = wipe σ vs ∧ tt σ2 H2 fun b H3 => if b = true then t1 D σ2 H3 (Pv (i + 1)) else Pv (i + 1) H3) (hd : ∀ H, Pv n H → Z H) : tTurns g tt t1 vs J D σ Z H := by
  refine ⟨fun i m H => m = n - i ∧ i ≤ n ∧ Pv i H, ⟨n, by simp, Nat.zero_le _, h0⟩, ?_⟩
  rintro i m H ⟨rfl, hi, p⟩
  have q := hG i H hi p
  by_cases hlt : i < n
  · refine .inr ⟨w.goes i H hlt q, Pv (i + 1), fun H' p' => ⟨n - (i + 1), by omega, rfl, hlt, p'⟩, fun x H' y => ?_⟩
    obtain ⟨e, hx⟩ := w.yields i H x H' hlt q y
    subst e
    exact hs i x H' hlt hx p
  · have e : i = n := by omega
    subst e
    exact .inl ⟨w.stops H q, hd H p⟩
theorem turns_yes {J : It} {n : Nat} {Gw : Hp → Prop} {Xt : Nat → V → Prop} (w : Walk J n Gw (YIs Xt)) {g : TG} {t1 : Lcn.TB} {vs : List Nat} {D : Addr} {σ : L2.St} {Z : Hp → Prop} {H : Hp} (Pv : Nat → Hp → Prop) (h0 : Pv 0 H) (hG : ∀ i H, i ≤ n → Pv i H → Gw H)
    (hs : ∀ i x H, i < n → Xt i x → Pv i H → g x (wipe σ vs) H fun σ2 H2 => wipe σ2 vs = wipe σ vs ∧ t1 D σ2 H2 (Pv (i + 1))) (hd : ∀ H, Pv n H → Z H) : tTurns g tYes t1 vs J D σ Z H :=
  turns_it w Pv h0 hG (fun i x H hi hx p => hs i x H hi hx p) hd
/-! ### what stays where no sequence changes -/
def sq : HO → Bool
  | .lst _ => true
  | .tup _ => true
  | .frz _ _ => true
  | _ => false
def NI (H H' : Hp) : Prop := ∀ b o, sq o = true → H b = some o → H' b = some o
def Bt (p : Addr) (H H' : Hp) : Prop := ∀ b o, b ≠ p → H b = some o → H' b = some o
theorem NI.of {H H' : Hp} (e : Same H H') : NI H H' := fun b o _ h => e b o h
theorem NI.trans {H H1 H2 : Hp} (a : NI H H1) (b : NI H1 H2) : NI H H2 := fun c o n h => b c o n (a c o n h)
theorem NI.bt {p : Addr} {o : HO} {H H' : Hp} (h : H p = some o) (n : sq o = false) (e : Bt p H H') : NI H H' := fun b u m x => e b u (fun z => by
  rw [z, h] at x
  cases x
  rw [n] at m
  cases m) x
section
variable {K : PySem.W.Frag} {H H' : Hp}
theorem Sqn.ni (e : NI H H') {a : Addr} {xs : List V} (h : Sqn K H a xs) : Sqn K H' a xs := by
  rcases h with h | h
  · rcases h with (h | ⟨o, h⟩) | h
    · exact .inl (.inl (.inl (e _ _ rfl h)))
    · exact .inl (.inl (.inr ⟨o, e _ _ rfl h⟩))
    · exact .inl (.inr h)
  · rcases h with (h | ⟨o, h⟩) | h
    · exact .inr (.inl (.inl (e _ _ rfl h)))
    · exact .inr (.inl (.inr ⟨o, e _ _ rfl h⟩))
    · exact .inr (.inr h)
theorem SqT.ni (e : NI H H') {a : Addr} {xs : List V} (h : SqT K H a xs) : SqT K H' a xs := by
  rcases h with (h | ⟨o, h⟩) | h
  · exact .inl (.inl (e _ _ rfl h))
  · exact .inl (.inr ⟨o, e _ _ rfl h⟩)
  · exact .inr h
theorem IntsS.ni (e : NI H H') {v : V} {ns : List Int} (h : IntsS K H v ns) : IntsS K H' v ns := by
  obtain ⟨a, r, s⟩ := h
  exact ⟨a, r, Sqn.ni e s⟩
/-- a row that is a tuple; its sides any sequences -/
def RowP (K : PySem.W.Frag) (H : Hp) (v : V) (r : List Int × List Int) : Prop := ∃ a x y, v = .ref a ∧ SqT K H a [x, y] ∧ IntsS K H x r.1 ∧ IntsS K H y r.2
def EndP (K : PySem.W.Frag) (H : Hp) (v : V) (e : Int × List Int) : Prop := ∃ a y, v = .ref a ∧ SqT K H a [.int e.1, y] ∧ IntsS K H y e.2
theorem RowP.ni (e : NI H H') {v : V} {r : List Int × List Int} (h : RowP K H v r) : RowP K H' v r := by
  obtain ⟨a, x, y, r, s, h1, h2⟩ := h
  exact ⟨a, x, y, r, SqT.ni e s, h1.ni e, h2.ni e⟩
theorem EndP.ni (e : NI H H') {v : V} {r : Int × List Int} (h : EndP K H v r) : EndP K H' v r := by
  obtain ⟨a, y, r, s, h1⟩ := h
  exact ⟨a, y, r, SqT.ni e s, h1.ni e⟩
theorem RowP.s {v : V} {r : List Int × List Int} (h : RowP K H v r) : RowS K H v r := by
  obtain ⟨a, x, y, r, s, h1, h2⟩ := h
  exact ⟨a, x, y, r, .inr s, h1, h2⟩
theorem EndP.s {v : V} {r : Int × List Int} (h : EndP K H v r) : EndS K H v r := by
  obtain ⟨a, y, r, s, h1⟩ := h
  exact ⟨a, y, r, .inr s, h1⟩
theorem SeqS.ni {α : Type} {R : Hp → V → α → Prop} (m : ∀ v z, R H v z → R H' v z) (e : NI H H') {v : V} {zs : List α} (h : SeqS K R H v zs) : SeqS K R H' v zs := by
  obtain ⟨a, xs, r, s, l, f⟩ := h
  exact ⟨a, xs, r, Sqn.ni e s, l, fun i x z h1 h2 => m x z (f i x z h1 h2)⟩
/-! ### tuples all through -/
def IntsT (K : PySem.W.Frag) (H : Hp) (v : V) (ns : List Int) : Prop := ∃ a, v = .ref a ∧ SqT K H a (ns.map V.int)
def RowT (K : PySem.W.Frag) (H : Hp) (v : V) (r : List Int × List Int) : Prop := ∃ a x y, v = .ref a ∧ SqT K H a [x, y] ∧ IntsT K H x r.1 ∧ IntsT K H y r.2
def EndT (K : PySem.W.Frag) (H : Hp) (v : V) (e : Int × List Int) : Prop := ∃ a y, v = .ref a ∧ SqT K H a [.int e.1, y] ∧ IntsT K H y e.2
def SeqT {α : Type} (K : PySem.W.Frag) (R : Hp → V → α → Prop) (H : Hp) (v : V) (zs : List α) : Prop := ∃ a xs, v = .ref a ∧ SqT K H a xs ∧ xs.length = zs.length ∧ ∀ (i : Nat) (x : V) (z : α), xs[i]? = some x → zs[i]? = some z → R H x z
theorem IntsT.kt (e : KT H H') {v : V} {ns : List Int} (h : IntsT K H v ns) : IntsT K H' v ns := by
  obtain ⟨a, r, s⟩ := h
  exact ⟨a, r, e.tup s⟩
theorem RowT.kt (e : KT H H') {v : V} {r : List Int × List Int} (h : RowT K H v r) : RowT K H' v r := by
  obtain ⟨a, x, y, r, s, h1, h2⟩ := h
  exact ⟨a, x, y, r, e.tup s, h1.kt e, h2.kt e⟩
theorem EndT.kt (e : KT H H') {v : V} {r : Int × List Int} (h : EndT K H v r) : EndT K H' v r := by
  obtain ⟨a, y, r, s, h1⟩ := h
  exact ⟨a, y, r, e.tup s, h1.kt e⟩
theorem SeqT.kt {α : Type} {R : Hp → V → α → Prop} (m : ∀ v z, R H v z → R H' v z) (e : KT H H') {v : V} {zs : List α} (h : SeqT K R H v zs) : SeqT K R H' v zs := by
  obtain ⟨a, xs, r, s, l, f⟩ := h
  exact ⟨a, xs, r, e.tup s, l, fun i x z h1 h2 => m x z (f i x z h1 h2)⟩
theorem IntsT.ni (e : NI H H') {v : V} {ns : List Int} (h : IntsT K H v ns) : IntsT K H' v ns := by
  obtain ⟨a, r, s⟩ := h
  exact ⟨a, r, SqT.ni e s⟩
theorem RowT.ni (e : NI H H') {v : V} {r : List Int × List Int} (h : RowT K H v r) : RowT K H' v r := by
  obtain ⟨a, x, y, r, s, h1, h2⟩ := h
  exact ⟨a, x, y, r, SqT.ni e s, h1.ni e, h2.ni e⟩
theorem EndT.ni (e : NI H H') {v : V} {r : Int × List Int} (h : EndT K H v r) : EndT K H' v r := by
  obtain ⟨a, y, r, s, h1⟩ := h
  exact ⟨a, y, r, SqT.ni e s, h1.ni e⟩
theorem SeqT.ni {α : Type} {R : Hp → V → α → Prop} (m : ∀ v z, R H v z → R H' v z) (e : NI H H') {v : V} {zs : List α} (h : SeqT K R H v zs) : SeqT K R H' v zs := by
  obtain ⟨a, xs, r, s, l, f⟩ := h
  exact ⟨a, xs, r, SqT.ni e s, l, fun i x z h1 h2 => m x z (f i x z h1 h2)⟩
theorem IntsT.s {v : V} {ns : List Int} (h : IntsT K H v ns) : IntsS K H v ns := by
  obtain ⟨a, r, s⟩ := h
  exact ⟨a, r, .inr s⟩
theorem RowT.p {v : V} {r : List Int × List Int} (h : RowT K H v r) : RowP K H v r := by
  obtain ⟨a, x, y, r, s, h1, h2⟩ := h
  exact ⟨a, x, y, r, s, h1.s, h2.s⟩
theorem EndT.p {v : V} {r : Int × List Int} (h : EndT K H v r) : EndP K H v r := by
  obtain ⟨a, y, r, s, h1⟩ := h
  exact ⟨a, y, r, s, h1.s⟩
theorem SeqT.s {α : Type} {R S : Hp → V → α → Prop} (m : ∀ v z, R H v z → S H v z) {v : V} {zs : List α} (h : SeqT K R H v zs) : SeqS K S H v zs := by
  obtain ⟨a, xs, r, s, l, f⟩ := h
  exact ⟨a, xs, r, .inr s, l, fun i x z h1 h2 => m x z (f i x z h1 h2)⟩
/-- tuple([..]) of what a comprehension gave -/
theorem rd_got {α : Type} {zs : List α} {R : Hp → V → α → Prop} (m : ∀ H H' v z, KT H H' → R H v z → R H' v z) {D : Addr} {Q : VK} (h : Got D zs.length (fun H i y => ∀ z, zs[i]? = some z → R H y z) H) (q : ∀ v H', Same H H' → SeqT K R H' v zs → Q v H') :
    rTupOf K [.ref D] H Q := by
  obtain ⟨ys, h1, h2, h3⟩ := h
  unfold rTupOf
  exact ⟨D, ys, rfl, .inl ⟨SqL.of h1, fun l hl => q _ _ (same_new hl) ⟨l, ys, rfl, SqT.of upd_same, h2, fun i x z hx hz => m _ _ _ _ (KT.new hl) (h3 i x hx z hz)⟩⟩⟩
/-- each item's truth, from a walk over what stands -/
theorem seq_at {α : Type} {zs : List α} {xs : List V} {i : Nat} {x : V} (l : xs.length = zs.length) (h : xs[i]? = some x) : ∃ z, zs[i]? = some z := by
  have := (List.getElem?_eq_some_iff.mp h).1
  exact ⟨zs[i], by simp [← l, this]⟩
end
/-! ### the book -/
structure BookOk (R : List (List Int × List Int)) (D : List (List Int)) (E : List (Int × List Int)) (n : Int) : Prop where
  n1 : 1 ≤ n
  d : ∀ d ∈ D, (d.length : Int) = n ∧ d.length < 1000 ∧ ∀ i ∈ d, InR n i
  e : ∀ e ∈ E, InR n e.1 ∧ e.2.length < 1000 ∧ (∀ i ∈ e.2, InR n i) ∧ Asc e.2
  r : ∀ r ∈ R, r.1.length < 1000 ∧ r.2.length < 1000 ∧ (∀ s ∈ r.1, Stands D.length E.length s) ∧ ∀ s ∈ r.2, Stands D.length E.length s
  rl : R.length < 1000
  dl : D.length < 1000
  el : E.length < 1000
structure BookC (K : PySem.W.Frag) (mg : Str → Option Value) where
  C : Addr
  f : Addr
  fd : FuncData
  F : FunD K "__init__" "Book.__init__" (defArgs s_Book_init) (defBody s_Book_init) (defScope s_Book_init) [.int 1] [] f fd
  m : mg "Book" = some (.ref C)
  M : Mk K C f
  cl : Cls K C
  b : Binds K fd ["self", "rows", "deeds", "ends", "states"] []
  n1 : NoAttr K C "rows"
  n2 : NoAttr K C "deeds"
  n3 : NoAttr K C "ends"
  n4 : NoAttr K C "states"
def bookF (r d e : V) (n : Int) : List (Str × V) := [("rows", r), ("deeds", d), ("ends", e), ("states", .int n)]
/-- a book's attributes -/
structure BookAt (K : PySem.W.Frag) (H : Hp) (R : List (List Int × List Int)) (D : List (List Int)) (E : List (Int × List Int)) (r d e : V) : Prop where
  r : SeqT K (RowT K) H r R
  d : SeqT K (IntsT K) H d D
  e : SeqT K (EndT K) H e E
def sp_Book_init (K : PySem.W.Frag) (C : Addr) : Sp := fun vs H Q _ => ∃ (self : Addr) (rows deeds ends : V) (n : Int) (dx : Addr) (R : List (List Int × List Int)) (D : List (List Int)) (E : List (Int × List Int)), vs = [.ref self, rows, deeds, ends, .int n] ∧ H self = some (.ins C dx []) ∧
  SeqS K (RowP K) H rows R ∧ SeqS K (IntsS K) H deeds D ∧ SeqS K (EndP K) H ends E ∧ BookOk R D E n ∧
  ∀ (r d e : V) (H' : Hp), Bt self H H' → H' self = some (.ins C dx (bookF r d e n)) → BookAt K H' R D E r d e → Q .non H'
theorem k1000 {n : Nat} (h : n < 1000) : n < sizeLine := Nat.lt_trans h (by decide)
theorem k20 {n : Nat} (h : n < 1000) : n < 2 ^ 20 := Nat.lt_trans h (by decide)
theorem stb_seq {α : Type} {zs : List α} {R : Hp → V → α → Prop} (m : ∀ H H' v z, KT H H' → R H v z → R H' v z) : Stb (fun H i y => ∀ z, zs[i]? = some z → R H y z) := fun H H' i v k h z hz => m H H' v z k (h z hz)
theorem sc_Book_init : FnScope ["self", "rows", "deeds", "ends", "states", "deed", "row", "side", "sign", "left", "right", "start", "goals", "one"] ["self", "rows", "deeds", "ends", "states"] (defScope s_Book_init) := ⟨rfl, rfl, rfl, by decide +kernel, rfl, by decide +kernel, by decide +kernel⟩
section
variable {P : Program} {w : World} {K : PySem.W.Frag} {mg : Str → Option Value} {base : Heap}
theorem ok_Book_init (B : BookC K mg) (D_sign_stands : Dn K mg "sign_stands" s_sign_stands ["sign", "letters", "unknowns"]) (G_sign_stands : FnOk P w K mg base CX0 1 D_sign_stands.f D_sign_stands.fd ["sign", "letters", "unknowns"] (sp_sign_stands)) (D_is_row : Dn K mg "is_row" s_is_row ["thing"]) (G_is_row : FnOk P w K mg base CX0 3 D_is_row.f D_is_row.fd ["thing"] (sp_is_row K)) (D_is_sequence : Dn K mg "is_sequence" s_is_sequence ["thing"]) (G_is_sequence : FnOk P w K mg base CX0 1 D_is_sequence.f D_is_sequence.fd ["thing"] (sp_is_sequence K)) (D_is_ends : Dn K mg "is_ends" s_is_ends ["thing", "states"]) (G_is_ends : FnOk P w K mg base CX0 4 D_is_ends.f D_is_ends.fd ["thing", "states"] (sp_is_ends K)) (D_is_deed : Dn K mg "is_deed" s_is_deed ["thing", "states"]) (G_is_deed : FnOk P w K mg base CX0 3 D_is_deed.f D_is_deed.fd ["thing", "states"] (sp_is_deed K)) (D_is_whole : Dn K mg "is_whole" s_is_whole ["thing"]) (G_is_whole : FnOk P w K mg base CX0 1 D_is_whole.f D_is_whole.fd ["thing"] (sp_is_whole)) (T : TB mg) : FnOk P w K mg base CX0 5 B.f B.fd ["self", "rows", "deeds", "ends", "states"] (sp_Book_init K B.C) := by
  refine ok0 B.F sc_Book_init (fun vs H Q E h => ?_) (fun cdv A outer s H vs Q E hr h => ?_)
  · obtain ⟨self, rows, deeds, ends, n, dx, R, D, E', rfl, _⟩ := h
    rfl
  · obtain ⟨self, rows, deeds, ends, n, dx, R, D, E', rfl, hS, hR, hD, hE, ok, k⟩ := h
    refine ⟨_, (pss_cons (ps_if (PW.pt (pw_or (pt_not (pt_val (pe_call G_is_whole (hr.mono (by decide)) (by rfl) D_is_whole.m D_is_whole.F.kp D_is_whole.b .nil pass0 (pa_cons (pv 4) pa_nil)))) (pw_or1 (pt_cmpR op_lt (pv 4) pe_int (nomark _))))) (pss_one ps_never) pss_nil)
  (pss_cons (ps_if (PW.pt (pw_or (pt_not (pt_val (pe_call G_is_sequence (hr.mono (by decide)) (by rfl) D_is_sequence.m D_is_sequence.F.kp D_is_sequence.b .nil pass0 (pa_cons (pv 2) pa_nil)))) (pw_or1 (pt_not (pt_val (pe_callB (cr_all rfl) (by rfl) T.all_ (by decide +kernel) (pa_cons (pe_lc (own := [(("deed" : Str), 5)]) rfl sc_Book_init.nd (pi_seq (pv 2)) (blkOk_by (own := [(("deed" : Str), 5)]) (N := ["self", "rows", "deeds", "ends", "states", "deed", "row", "side", "sign", "left", "right", "start", "goals", "one"]) (sc := defScope s_Book_init) (by decide +kernel)) (fun _ _ _ _ _ => (pg_name (i := 5) sc_Book_init.nd rfl (Or.inl rfl))) (fun _ _ _ _ _ => pts_nil) (fun _ _ _ _ _ => (pe_call G_is_deed (hr.mono (by decide)) (by rfl) D_is_deed.m D_is_deed.F.kp D_is_deed.b .nil pass0 (pa_cons (pv 5) (pa_cons (pv 4) pa_nil))))) pa_nil))))))) (pss_one ps_never) pss_nil)
  (pss_cons (ps_if (PW.pt (pw_or (pt_not (pt_val (pe_call G_is_sequence (hr.mono (by decide)) (by rfl) D_is_sequence.m D_is_sequence.F.kp D_is_sequence.b .nil pass0 (pa_cons (pv 3) pa_nil)))) (pw_or1 (pt_not (pt_val (pe_callB (cr_all rfl) (by rfl) T.all_ (by decide +kernel) (pa_cons (pe_lc (own := [(("one" : Str), 13)]) rfl sc_Book_init.nd (pi_seq (pv 3)) (blkOk_by (own := [(("one" : Str), 13)]) (N := ["self", "rows", "deeds", "ends", "states", "deed", "row", "side", "sign", "left", "right", "start", "goals", "one"]) (sc := defScope s_Book_init) (by decide +kernel)) (fun _ _ _ _ _ => (pg_name (i := 13) sc_Book_init.nd rfl (Or.inl rfl))) (fun _ _ _ _ _ => pts_nil) (fun _ _ _ _ _ => (pe_call G_is_ends (hr.mono (by decide)) (by rfl) D_is_ends.m D_is_ends.F.kp D_is_ends.b .nil pass0 (pa_cons (pv 13) (pa_cons (pv 4) pa_nil))))) pa_nil))))))) (pss_one ps_never) pss_nil)
  (pss_cons (ps_if (PW.pt (pw_or (pt_not (pt_val (pe_call G_is_sequence (hr.mono (by decide)) (by rfl) D_is_sequence.m D_is_sequence.F.kp D_is_sequence.b .nil pass0 (pa_cons (pv 1) pa_nil)))) (pw_or1 (pt_not (pt_val (pe_callB (cr_all rfl) (by rfl) T.all_ (by decide +kernel) (pa_cons (pe_lc (own := [(("row" : Str), 6)]) rfl sc_Book_init.nd (pi_seq (pv 1)) (blkOk_by (own := [(("row" : Str), 6)]) (N := ["self", "rows", "deeds", "ends", "states", "deed", "row", "side", "sign", "left", "right", "start", "goals", "one"]) (sc := defScope s_Book_init) (by decide +kernel)) (fun _ _ _ _ _ => (pg_name (i := 6) sc_Book_init.nd rfl (Or.inl rfl))) (fun _ _ _ _ _ => pts_nil) (fun _ _ _ _ _ => (pe_call G_is_row (hr.mono (by decide)) (by rfl) D_is_row.m D_is_row.F.kp D_is_row.b .nil pass0 (pa_cons (pv 6) pa_nil)))) pa_nil))))))) (pss_one ps_never) pss_nil)
  (pss_cons (ps_if (pt_not (pt_val (pe_callB (cr_all rfl) (by rfl) T.all_ (by decide +kernel) (pa_cons (pe_lcn (own := [(("row" : Str), 6), (("side" : Str), 7), (("sign" : Str), 8)]) rfl sc_Book_init.nd (pi_seq (pv 1)) (blkOk_by (own := [(("row" : Str), 6), (("side" : Str), 7), (("sign" : Str), 8)]) (N := ["self", "rows", "deeds", "ends", "states", "deed", "row", "side", "sign", "left", "right", "start", "goals", "one"]) (sc := defScope s_Book_init) (by decide +kernel)) (by decide) (fun _ _ _ _ _ => (pg_name (i := 6) sc_Book_init.nd rfl (Or.inl rfl))) (fun _ _ _ _ _ => pts_nil) (fun _ _ _ _ _ => (pb_cl (vs := [7, 8]) rfl rfl (by decide) rfl (pi_seqK (K := K) rfl (pv 6)) (pg_name (i := 7) sc_Book_init.nd rfl (Or.inl rfl)) pts_nil (pb_cl (vs := [8]) rfl rfl (by decide) rfl (pi_seqK (K := K) rfl (pv 7)) (pg_name (i := 8) sc_Book_init.nd rfl (Or.inl rfl)) pts_nil (pb_end rfl rfl (pe_call G_sign_stands (hr.mono (by decide)) (by rfl) D_sign_stands.m D_sign_stands.F.kp D_sign_stands.b .nil pass0 (pa_cons (pv 8) (pa_cons (pe_callB (call_len_seqK (K := K) rfl) (by rfl) T.len PySem.boot_len (pa_cons (pv 2) pa_nil)) (pa_cons (pe_callB (call_len_seqK (K := K) rfl) (by rfl) T.len PySem.boot_len (pa_cons (pv 3) pa_nil)) pa_nil))))) (by decide)) (by decide))) (by decide)) pa_nil)))) (pss_one ps_never) pss_nil)
  (pss_cons (ps_fld (pv 0) (pe_callTy call_tupR (by rfl) T.tuple_ (by decide +kernel) (pa_cons (pe_lc (own := [(("left" : Str), 9), (("right" : Str), 10)]) rfl sc_Book_init.nd (pi_seq (pv 1)) (blkOk_by (own := [(("left" : Str), 9), (("right" : Str), 10)]) (N := ["self", "rows", "deeds", "ends", "states", "deed", "row", "side", "sign", "left", "right", "start", "goals", "one"]) (sc := defScope s_Book_init) (by decide +kernel)) (fun _ _ _ _ _ => (pg_tupK (K := K) (n := 2) rfl rfl (pgs_cons (pg_name (i := 9) sc_Book_init.nd rfl (Or.inl rfl)) (pgs_cons (pg_name (i := 10) sc_Book_init.nd rfl (Or.inl rfl)) pgs_nil)))) (fun _ _ _ _ _ => pts_nil) (fun _ _ _ _ _ => (pe_tup (pa_cons (pe_callTy (call_tupRK (K := K) rfl) (by rfl) T.tuple_ (by decide +kernel) (pa_cons (pv 9) pa_nil)) (pa_cons (pe_callTy (call_tupRK (K := K) rfl) (by rfl) T.tuple_ (by decide +kernel) (pa_cons (pv 10) pa_nil)) pa_nil))))) pa_nil)) rfl)
  (pss_cons (ps_fld (pv 0) (pe_callTy call_tupR (by rfl) T.tuple_ (by decide +kernel) (pa_cons (pe_lc (own := [(("deed" : Str), 5)]) rfl sc_Book_init.nd (pi_seq (pv 2)) (blkOk_by (own := [(("deed" : Str), 5)]) (N := ["self", "rows", "deeds", "ends", "states", "deed", "row", "side", "sign", "left", "right", "start", "goals", "one"]) (sc := defScope s_Book_init) (by decide +kernel)) (fun _ _ _ _ _ => (pg_name (i := 5) sc_Book_init.nd rfl (Or.inl rfl))) (fun _ _ _ _ _ => pts_nil) (fun _ _ _ _ _ => (pe_callTy (call_tupRK (K := K) rfl) (by rfl) T.tuple_ (by decide +kernel) (pa_cons (pv 5) pa_nil)))) pa_nil)) rfl)
  (pss_cons (ps_fld (pv 0) (pe_callTy call_tupR (by rfl) T.tuple_ (by decide +kernel) (pa_cons (pe_lc (own := [(("start" : Str), 11), (("goals" : Str), 12)]) rfl sc_Book_init.nd (pi_seq (pv 3)) (blkOk_by (own := [(("start" : Str), 11), (("goals" : Str), 12)]) (N := ["self", "rows", "deeds", "ends", "states", "deed", "row", "side", "sign", "left", "right", "start", "goals", "one"]) (sc := defScope s_Book_init) (by decide +kernel)) (fun _ _ _ _ _ => (pg_tupK (K := K) (n := 2) rfl rfl (pgs_cons (pg_name (i := 11) sc_Book_init.nd rfl (Or.inl rfl)) (pgs_cons (pg_name (i := 12) sc_Book_init.nd rfl (Or.inl rfl)) pgs_nil)))) (fun _ _ _ _ _ => pts_nil) (fun _ _ _ _ _ => (pe_tup (pa_cons (pv 11) (pa_cons (pe_callTy (call_tupRK (K := K) rfl) (by rfl) T.tuple_ (by decide +kernel) (pa_cons (pv 12) pa_nil)) pa_nil))))) pa_nil)) rfl)
  (pss_one (ps_fld (pv 0) (pv 4) rfl)))))))))), ?_⟩
    obtain ⟨aR, xR, rfl, hsR, lR, fR⟩ := hR
    obtain ⟨aD, xD, rfl, hsD, lD, fD⟩ := hD
    obtain ⟨aE, xE, rfl, hsE, lE, fE⟩ := hE
    refine ⟨_, rfl, ⟨n, rfl⟩, fun H1 s1 => ⟨_, rfl, iteF ?_⟩⟩
    refine ⟨_, rfl, _, _, rfl, rfl, _, rfl, ?_⟩
    have n1 : decide (n < 1) = false := decide_eq_false (by have := ok.n1; omega)
    rw [n1]
    refine iteF ?_
    -- deeds
    refine ⟨_, rfl, ⟨aD, _, rfl, hsD.same s1⟩, fun H2 s2 => ⟨_, rfl, iteF ?_⟩⟩
    have s2 := s1.trans s2
    refine seq_rd s2 (fun _ q => ⟨_, rfl, q⟩) hsD fun J Gw w gw L hL => ?_
    refine lc_fr w (by rw [lD]; exact k1000 ok.dl) stb_true gd0 hL trivial (fun H' e => gw H' fun o h => F0.same e _ o (s2 _ o h)) (fun i x H' Q' hi hx e q => by
      obtain ⟨z, hz⟩ := seq_at lD hx
      obtain ⟨c1, c2, c3⟩ := ok.d z (List.mem_of_getElem? hz)
      exact ⟨rfl, _, rfl, _, rfl, ⟨_, z, n, rfl, (fD i x z hx hz).same (s2.trans (F0.same e)), c1, k20 c2, c3⟩, fun H3 s3 => q _ H3 (F0.of s3) rfl⟩) (fun H3 e got => ?_)
    obtain ⟨g1, g2⟩ := all_got (K := K) got
    refine ⟨L, _, rfl, g1, ?_⟩
    rw [g2]
    refine ⟨_, rfl, iteF ?_⟩
    have s3 := s2.trans (F0.same e)
    -- ends
    refine ⟨_, rfl, ⟨aE, _, rfl, hsE.same s3⟩, fun H4 s4 => ⟨_, rfl, iteF ?_⟩⟩
    have s4 := s3.trans s4
    refine seq_rd s4 (fun _ q => ⟨_, rfl, q⟩) hsE fun J Gw w gw L hL => ?_
    refine lc_fr w (by rw [lE]; exact k1000 ok.el) stb_true gd0 hL trivial (fun H' e => gw H' fun o h => F0.same e _ o (s4 _ o h)) (fun i x H' Q' hi hx e q => by
      obtain ⟨z, hz⟩ := seq_at lE hx
      obtain ⟨c1, c2, c3, c4⟩ := ok.e z (List.mem_of_getElem? hz)
      exact ⟨rfl, _, rfl, _, rfl, ⟨_, z, n, rfl, (fE i x z hx hz).s.same (s4.trans (F0.same e)), k20 c2, c1, c3, c4⟩, fun H3 s3 => q _ H3 (F0.of s3) rfl⟩) (fun H5 e got => ?_)
    obtain ⟨g1, g2⟩ := all_got (K := K) got
    refine ⟨L, _, rfl, g1, ?_⟩
    rw [g2]
    refine ⟨_, rfl, iteF ?_⟩
    have s5 := s4.trans (F0.same e)
    -- rows
    refine ⟨_, rfl, ⟨aR, _, rfl, hsR.same s5⟩, fun H6 s6 => ⟨_, rfl, iteF ?_⟩⟩
    have s6 := s5.trans s6
    refine seq_rd s6 (fun _ q => ⟨_, rfl, q⟩) hsR fun J Gw w gw L hL => ?_
    refine lc_fr w (by rw [lR]; exact k1000 ok.rl) stb_true gd0 hL trivial (fun H' e => gw H' fun o h => F0.same e _ o (s6 _ o h)) (fun i x H' Q' hi hx e q => by
      obtain ⟨z, hz⟩ := seq_at lR hx
      obtain ⟨c1, c2, c3⟩ := ok.r z (List.mem_of_getElem? hz)
      exact ⟨rfl, _, rfl, ⟨_, z, rfl, (fR i x z hx hz).s.same (s6.trans (F0.same e)), k20 c1, k20 c2⟩, fun H3 s3 => q _ H3 (F0.of s3) rfl⟩) (fun H7 e got => ?_)
    obtain ⟨g1, g2⟩ := all_got (K := K) got
    refine ⟨L, _, rfl, g1, ?_⟩
    rw [g2]
    refine ⟨_, rfl, iteF ?_⟩
    have s7 := s6.trans (F0.same e)
    -- signs
    refine seq_rd s7 (fun _ q => ⟨_, rfl, q⟩) hsR fun J Gw w gw L hL => ?_
    refine turns_yes w (fun i H' => Same H7 H' ∧ ∃ ys, H' L = some (.lst ys) ∧ ys.length ≤ i * 2000 ∧ ∀ y ∈ ys, y = .bl true) ⟨same_new hL, [], upd_same, by simp, by simp⟩ (fun i H' _ p => gw H' fun o h => p.1 _ o (s7 _ o h)) (fun i x H' hi hx p => by
      obtain ⟨z, hz⟩ := seq_at lR hx
      obtain ⟨c1, c2, c3, c4⟩ := ok.r z (List.mem_of_getElem? hz)
      obtain ⟨ar, x1, y1, rfl, hrow, hx1, hy1⟩ := fR i x z hx hz
      have hi1 : i < 1000 := by
        rw [lR] at hi
        exact Nat.lt_trans hi ok.rl
      refine ⟨rfl, ?_⟩
      refine seq_rd (s7.trans p.1) (fun _ q => ⟨_, rfl, q⟩) (.inr hrow) fun J2 Gw2 w2 gw2 => ?_
      refine turns_yes w2 (fun j H'' => Same H7 H'' ∧ ∃ ys, H'' L = some (.lst ys) ∧ ys.length ≤ i * 2000 + j * 1000 ∧ ∀ y ∈ ys, y = .bl true) ⟨p.1, by simpa using p.2⟩ (fun j H'' _ p => gw2 H'' fun o h => p.1 _ o (s7 _ o h)) (fun j x2 H'' hj hx2 p2 => ?_) (fun H'' p2 => ?_)
      · obtain ⟨ns, h1, h2, h3⟩ : ∃ ns, IntsS K H x2 ns ∧ ns.length < 1000 ∧ ∀ s ∈ ns, Stands D.length E'.length s := by
          have hj2 : j < 2 := hj
          rcases (by omega : j = 0 ∨ j = 1) with rfl | rfl
          · cases hx2
            exact ⟨_, hx1, c1, c3⟩
          · cases hx2
            exact ⟨_, hy1, c2, c4⟩
        obtain ⟨as, rfl, hs⟩ := h1
        have hj2 : j < 2 := hj
        refine ⟨rfl, ?_⟩
        refine seq_rd (s7.trans p2.1) (fun _ q => ⟨_, rfl, q⟩) hs fun J3 Gw3 w3 gw3 => ?_
        refine turns_yes w3 (fun l H3 => Same H7 H3 ∧ ∃ ys, H3 L = some (.lst ys) ∧ ys.length ≤ i * 2000 + j * 1000 + l ∧ ∀ y ∈ ys, y = .bl true) ⟨p2.1, by simpa using p2.2⟩ (fun l H3 _ p => gw3 H3 fun o h => p.1 _ o (s7 _ o h)) (fun l x3 H3 hl hx3 p3 => ?_) (fun H3 p3 => ?_)
        · obtain ⟨s, hs', rfl⟩ := map_at hx3
          obtain ⟨q3, ys, q4, q5, q6⟩ := p3
          have s8 := s7.trans q3
          refine ⟨rfl, ?_⟩
          refine ⟨_, rfl, _, rfl, aD, xD, rfl, hsD.same s8, _, rfl, aE, xE, rfl, hsE.same s8, ⟨s, _, _, rfl, ?_⟩, fun H9 s9 => ?_⟩
          · rw [lD, lE]
            exact h3 s (List.mem_of_getElem? hs')
          · have hl1 : l < 1000 := by
              rw [List.length_map] at hl
              omega
            have big : i * 2000 + j * 1000 + l < sizeLine := by
              have : sizeLine = 16777216 := by decide
              omega
            refine ⟨ys, s9 _ _ q4, by omega, same_upd (q3.trans s9) hL, _, upd_same, by rw [List.length_append]; show ys.length + 1 ≤ _; omega, fun y hy => ?_⟩
            rcases List.mem_append.mp hy with hy | hy
            · exact q6 y hy
            · simpa using hy
        · obtain ⟨q3, ys, q4, q5, q6⟩ := p3
          rw [List.length_map] at q5
          exact ⟨q3, ys, q4, by omega, q6⟩
      · obtain ⟨q3, ys, q4, q5, q6⟩ := p2
        have q5 : ys.length ≤ i * 2000 + 2 * 1000 := q5
        exact ⟨q3, ys, q4, by omega, q6⟩) (fun H8 p => ?_)
    obtain ⟨t8, ys, y1, y2, y3⟩ := p
    obtain ⟨g1, g2⟩ := all_got (K := K) (H := H8) (D := L) (n := ys.length) ⟨ys, y1, rfl, fun i y h => y3 y (List.mem_of_getElem? h)⟩
    refine ⟨L, _, rfl, g1, ?_⟩
    rw [g2]
    refine ⟨_, rfl, iteF ?_⟩
    have s8 := s7.trans t8
    -- self.rows
    have hsf : H8 self = some (.ins B.C dx []) := s8 _ _ hS
    refine seq_rd s8 (fun _ q => ⟨_, rfl, q⟩) hsR fun J Gw w gw L hL => ?_
    refine lc_fr (R := fun H i y => ∀ z, R[i]? = some z → RowT K H y z) w (by rw [lR]; exact k1000 ok.rl) (stb_seq fun _ _ _ _ k h => h.kt k) gd0 hL trivial (fun H' e => gw H' fun o h => F0.same e _ o (s8 _ o h)) (fun i x H' Q' hi hx e q => by
      obtain ⟨z, hz⟩ := seq_at lR hx
      obtain ⟨ar, x1, y1, rfl, hrow, hx1, hy1⟩ := (fR i x z hx hz).ni (NI.of (s8.trans (F0.same e)))
      obtain ⟨a1, rfl, h1⟩ := hx1
      obtain ⟨a2, rfl, h2⟩ := hy1
      refine ⟨ar, _, rfl, hrow, rfl, _, _, rfl, _, _, rfl, rfl, rfl, ?_⟩
      refine ⟨_, rfl, rd_tup h1 fun b1 H1 e1 t1 => ⟨_, rfl, rd_tup (h2.same e1) fun b2 H2 e2 t2 => ⟨(by show 2 ≤ sizeLine; decide), fun p hp => ?_⟩⟩⟩
      refine q _ _ (F0.of ((e1.trans e2).trans (same_new hp))) fun z' hz' => ?_
      rw [hz] at hz'
      cases hz'
      have m : Same H2 (upd H2 p (.tup [.ref b1, .ref b2])) := same_new hp
      exact ⟨p, _, _, rfl, SqT.of upd_same, ⟨b1, rfl, SqT.same (e2.trans m) t1⟩, ⟨b2, rfl, SqT.same m t2⟩⟩) (fun H9 e got => ?_)
    rw [lR] at got
    refine rd_got (fun _ _ _ _ k h => h.kt k) got fun r H10 e10 hr1 => ?_
    have t10 := (F0.same e).trans e10
    refine ⟨_, rfl, self, B.C, dx, [], rfl, t10 _ _ hsf, B.cl, B.n1, (by decide), ?_⟩
    -- self.deeds
    have bt : Bt self H (upd H10 self (.ins B.C dx (putF "rows" r []))) := fun b o nb h => by
      rw [upd_ne nb]
      exact (s8.trans t10) b o h
    have hr2 : SeqT K (RowT K) (upd H10 self (.ins B.C dx (putF "rows" r []))) r R := hr1.ni (fun _ _ h => h.ni (NI.bt (t10 _ _ hsf) rfl fun b o nb h => by rw [upd_ne nb]; exact h)) (NI.bt (t10 _ _ hsf) rfl fun b o nb h => by rw [upd_ne nb]; exact h)
    have hsf2 : (upd H10 self (.ins B.C dx (putF "rows" r []))) self = some (.ins B.C dx (putF "rows" r [])) := upd_same
    generalize upd H10 self (.ins B.C dx (putF "rows" r [])) = HA at bt hr2 hsf2 ⊢
    have nA : NI H HA := NI.bt hS rfl bt
    refine seq_rd (H0 := HA) (Same.refl _) (fun _ q => ⟨_, rfl, q⟩) (Sqn.ni nA hsD) fun J Gw w gw L hL => ?_
    refine lc_fr (R := fun H i y => ∀ z, D[i]? = some z → IntsT K H y z) w (by rw [lD]; exact k1000 ok.dl) (stb_seq fun _ _ _ _ k h => h.kt k) gd0 hL trivial (fun H' e => gw H' fun o h => F0.same e _ o h) (fun i x H' Q' hi hx e q => by
      obtain ⟨z, hz⟩ := seq_at lD hx
      obtain ⟨a1, rfl, h1⟩ := (fD i x z hx hz).ni (nA.trans (NI.of (F0.same e)))
      refine ⟨rfl, _, rfl, rd_tup h1 fun b1 H1 e1 t1 => q _ _ (F0.of e1) fun z' hz' => ?_⟩
      rw [hz] at hz'
      cases hz'
      exact ⟨b1, rfl, t1⟩) (fun H9 e got => ?_)
    rw [lD] at got
    refine rd_got (fun _ _ _ _ k h => h.kt k) got fun d HB eB hd1 => ?_
    have tB := (F0.same e).trans eB
    refine ⟨_, rfl, self, B.C, dx, _, rfl, tB _ _ hsf2, B.cl, B.n2, (by show 1 < 1000; decide), ?_⟩
    -- self.ends
    have bt2 : Bt self HA (upd HB self (.ins B.C dx (putF "deeds" d (putF "rows" r [])))) := fun b o nb h => by
      rw [upd_ne nb]
      exact tB b o h
    have hd2 : SeqT K (IntsT K) (upd HB self (.ins B.C dx (putF "deeds" d (putF "rows" r [])))) d D := hd1.ni (fun _ _ h => h.ni (NI.bt (tB _ _ hsf2) rfl fun b o nb h => by rw [upd_ne nb]; exact h)) (NI.bt (tB _ _ hsf2) rfl fun b o nb h => by rw [upd_ne nb]; exact h)
    have hsf3 : (upd HB self (.ins B.C dx (putF "deeds" d (putF "rows" r [])))) self = some (.ins B.C dx (putF "deeds" d (putF "rows" r []))) := upd_same
    generalize upd HB self (.ins B.C dx (putF "deeds" d (putF "rows" r []))) = HC at bt2 hd2 hsf3 ⊢
    have nB : NI HA HC := NI.bt hsf2 rfl bt2
    refine seq_rd (H0 := HC) (Same.refl _) (fun _ q => ⟨_, rfl, q⟩) (Sqn.ni (nA.trans nB) hsE) fun J Gw w gw L hL => ?_
    refine lc_fr (R := fun H i y => ∀ z, E'[i]? = some z → EndT K H y z) w (by rw [lE]; exact k1000 ok.el) (stb_seq fun _ _ _ _ k h => h.kt k) gd0 hL trivial (fun H' e => gw H' fun o h => F0.same e _ o h) (fun i x H' Q' hi hx e q => by
      obtain ⟨z, hz⟩ := seq_at lE hx
      obtain ⟨ar, y1, rfl, hrow, hy1⟩ := (fE i x z hx hz).ni ((nA.trans nB).trans (NI.of (F0.same e)))
      obtain ⟨a2, rfl, h2⟩ := hy1
      refine ⟨ar, _, rfl, hrow, rfl, _, _, rfl, _, _, rfl, rfl, rfl, ?_⟩
      refine ⟨_, rfl, _, rfl, rd_tup h2 fun b2 H2 e2 t2 => ⟨(by show 2 ≤ sizeLine; decide), fun p hp => ?_⟩⟩
      refine q _ _ (F0.of (e2.trans (same_new hp))) fun z' hz' => ?_
      rw [hz] at hz'
      cases hz'
      exact ⟨p, _, rfl, SqT.of upd_same, ⟨b2, rfl, SqT.same (same_new hp) t2⟩⟩) (fun H9 e got => ?_)
    rw [lE] at got
    refine rd_got (fun _ _ _ _ k h => h.kt k) got fun en HD eD he1 => ?_
    have tD := (F0.same e).trans eD
    refine ⟨_, rfl, self, B.C, dx, _, rfl, tD _ _ hsf3, B.cl, B.n3, (by show 2 < 1000; decide), ?_⟩
    have bt3 : Bt self HC (upd HD self (.ins B.C dx (putF "ends" en (putF "deeds" d (putF "rows" r []))))) := fun b o nb h => by
      rw [upd_ne nb]
      exact tD b o h
    have he2 : SeqT K (EndT K) (upd HD self (.ins B.C dx (putF "ends" en (putF "deeds" d (putF "rows" r []))))) en E' := he1.ni (fun _ _ h => h.ni (NI.bt (tD _ _ hsf3) rfl fun b o nb h => by rw [upd_ne nb]; exact h)) (NI.bt (tD _ _ hsf3) rfl fun b o nb h => by rw [upd_ne nb]; exact h)
    have hsf4 : (upd HD self (.ins B.C dx (putF "ends" en (putF "deeds" d (putF "rows" r []))))) self = some (.ins B.C dx (putF "ends" en (putF "deeds" d (putF "rows" r [])))) := upd_same
    generalize upd HD self (.ins B.C dx (putF "ends" en (putF "deeds" d (putF "rows" r [])))) = HE at bt3 he2 hsf4 ⊢
    have nC : NI HC HE := NI.bt hsf3 rfl bt3
    -- self.states
    refine ⟨_, rfl, _, rfl, self, B.C, dx, _, rfl, hsf4, B.cl, B.n4, (by show 3 < 1000; decide), ?_⟩
    have bt4 : Bt self HE (upd HE self (.ins B.C dx (putF "states" (.int n) (putF "ends" en (putF "deeds" d (putF "rows" r [])))))) := fun b o nb h => by
      rw [upd_ne nb]
      exact h
    have nD : NI HE _ := NI.bt hsf4 rfl bt4
    refine k r d en _ (fun b o nb h => bt4 b o nb (bt3 b o nb (bt2 b o nb (bt b o nb h)))) upd_same ⟨?_, ?_, ?_⟩
    · exact hr2.ni (fun _ _ h => h.ni ((nB.trans nC).trans nD)) ((nB.trans nC).trans nD)
    · exact hd2.ni (fun _ _ h => h.ni (nC.trans nD)) (nC.trans nD)
    · exact he2.ni (fun _ _ h => h.ni nD) nD
end
end My
set_option maxHeartbeats 4000000
namespace My
open PySem L2
/-- a def of the module, without defaults -/
abbrev FnP (K : PySem.W.Frag) (x : Str) (st : Stmt) (f : Addr) (fd : FuncData) : Prop := FunD K x x (defArgs st) (defBody st) (defScope st) [] [] f fd
/-! ### the source of draws -/
/-- the numbers of a source are in order -/
structure SrcOk (p h m : Int) : Prop where
  p0 : 0 ≤ p
  h0 : 0 ≤ h
  m0 : 0 ≤ m
  m1 : m < 2147483647
def srcO (L : Addr) (p h m : Int) : HO := .lst [.ref L, .int p, .int h, .int m]
/-- at a a source stands, over the ints ns at L -/
structure SrcAt (H : Hp) (a L : Addr) (ns : List Int) (p h m : Int) : Prop where
  ok : SrcOk p h m
  at_ : H a = some (srcO L p h m)
  ls : H L = some (.lst (ns.map V.int))
  ne : L ≠ a
def Src (H : Hp) (a L : Addr) (ns : List Int) : Prop := ∃ p h m, SrcAt H a L ns p h m
/-- all that was tracked beside the source stands, and the source stands -/
structure Kp (a L : Addr) (ns : List Int) (H H' : Hp) : Prop where
  keep : ∀ b o, b ≠ a → H b = some o → H' b = some o
  src : Src H' a L ns
theorem Kp.refl {a L : Addr} {ns : List Int} {H : Hp} (s : Src H a L ns) : Kp a L ns H H := ⟨fun _ _ _ h => h, s⟩
theorem Kp.trans {a L : Addr} {ns : List Int} {H H1 H2 : Hp} (x : Kp a L ns H H1) (y : Kp a L ns H1 H2) : Kp a L ns H H2 := ⟨fun b o n h => y.keep b o n (x.keep b o n h), y.src⟩
theorem Src.ne {a L : Addr} {ns : List Int} {H : Hp} {p : Addr} (s : Src H a L ns) (h : H p = none) : a ≠ p := by
  obtain ⟨_, _, _, q⟩ := s
  exact ne_of_none q.at_ h
theorem Src.kept {a L : Addr} {ns : List Int} {H H' : Hp} (s : Src H a L ns) (k : ∀ b o, H b = some o → H' b = some o) : Src H' a L ns := by
  obtain ⟨p, h, m, q⟩ := s
  exact ⟨p, h, m, q.ok, k _ _ q.at_, k _ _ q.ls, q.ne⟩
theorem Kp.same {a L : Addr} {ns : List Int} {H H' : Hp} (s : Src H a L ns) (k : ∀ b o, H b = some o → H' b = some o) : Kp a L ns H H' := ⟨fun b o _ h => k b o h, s.kept k⟩
theorem same_newA {H : Hp} {p : Addr} {o : HO} (h : H p = none) : ∀ b u, H b = some u → upd H p o b = some u := fun b u e => by
  rw [upd_ne (ne_of_none e h)]
  exact e
theorem Kp.new {a L : Addr} {ns : List Int} {H : Hp} {p : Addr} {o : HO} (s : Src H a L ns) (h : H p = none) : Kp a L ns H (upd H p o) := Kp.same s (same_newA h)
theorem Kp.upd {a L : Addr} {ns : List Int} {H : Hp} {p h m p' h' m' : Int} (S : SrcAt H a L ns p h m) (ok : SrcOk p' h' m') : Kp a L ns H (upd H a (srcO L p' h' m')) :=
  ⟨fun b o n e => by rw [upd_ne n]; exact e, p', h', m', ok, upd_same, by rw [upd_ne S.ne]; exact S.ls, S.ne⟩
/-- a tuple stands -/
theorem Kp.tup {a L : Addr} {ns : List Int} {H H' : Hp} {t : Addr} {xs : List V} (s : Src H a L ns) (k : Kp a L ns H H') (h : H t = some (.tup xs)) : H' t = some (.tup xs) := by
  obtain ⟨p, hh, m, q⟩ := s
  exact k.keep t _ (ne_of h q.at_ (by intro z; cases z)) h
/-- the promise of _law_take: some number below many, and only the source has changed -/
def spTake : Sp := fun vs H Q _ => ∃ (a L : Addr) (ns : List Int) (many : Int), vs = [.ref a, .int many] ∧ Src H a L ns ∧ 0 < many ∧ many < 2 ^ 200 ∧
  ∀ (r : Int) (H' : Hp), 0 ≤ r → r < many → Kp a L ns H H' → Q (.int r) H'
structure TxtS (mg : Str → Option Value) : Prop where
  len : mg "len" = none
  int : mg "int" = none
  list : mg "list" = none
section
variable {P : Program} {w : World} {K : PySem.W.Frag} {mg : Str → Option Value} {base : Heap}
theorem scT : FnScope ["_law_source_here", "_law_many", "_law_cell", "_law_mixed", "_law_told"] ["_law_source_here", "_law_many"] (defScope s__law_take) :=
  ⟨rfl, rfl, rfl, by decide +kernel, rfl, by decide +kernel, by decide +kernel⟩
theorem at0 {a b c d : V} : atI [a, b, c, d] 0 = some a := rfl
theorem at1 {a b c d : V} : atI [a, b, c, d] 1 = some b := rfl
theorem at2 {a b c d : V} : atI [a, b, c, d] 2 = some c := rfl
theorem at3 {a b c d : V} : atI [a, b, c, d] 3 = some d := rfl
theorem atI_int {ns : List Int} {p : Int} (h0 : 0 ≤ p) (h1 : p < (ns.length : Int)) : ∃ z, atI (ns.map V.int) p = some (.int z) := by
  obtain ⟨j, rfl⟩ : ∃ j : Nat, p = (j : Int) := ⟨p.toNat, by omega⟩
  have hj : j < ns.length := by omega
  exact ⟨ns[j], atI_nat (by simp [List.getElem?_map, hj])⟩
theorem pow200 {x many : Int} (h0 : 0 < many) (h1 : many < 2 ^ 200) : CDivW x many := by
  refine wide_div (b := 200) h0 ?_ (by decide) (by decide)
  have e : ((2 : Int) ^ 200) = ((2 ^ 200 : Nat) : Int) := by norm_cast
  omega
theorem ok_take {f : Addr} {fd : FuncData} (F : FnP K "_law_take" s__law_take f fd) (T : TxtS mg) : FnOk P w K mg base CX0 1 f fd ["_law_source_here", "_law_many"] spTake := by
  refine ok0 F scT (fun vs H Q E h => ?_) (fun cdv A outer s H vs Q E hr h => ?_)
  · obtain ⟨a, L, ns, many, rfl, _⟩ := h
    rfl
  · obtain ⟨a, L, ns, many, rfl, ⟨p, hh, m, S⟩, hm0, hm1, k0⟩ := h
    have k : ∀ (r p' h' m' : Int), 0 ≤ r → r < many → SrcOk p' h' m' → Q (.int r) (upd H a (srcO L p' h' m')) := fun r p' h' m' r0 r1 ok => k0 r _ r0 r1 (Kp.upd S ok)
    have hA := S.at_
    have hL := S.ls
    have nLa := S.ne
    have hma := hm1
    refine ⟨_, C8.pss_cut (ps_if (pt_cmpR op_eq (pe_ix ix_list (pv 0) pe_int (fun _ _ => rfl)) pe_int (nomark _))
        (pss_cons (ps_set (i := 2) scT.nd rfl (Or.inl rfl) pe_int)
        (C8.pss_cut (ps_if (pt_cmpR op_lt (pe_ix ix_list (pv 0) pe_int (fun _ _ => rfl)) (pe_callB call_len_seq (by rfl) T.len PySem.boot_len (pa_cons (pe_ix ix_list (pv 0) pe_int (fun _ _ => rfl)) pa_nil)) (nomark _))
          (pss_one (ps_set (i := 2) scT.nd rfl (Or.inl rfl) (pe_ix ix_list (pe_ix ix_list (pv 0) pe_int (fun _ _ => rfl)) (pe_ix ix_list (pv 0) pe_int (fun _ _ => rfl)) (fun _ _ => rfl)))) pss_nil)
        (pss_cons (ps_asg (pe_op op_add (pe_ix ix_list (pv 0) pe_int (fun _ _ => rfl)) pe_int) (pg_sub (pv 0) pe_int set_list))
        (pss_one (ps_if (pt_cmpR op_ge (pv 2) (pe_op op_pow pe_int pe_int) (nomark _))
          (pss_one (ps_asg (pv 2) (pg_sub (pv 0) pe_int set_list)))
          (pss_cons (ps_set (i := 3) scT.nd rfl (Or.inl rfl) (pe_op op_mod (pe_callTy call_int1 (by rfl) T.int PyProof.Rows.boot_int (pa_cons (pe_op op_add (pe_op op_add (pe_op op_add (pe_op op_mul (pe_ix ix_list (pv 0) pe_int (fun _ _ => rfl)) pe_int) (pe_op op_mul (pe_op op_mod (pe_callTy call_int1 (by rfl) T.int PyProof.Rows.boot_int (pa_cons (pv 2) pa_nil)) pe_int) pe_int)) (pe_op op_mul (pe_ix ix_list (pv 0) pe_int (fun _ _ => rfl)) pe_int)) pe_int) pa_nil)) pe_int))
          (pss_cons (ps_set (i := 3) scT.nd rfl (Or.inl rfl) (pe_op op_mod (pe_callTy call_int1 (by rfl) T.int PyProof.Rows.boot_int (pa_cons (pe_op op_add (pe_op op_add (pe_op op_mul (pv 3) (pv 3)) (pe_op op_mul (pe_ix ix_list (pv 0) pe_int (fun _ _ => rfl)) pe_int)) pe_int) pa_nil)) pe_int))
          (pss_cons (ps_asg (pv 3) (pg_sub (pv 0) pe_int set_list))
          (pss_one (ps_ret (pe_op op_mod (pe_op op_fdiv (pv 3) pe_int) (pv 1))))))))))))
        pss_nil)
      (pss_cons (ps_set (i := 4) scT.nd rfl (Or.inl rfl) (pe_op op_mod (pe_callTy call_int1 (by rfl) T.int PyProof.Rows.boot_int (pa_cons (pe_ix ix_list (pv 0) pe_int (fun _ _ => rfl)) pa_nil)) (pv 1)))
      (pss_cons (ps_asg (pe_op op_fdivW (pe_ix ix_list (pv 0) pe_int (fun _ _ => rfl)) (pv 1)) (pg_sub (pv 0) pe_int set_list))
      (pss_one (ps_ret (pv 4))))), ?_⟩
    refine ⟨fun σ' H' => ∃ (σ2 σ3 σ4 : Option V) (p1 h1 m1 : Int), σ' = [some (.ref a), some (.int many), σ2, σ3, σ4] ∧ H' = upd H a (srcO L p1 h1 m1) ∧ SrcOk p1 h1 m1, ?_, ?_⟩
    · refine ⟨_, rfl, a, _, 2, _, rfl, rfl, SqL.of hA, rfl, rfl, _, rfl, ?_⟩
      refine ite2 (fun e0 => ?_) (fun e0 => ?_)
      · have h00 : hh = 0 := by simpa using e0
        refine ⟨fun σ' H' => ∃ c, σ' = [some (.ref a), some (.int many), some (.int c), none, none] ∧ H' = H, ?_, ?_⟩
        · refine ⟨_, rfl, a, _, 1, _, rfl, rfl, SqL.of hA, rfl, ?_⟩
          refine ⟨_, rfl, a, _, 0, _, rfl, rfl, SqL.of hA, rfl, L, _, rfl, .inl (SqL.of hL), _, _, rfl, rfl, _, rfl, ?_⟩
          refine ite2 (fun e1 => ?_) (fun e1 => ?_)
          · have hp : p < (ns.length : Int) := by
              have q := of_decide_eq_true e1
              rw [List.length_map] at q
              exact q
            obtain ⟨c, hc⟩ := atI_int S.ok.p0 hp
            exact ⟨_, rfl, a, _, 0, _, rfl, rfl, SqL.of hA, rfl, _, rfl, a, _, 1, _, rfl, rfl, SqL.of hA, rfl, L, _, p, _, rfl, rfl, SqL.of hL, hc, c, rfl, rfl⟩
          · exact ⟨0, rfl, rfl⟩
        · rintro σ' H' ⟨c, eσ, eH⟩
          rw [eσ, eH]
          refine ⟨_, rfl, a, _, 1, _, rfl, rfl, SqL.of hA, rfl, _, _, rfl, rfl, _, rfl, a, _, 1, 1, rfl, rfl, hA, rfl, ?_⟩
          have hB : upd H a (srcO L (p + 1) hh m) a = some (srcO L (p + 1) hh m) := upd_same
          refine ⟨_, rfl, _, _, rfl, rfl, ⟨by decide, by decide, by decide⟩, _, _, rfl, rfl, _, rfl, ?_⟩
          refine ite2 (fun e2 => ?_) (fun e2 => ?_)
          · have c18 : (10 : Int) ^ (18 : Nat) ≤ c := of_decide_eq_true e2
            refine ⟨_, rfl, _, rfl, a, _, 2, 2, rfl, rfl, hB, rfl, some (.int c), none, none, p + 1, c, m, rfl, ?_, ?_⟩
            · rw [upd_upd]
              rfl
            · exact ⟨by have := S.ok.p0; omega, by have : (0 : Int) ≤ 10 ^ (18 : Nat) := by decide
                                                   omega, S.ok.m0, S.ok.m1⟩
          · have bm : CMul m 69621 := .inr ⟨by decide, by decide⟩
            have bq : ∀ x : Int, CMul x 48271 := fun x => .inr ⟨by decide, by decide⟩
            have bp : ∀ x : Int, CMul x 7919 := fun x => .inr ⟨by decide, by decide⟩
            have bw : ∀ x : Int, CMul x 104729 := fun x => .inr ⟨by decide, by decide⟩
            -- mixed = int(..) % 2147483647
            refine ⟨_, rfl, a, _, 3, _, rfl, rfl, SqL.of hB, rfl, _, _, rfl, rfl, bm, ?_⟩
            refine ⟨_, rfl, .inl ⟨_, rfl, _, _, rfl, rfl, (by show (0 : Int) < 2147483629; decide), _, _, rfl, rfl, bq _, _, _, rfl, rfl, ?_⟩⟩
            refine ⟨_, rfl, a, _, 1, _, rfl, rfl, SqL.of hB, rfl, _, _, rfl, rfl, bp _, _, _, rfl, rfl, _, _, rfl, rfl, .inl ⟨_, rfl, _, _, rfl, rfl, (by show (0 : Int) < 2147483647; decide), ?_⟩⟩
            obtain ⟨x, hx⟩ : ∃ x, x = (m * 69621 + c % 2147483629 * 48271 + (p + 1) * 7919 + 1) % 2147483647 := ⟨_, rfl⟩
            have x0 : 0 ≤ x := by rw [hx]; exact Int.emod_nonneg _ (by decide)
            have x1 : x < 2147483647 := by rw [hx]; exact Int.emod_lt_of_pos _ (by decide)
            show tSeq _ _ _ [some (.ref a), some (.int many), some (.int c), some (.int ((m * 69621 + c % 2147483629 * 48271 + (p + 1) * 7919 + 1) % 2147483647)), none] _
            rw [← hx]
            refine ⟨_, rfl, _, rfl, _, _, rfl, rfl, .inl ⟨by omega, by omega⟩, ?_⟩
            refine ⟨_, rfl, a, _, 1, _, rfl, rfl, SqL.of hB, rfl, _, _, rfl, rfl, bw _, _, _, rfl, rfl, _, _, rfl, rfl, .inl ⟨_, rfl, _, _, rfl, rfl, (by show (0 : Int) < 2147483629; decide), ?_⟩⟩
            obtain ⟨y, hy⟩ : ∃ y, y = (x * x + (p + 1) * 104729 + 13) % 2147483629 := ⟨_, rfl⟩
            have y0 : 0 ≤ y := by rw [hy]; exact Int.emod_nonneg _ (by decide)
            have y1 : y < 2147483629 := by rw [hy]; exact Int.emod_lt_of_pos _ (by decide)
            show tSeq _ _ _ [some (.ref a), some (.int many), some (.int c), some (.int ((x * x + (p + 1) * 104729 + 13) % 2147483629)), none] _
            rw [← hy]
            refine ⟨_, rfl, _, rfl, a, _, 3, 3, rfl, rfl, hB, rfl, ?_⟩
            refine ⟨_, rfl, _, _, rfl, rfl, ⟨by decide, by decide⟩, _, rfl, _, _, rfl, rfl, hm0, ?_⟩
            rw [upd_upd]
            exact k _ (p + 1) hh y (Int.emod_nonneg _ (by omega)) (Int.emod_lt_of_pos _ hm0) ⟨by have := S.ok.p0; omega, S.ok.h0, y0, by omega⟩
      · refine ⟨none, none, none, p, hh, m, rfl, ?_, S.ok⟩
        funext b
        by_cases hb : b = a
        · rw [hb, upd_same, hA]
        · rw [upd_ne hb]
    · rintro σ' H' ⟨σ2, σ3, σ4, p1, h1, m1, eσ, eH, ok⟩
      rw [eσ, eH]
      have hA' : upd H a (srcO L p1 h1 m1) a = some (srcO L p1 h1 m1) := upd_same
      refine ⟨_, rfl, a, _, 2, _, rfl, rfl, SqL.of hA', rfl, .inl ⟨_, rfl, _, rfl, _, _, rfl, rfl, hm0, ?_⟩⟩
      refine ⟨_, rfl, a, _, 2, _, rfl, rfl, SqL.of hA', rfl, _, rfl, _, _, rfl, rfl, pow200 (x := h1) hm0 hm1, _, rfl, ?_⟩
      refine ⟨a, _, 2, 2, rfl, rfl, hA', rfl, ?_⟩
      refine ⟨_, rfl, ?_⟩
      rw [upd_upd]
      exact k _ _ _ _ (Int.emod_nonneg _ (by omega)) (Int.emod_lt_of_pos _ hm0) ⟨ok.p0, Int.ediv_nonneg ok.h0 (by omega), ok.m0, ok.m1⟩
/-! ### _law_source -/
def spSource (K : PySem.W.Frag) : Sp := fun vs H Q _ => ∃ (a : Addr) (ns : List Int), vs = [.ref a] ∧ SqL K H a (ns.map V.int) ∧ ∀ (p L : Addr) (H' : Hp), Same H H' → H p = none → Src H' p L ns → Q (.ref p) H'
theorem scSo : FnScope ["_law_script"] ["_law_script"] (defScope s__law_source) := ⟨rfl, rfl, rfl, by decide +kernel, rfl, by decide +kernel, by decide +kernel⟩
theorem ok_source {f : Addr} {fd : FuncData} (F : FnP K "_law_source" s__law_source f fd) (T : TxtS mg) : FnOk P w K mg base CX0 1 f fd ["_law_script"] (spSource K) := by
  refine ok0 F scSo (fun vs H Q E h => ?_) (fun cdv A outer s H vs Q E hr h => ?_)
  · obtain ⟨a, ns, rfl, _⟩ := h
    rfl
  · obtain ⟨a, ns, rfl, hS, k⟩ := h
    refine ⟨_, pss_one (ps_ret (pe_lst (pa_cons (pe_callTy call_list_of (by rfl) T.list (by decide +kernel) (pa_cons (pv 0) pa_nil)) (pa_cons pe_int (pa_cons pe_int (pa_cons pe_int pa_nil)))))), ?_⟩
    refine ⟨_, rfl, a, _, rfl, .inl hS, fun l hl => ⟨(by show 4 ≤ sizeLine; decide), fun p hp => ?_⟩⟩
    have nlp : l ≠ p := fun z => by
      rw [z, upd_same] at hp
      cases hp
    have hp0 : H p = none := by
      rw [upd_ne (Ne.symm nlp)] at hp
      exact hp
    refine k p l _ (fun b o e => ?_) hp0 ⟨0, 0, 1, ⟨by decide, by decide, by decide, by decide⟩, upd_same, ?_, nlp⟩
    · rw [upd_ne (ne_of_none e hp0), upd_ne (ne_of_none e hl)]
      exact e
    · rw [upd_ne nlp, upd_same]
/-! ### _law_pick, of a list -/
def spPick (K : PySem.W.Frag) : Sp := fun vs H Q _ => ∃ (a L t : Addr) (ns : List Int) (xs : List V), vs = [.ref a, .ref t] ∧ Src H a L ns ∧ H t = some (.lst xs) ∧ t ≠ a ∧ xs ≠ [] ∧ xs.length < 1000 ∧
  ∀ (x : V) (H' : Hp), x ∈ xs → Kp a L ns H H' → Q x H'
theorem scP : FnScope ["_law_source_here", "_law_things"] ["_law_source_here", "_law_things"] (defScope s__law_pick) := ⟨rfl, rfl, rfl, by decide +kernel, rfl, by decide +kernel, by decide +kernel⟩
theorem ok_pick {f fT : Addr} {fd fdT : FuncData} (F : FnP K "_law_pick" s__law_pick f fd) (FT : FnP K "_law_take" s__law_take fT fdT) (T : TxtS mg) (mT : mg "_law_take" = some (.ref fT)) (bT : Binds K fdT ["_law_source_here", "_law_many"] []) :
    FnOk P w K mg base CX0 2 f fd ["_law_source_here", "_law_things"] (spPick K) := by
  have GT : FnOk P w K mg base CX0 1 fT fdT ["_law_source_here", "_law_many"] spTake := ok_take FT T
  refine ok0 F scP (fun vs H Q E h => ?_) (fun cdv A outer s H vs Q E hr h => ?_)
  · obtain ⟨a, L, t, ns, xs, rfl, _⟩ := h
    rfl
  · obtain ⟨a, L, t, ns, xs, rfl, S, hT, nta, hne, hlen, k⟩ := h
    refine ⟨_, pss_one (ps_ret (pe_ix ix_list (pv 1) (pe_call GT hr (by rfl) mT FT.kp bT .nil pass0 (pa_cons (pv 0) (pa_cons (pe_callB call_len_seq (by rfl) T.len PySem.boot_len (pa_cons (pv 1) pa_nil)) pa_nil))) (fun _ _ => rfl))), ?_⟩
    refine ⟨_, rfl, _, rfl, _, rfl, t, _, rfl, .inl (SqL.of hT), a, L, ns, _, rfl, S, ?_, ?_, fun r H' r0 r1 kp => ?_⟩
    · have : 0 < xs.length := List.length_pos_iff.mpr hne
      omega
    · have e : (1000 : Int) < 2 ^ 200 := by decide +kernel
      omega
    · obtain ⟨j, rfl⟩ : ∃ j : Nat, r = (j : Int) := ⟨r.toNat, by omega⟩
      have hj : j < xs.length := by omega
      exact ⟨t, xs, _, xs[j], rfl, rfl, SqL.of (kp.keep t _ nta hT), atI_nat (by simp [hj]), k _ _ (List.getElem_mem hj) kp⟩
end
end My
set_option maxHeartbeats 4000000
namespace My
open PySem PySem.Spec PyProof.Rows L2 Lcn Sq
/-! ### draws: the source alone changes -/
abbrev Fs (a L : Addr) (ns : List Int) : Hp → Hp → Prop := Sq.Fr (fun b => b = a) (fun H => Src H a L ns)
section
variable {K : PySem.W.Frag} {a L : Addr} {ns : List Int} {H H' : Hp}
theorem gdS : Gd (fun b => b = a ∨ b = L) (fun b => b = a) (fun H => Src H a L ns) := by
  refine ⟨fun H H' k s => ?_, fun H b s h => ?_, fun b h => .inl h⟩
  · obtain ⟨p, h, m, q⟩ := s
    exact ⟨p, h, m, q.ok, k _ _ (.inl rfl) q.at_, k _ _ (.inr rfl) q.ls, q.ne⟩
  · obtain ⟨p, hh, m, q⟩ := s
    rcases h with rfl | rfl
    · exact ⟨_, q.at_⟩
    · exact ⟨_, q.ls⟩
theorem fs_kp (s : Src H a L ns) (k : Kp a L ns H H') : Fs a L ns H H' := by
  refine ⟨k.keep, fun b o no h => k.keep b o (fun z => ?_) h, fun _ => k.src⟩
  obtain ⟨p, hh, m, q⟩ := s
  rw [z, q.at_] at h
  cases h
  cases no
theorem fs_same (e : Same H H') : Fs a L ns H H' := Sq.Fr.of gdS e
/-- what a comprehension gave: ints -/
theorem got_ints {D : Addr} {n : Nat} {P : Int → Prop} (h : Got D n (fun _ _ y => ∃ z, y = .int z ∧ P z) H) : ∃ zs : List Int, H D = some (.lst (zs.map V.int)) ∧ zs.length = n ∧ ∀ z ∈ zs, P z := by
  obtain ⟨ys, h1, h2, h3⟩ := h
  have : ∀ ys : List V, (∀ y ∈ ys, ∃ z, y = V.int z ∧ P z) → ∃ zs : List Int, ys = zs.map V.int ∧ zs.length = ys.length ∧ ∀ z ∈ zs, P z := by
    intro ys
    induction ys with
    | nil => exact fun _ => ⟨[], rfl, rfl, by simp⟩
    | cons y r ih =>
      intro h
      obtain ⟨z, rfl, pz⟩ := h y (List.mem_cons_self ..)
      obtain ⟨zs, e, l, p⟩ := ih fun x hx => h x (List.mem_cons_of_mem _ hx)
      refine ⟨z :: zs, by rw [e]; rfl, by rw [List.length_cons, List.length_cons, l], fun x hx => ?_⟩
      rcases List.mem_cons.mp hx with rfl | hx
      · exact pz
      · exact p x hx
  obtain ⟨zs, e, l, p⟩ := this ys fun y hy => by
    obtain ⟨i, hi⟩ := List.mem_iff_getElem?.mp hy
    exact h3 i y hi
  exact ⟨zs, by rw [h1, e], by omega, p⟩
/-- what a comprehension gave: of each one a thing -/
theorem got_pick {α : Type} {D : Addr} {n : Nat} {S : Hp → V → α → Prop} {P : α → Prop} (h : Got D n (fun H _ y => ∃ z, S H y z ∧ P z) H) : ∃ zs : List α, zs.length = n ∧ (∀ z ∈ zs, P z) ∧ Got D zs.length (fun H i y => ∀ z, zs[i]? = some z → S H y z) H := by
  obtain ⟨ys, h1, h2, h3⟩ := h
  have : ∀ ys : List V, (∀ y ∈ ys, ∃ z, S H y z ∧ P z) → ∃ zs : List α, zs.length = ys.length ∧ (∀ z ∈ zs, P z) ∧ ∀ (i : Nat) (y : V) (z : α), ys[i]? = some y → zs[i]? = some z → S H y z := by
    intro ys
    induction ys with
    | nil => exact fun _ => ⟨[], rfl, by simp, by simp⟩
    | cons y r ih =>
      intro h
      obtain ⟨z, sz, pz⟩ := h y (List.mem_cons_self ..)
      obtain ⟨zs, l, p, q⟩ := ih fun x hx => h x (List.mem_cons_of_mem _ hx)
      refine ⟨z :: zs, by rw [List.length_cons, List.length_cons, l], fun x hx => ?_, fun i x t hx ht => ?_⟩
      · rcases List.mem_cons.mp hx with rfl | hx
        · exact pz
        · exact p x hx
      · cases i with
        | zero =>
          cases hx
          cases ht
          exact sz
        | succ j => exact q j x t hx ht
  obtain ⟨zs, l, p, q⟩ := this ys fun y hy => by
    obtain ⟨i, hi⟩ := List.mem_iff_getElem?.mp hy
    exact h3 i y hi
  exact ⟨zs, by omega, p, ys, h1, by omega, fun i y hy z hz => q i y z hy hz⟩
end
section
variable {K : PySem.W.Frag} {a L : Addr} {ns : List Int} {H H' : Hp}
theorem fs_upd (s : Src H a L ns) (e : Fs a L ns H H') {D : Addr} {o : HO} (h : H D = none) : Fs a L ns H (upd H' D o) := by
  have nA := gdS.nA s h
  refine ⟨fun b u nm x => ?_, fun b u no x => ?_, fun g => gdS.out nA (e.on g)⟩
  · rw [upd_ne (ne_of_none x h)]
    exact e.keep b u nm x
  · rw [upd_ne (ne_of_none x h)]
    exact e.kt b u no x
/-- a list at p of things zs -/
def LstR {α : Type} (K : PySem.W.Frag) (R : Hp → V → α → Prop) (H : Hp) (p : Addr) (zs : List α) : Prop := ∃ xs, H p = some (.lst xs) ∧ xs.length = zs.length ∧ ∀ (i : Nat) (x : V) (z : α), xs[i]? = some x → zs[i]? = some z → R H x z
theorem lst_nil {α : Type} {R : Hp → V → α → Prop} {p : Addr} : LstR K R (upd H p (.lst [])) p [] := ⟨[], upd_same, rfl, by simp⟩
theorem lst_snoc {α : Type} {R : Hp → V → α → Prop} (m : ∀ H H' v z, KT H H' → R H v z → R H' v z) {p : Addr} {zs : List α} {xs : List V} {y : V} {z : α} (h : H p = some (.lst xs)) (l : xs.length = zs.length) (f : ∀ (i : Nat) (x : V) (z : α), xs[i]? = some x → zs[i]? = some z → R H x z) (hy : R H y z) : LstR K R (upd H p (.lst (xs ++ [y]))) p (zs ++ [z]) := by
  have k : KT H (upd H p (.lst (xs ++ [y]))) := KT.lst h
  refine ⟨xs ++ [y], upd_same, by simp [l], fun i x t hx ht => ?_⟩
  rcases Nat.lt_or_ge i xs.length with lt | ge
  · rw [List.getElem?_append_left lt] at hx
    rw [List.getElem?_append_left (by omega)] at ht
    exact m _ _ _ _ k (f i x t hx ht)
  · rw [List.getElem?_append_right ge] at hx
    rw [List.getElem?_append_right (by omega)] at ht
    rw [← l] at ht
    cases e : i - xs.length with
    | zero =>
      rw [e] at hx ht
      cases hx
      cases ht
      exact m _ _ _ _ k hy
    | succ j =>
      rw [e] at hx
      cases hx
theorem LstR.fs {α : Type} {R : Hp → V → α → Prop} (m : ∀ H H' v z, KT H H' → R H v z → R H' v z) {p : Addr} {zs : List α} (e : Fs a L ns H H') (np : p ≠ a) (h : LstR K R H p zs) : LstR K R H' p zs := by
  obtain ⟨xs, h1, h2, h3⟩ := h
  exact ⟨xs, e.keep _ _ np h1, h2, fun i x z hx hz => m _ _ _ _ e.kt (h3 i x z hx hz)⟩
theorem LstR.same {α : Type} {R : Hp → V → α → Prop} (m : ∀ H H' v z, KT H H' → R H v z → R H' v z) {p : Addr} {zs : List α} (e : Same H H') (h : LstR K R H p zs) : LstR K R H' p zs := by
  obtain ⟨xs, h1, h2, h3⟩ := h
  exact ⟨xs, e _ _ h1, h2, fun i x z hx hz => m _ _ _ _ (KT.of e) (h3 i x z hx hz)⟩
theorem kI : ∀ (H H' : Hp) (v : V) (z : List Int), KT H H' → IntsT K H v z → IntsT K H' v z := fun _ _ _ _ k h => h.kt k
theorem kE : ∀ (H H' : Hp) (v : V) (z : Int × List Int), KT H H' → EndT K H v z → EndT K H' v z := fun _ _ _ _ k h => h.kt k
theorem kR : ∀ (H H' : Hp) (v : V) (z : List Int × List Int), KT H H' → RowT K H v z → RowT K H' v z := fun _ _ _ _ k h => h.kt k
end
def sp__law_take : Sp := fun vs H Q _ => ∃ (a L : Addr) (ns : List Int) (many : Int), vs = [.ref a, .int many] ∧ Src H a L ns ∧ 0 < many ∧ many < 2 ^ 200 ∧ ∀ (r : Int) (H' : Hp), InR many r → Fs a L ns H H' → Q (.int r) H'
section
variable {P : Program} {w : World} {K : PySem.W.Frag} {mg : Str → Option Value} {base : Heap}
theorem ok__law_take (D__law_take : Dn K mg "_law_take" s__law_take ["_law_source_here", "_law_many"]) (T : TxtS mg) : FnOk P w K mg base CX0 1 D__law_take.f D__law_take.fd ["_law_source_here", "_law_many"] sp__law_take :=
  (ok_take D__law_take.F T).imp fun vs H Q E h => by
    obtain ⟨a, L, ns, many, e, s, h0, h1, k⟩ := h
    exact ⟨a, L, ns, many, e, s, h0, h1, fun r H' r0 r1 kp => k r H' ⟨r0, r1⟩ (fs_kp s kp)⟩
end
theorem m200 {n : Int} (h : n < 1000) : n < 2 ^ 200 := Int.lt_trans h (by decide)
theorem m62 {n : Int} (h : n < 1000) : n < 2 ^ 62 := Int.lt_trans h (by decide)
theorem mlo {n : Int} (h : 0 ≤ n) : -(2 ^ 62) ≤ n := Int.le_trans (by decide) h
theorem tnz {n : Int} (h : n < 1000) : n.toNat < sizeLine := k1000 (by omega)
theorem ints_inj {K : PySem.W.Frag} {X : Cx} : True := trivial
theorem at_int {ns : List Int} {i n : Int} (h : InR n i) (hl : (ns.length : Int) = n) : ∃ z, ns[i.toNat]? = some z ∧ atI (ns.map V.int) i = some (.int z) := by
  obtain ⟨h0, h1⟩ := h
  obtain ⟨j, rfl⟩ : ∃ j : Nat, i = (j : Int) := ⟨i.toNat, by omega⟩
  have hj : j < ns.length := by omega
  exact ⟨ns[j], by simp [hj], atI_nat (by simp [List.getElem?_map, hj])⟩
theorem at_seq {α : Type} {K : PySem.W.Frag} {R : Hp → V → α → Prop} {H : Hp} {v : V} {zs : List α} {i n : Int} (s : SeqT K R H v zs) (h : InR n i) (hl : (zs.length : Int) = n) : ∃ a xs x z, v = .ref a ∧ SqT K H a xs ∧ atI xs i = some x ∧ zs[i.toNat]? = some z ∧ R H x z := by
  obtain ⟨h0, h1⟩ := h
  obtain ⟨j, rfl⟩ : ∃ j : Nat, i = (j : Int) := ⟨i.toNat, by omega⟩
  obtain ⟨a, xs, rfl, hs, l, f⟩ := s
  have hj : j < xs.length := by omega
  have hj2 : j < zs.length := by omega
  exact ⟨a, xs, xs[j], zs[j], rfl, hs, atI_nat (by simp [hj]), by simp [hj2], f j _ _ (by simp [hj]) (by simp [hj2])⟩
theorem snoc_int {ds : List Int} {z : Int} : ds.map V.int ++ [V.int z] = (ds ++ [z]).map V.int := by simp
def RD (n m : Int) (z : List Int) : Prop := (z.length : Int) = m ∧ ∀ i ∈ z, InR n i
/-- a side: not empty, of signs that stand -/
def SdOk (l u : Int) (m : Nat) (ss : List Int) : Prop := 0 < ss.length ∧ ss.length ≤ m ∧ ∀ s ∈ ss, Stands l u s ∧ -1000 < s
def sp__law_side (K : PySem.W.Frag) : Sp := fun vs H Q _ => ∃ (a L : Addr) (ns : List Int) (l u : Int) (m : Nat), vs = [.ref a, .int l, .int u, .int m] ∧ Src H a L ns ∧ 0 < l ∧ l < 500 ∧ 0 < u ∧ u < 500 ∧ 0 < m ∧ m < 500 ∧
  ∀ (v : V) (H' : Hp) (ss : List Int), Fs a L ns H H' → IntsT K H' v ss → SdOk l u m ss → Q v H'
def sp__law_lots (K : PySem.W.Frag) : Sp := fun vs H Q _ => ∃ (a L : Addr) (ns : List Int) (mv : V) (n m k : Int) (zs : List (List Int)), vs = [.ref a, mv, .int k] ∧ Src H a L ns ∧ SeqT K (IntsT K) H mv zs ∧ (zs.length : Int) = n ∧ 0 < n ∧ n < 1000 ∧ 0 < m ∧ m < 1000 ∧ (∀ z ∈ zs, RD n m z) ∧ 0 ≤ k ∧ k < 1000 ∧
  ∀ (p : Addr) (H' : Hp) (ds : List (List Int)), Fs a L ns H H' → H p = none → LstR K (IntsT K) H' p ds → (ds.length : Int) = k → (∀ d ∈ ds, RD n n d) → Q (.ref p) H'
def EnOk (n : Int) (e : Int × List Int) : Prop := InR n e.1 ∧ (e.2.length : Int) ≤ n ∧ (∀ i ∈ e.2, InR n i) ∧ Asc e.2
def sp__law_end_states (K : PySem.W.Frag) : Sp := fun vs H Q _ => ∃ (a L : Addr) (ns : List Int) (n : Int), vs = [.ref a, .int n] ∧ Src H a L ns ∧ 0 < n ∧ n < 1000 ∧ ∀ (v : V) (H' : Hp) (e : Int × List Int), Fs a L ns H H' → EndT K H' v e → EnOk n e → Q v H'
def sp__law_moves (K : PySem.W.Frag) : Sp := fun vs H Q _ => ∃ (a L : Addr) (ns : List Int) (n m : Int), vs = [.ref a, .int n, .int m] ∧ Src H a L ns ∧ 0 < n ∧ n < 1000 ∧ 0 ≤ m ∧ m < 1000 ∧
  ∀ (v : V) (H' : Hp) (zs : List (List Int)), Fs a L ns H H' → SeqT K (IntsT K) H' v zs → (zs.length : Int) = n → (∀ z ∈ zs, RD n m z) → Q v H'
def sp__law_deed (K : PySem.W.Frag) : Sp := fun vs H Q _ => ∃ (mv pl : V) (n m : Int) (zs : List (List Int)) (ps : List Int), vs = [mv, pl] ∧ SeqT K (IntsT K) H mv zs ∧ (zs.length : Int) = n ∧ n < 1000 ∧ (∀ z ∈ zs, RD n m z) ∧ IntsS K H pl ps ∧ (∀ p ∈ ps, InR m p) ∧
  ∀ (v : V) (H' : Hp) (ds : List Int), Same H H' → IntsT K H' v ds → RD n n ds → Q v H'
theorem sc__law_moves : FnScope ["_law_source_here", "_law_states", "_law_letters", "_law_s", "_law_j"] ["_law_source_here", "_law_states", "_law_letters"] (defScope s__law_moves) := ⟨rfl, rfl, rfl, by decide +kernel, rfl, by decide +kernel, by decide +kernel⟩
section
variable {P : Program} {w : World} {K : PySem.W.Frag} {mg : Str → Option Value} {base : Heap}
theorem ok__law_moves (D__law_moves : Dn K mg "_law_moves" s__law_moves ["_law_source_here", "_law_states", "_law_letters"]) (D__law_take : Dn K mg "_law_take" s__law_take ["_law_source_here", "_law_many"]) (G__law_take : FnOk P w K mg base CX0 1 D__law_take.f D__law_take.fd ["_law_source_here", "_law_many"] (sp__law_take)) (T : TB mg) : FnOk P w K mg base CX0 2 D__law_moves.f D__law_moves.fd ["_law_source_here", "_law_states", "_law_letters"] (sp__law_moves K) := by
  refine ok0 D__law_moves.F sc__law_moves (fun vs H Q E h => ?_) (fun cdv A outer s H vs Q E hr h => ?_)
  · obtain ⟨a, L, ns, n, m, rfl, S, n0, n1, m0, m1, k⟩ := h
    rfl
  · obtain ⟨a, L, ns, n, m, rfl, S, n0, n1, m0, m1, k⟩ := h
    refine ⟨_, (pss_one (ps_ret (pe_callTy call_tupR (by rfl) T.tuple_ (by decide +kernel) (pa_cons (pe_lc (own := [(("_law_s" : Str), 3)]) rfl sc__law_moves.nd (pi_range1 (by rfl) T.range (pa_cons (pv 1) pa_nil)) (blkOk_by (own := [(("_law_s" : Str), 3)]) (N := ["_law_source_here", "_law_states", "_law_letters", "_law_s", "_law_j"]) (sc := defScope s__law_moves) (by decide +kernel)) (fun _ _ _ _ _ => (pg_name (i := 3) sc__law_moves.nd rfl (Or.inl rfl))) (fun _ _ _ _ _ => pts_nil) (fun _ _ _ _ _ => (pe_callTy (call_tupRK (K := K) rfl) (by rfl) T.tuple_ (by decide +kernel) (pa_cons (pe_lc (own := [(("_law_j" : Str), 4)]) rfl sc__law_moves.nd (pi_range1 (by rfl) T.range (pa_cons (pv 2) pa_nil)) (blkOk_by (own := [(("_law_j" : Str), 4)]) (by kernel_rfl)) (fun _ _ _ _ _ => (pg_name (i := 4) sc__law_moves.nd rfl (Or.inl rfl))) (fun _ _ _ _ _ => pts_nil) (fun _ _ _ _ _ => (pe_call G__law_take (hr.mono (by decide)) (by rfl) D__law_take.m D__law_take.F.kp D__law_take.b .nil pass0 (pa_cons (pv 0) (pa_cons (pv 1) pa_nil))))) pa_nil)))) pa_nil)))), ?_⟩
    refine ⟨_, rfl, n, rfl, mlo (by omega), m62 n1, fun D hD => ?_⟩
    refine lc_fr (R := fun H _ y => ∃ z, IntsT K H y z ∧ RD n m z) walk_at_range (tnz n1) (fun _ _ _ _ k ⟨z, h, p⟩ => ⟨z, h.kt k, p⟩) gdS hD S (fun _ _ => trivial) (fun i x H' Q' hi hx e q => ?_) (fun H' e got => ?_)
    · refine ⟨rfl, _, rfl, m, rfl, mlo m0, m62 m1, fun D2 hD2 => ?_⟩
      refine lc_fr (R := fun _ _ y => ∃ z, y = .int z ∧ InR n z) walk_at_range (tnz m1) (fun _ _ _ _ _ h => h) gdS hD2 (e.on S) (fun _ _ => trivial) (fun j x2 H2 Q2 hj hx2 e2 q2 => ?_) (fun H2 e2 got2 => ?_)
      · exact ⟨rfl, _, rfl, _, rfl, a, L, ns, n, rfl, e2.on (e.on S), n0, m200 n1, fun r H3 hr e3 => q2 _ _ e3 ⟨r, rfl, hr⟩⟩
      · obtain ⟨zs, h1, h2, h3⟩ := got_ints got2
        refine rd_tup (.inl (SqL.of h1)) fun b H3 s3 t3 => q _ _ (e2.trans (fs_same s3)) ⟨zs, ⟨b, rfl, t3⟩, by omega, h3⟩
    · obtain ⟨zs, h1, h2, got⟩ := got_pick (S := fun H y z => IntsT K H y z) (P := RD n m) got
      exact rd_got (fun _ _ _ _ k h => h.kt k) got fun v H3 s3 t3 => k v H3 zs (e.trans (fs_same s3)) t3 (by omega) h2
end
theorem sc__law_deed : FnScope ["_law_moves_here", "_law_places", "_law_told", "_law_state", "_law_at", "_law_place"] ["_law_moves_here", "_law_places"] (defScope s__law_deed) := ⟨rfl, rfl, rfl, by decide +kernel, rfl, by decide +kernel, by decide +kernel⟩
section
variable {P : Program} {w : World} {K : PySem.W.Frag} {mg : Str → Option Value} {base : Heap}
theorem ok__law_deed (D__law_deed : Dn K mg "_law_deed" s__law_deed ["_law_moves_here", "_law_places"]) (T : TB mg) : FnOk P w K mg base CX0 1 D__law_deed.f D__law_deed.fd ["_law_moves_here", "_law_places"] (sp__law_deed K) := by
  refine ok0 D__law_deed.F sc__law_deed (fun vs H Q E h => ?_) (fun cdv A outer s H vs Q E hr h => ?_)
  · obtain ⟨mv, pl, n, m, zs, ps, rfl, hm, hl, hn, hz, hp, hpr, k⟩ := h
    rfl
  · obtain ⟨mv, pl, n, m, zs, ps, rfl, hm, hl, hn, hz, hp, hpr, k⟩ := h
    refine ⟨_, (pss_cons (ps_set (i := 2) sc__law_deed.nd rfl (by first | exact Or.inl rfl | exact Or.inr rfl) (pe_lst pa_nil))
  (pss_cons (ps_for PassesOwn.never rfl (pi_range1 (by rfl) T.range (pa_cons (pe_callB call_len_seq (by rfl) T.len PySem.boot_len (pa_cons (pv 0) pa_nil)) pa_nil)) (pg_name (i := 3) sc__law_deed.nd rfl (by first | exact Or.inl rfl | exact Or.inr rfl)) (pss_cons (ps_set (i := 4) sc__law_deed.nd rfl (by first | exact Or.inl rfl | exact Or.inr rfl) (pv 3))
  (pss_cons (ps_for PassesOwn.never rfl (pi_seq (pv 1)) (pg_name (i := 5) sc__law_deed.nd rfl (by first | exact Or.inl rfl | exact Or.inr rfl)) (pss_one (ps_set (i := 4) sc__law_deed.nd rfl (by first | exact Or.inl rfl | exact Or.inr rfl) (pe_ix ix_tup (pe_ix ix_tup (pv 0) (pv 4) (fun _ _ => rfl)) (pv 5) (fun _ _ => rfl)))))
  (pss_one (ps_expr (pe_bm PySem.F.plainAttrs_list PySem.F.slot_list_append PySem.F.type_list_append mt_append (pv 2) (pa_cons (pv 4) pa_nil)))))))
  (pss_one (ps_ret (pe_callTy call_tupR (by rfl) T.tuple_ (by decide +kernel) (pa_cons (pv 2) pa_nil)))))), ?_⟩
    obtain ⟨aM, xs, eM, hs, lxs, fxs⟩ := hm
    obtain ⟨aP, eP, hsP⟩ := hp
    have hm : SeqT K (IntsT K) H mv zs := ⟨aM, xs, eM, hs, lxs, fxs⟩
    refine ⟨(by show 0 ≤ sizeLine; decide), fun D hD => ?_⟩
    have sD : Same H (upd H D (.lst [])) := same_new hD
    refine ⟨_, rfl, aM, xs, eM ▸ rfl, .inr (SqT.same sD hs), _, rfl, mlo (by omega), m62 (by omega), ?_⟩
    refine for_it walk_at_range (fun i σ H' => ∃ o3 o4 o5 : Option V, σ = [some mv, some pl, some (.ref D), o3, o4, o5] ∧ Same H H' ∧ ∃ ds : List Int, H' D = some (.lst (ds.map V.int)) ∧ ds.length = i ∧ ∀ z ∈ ds, InR n z) ⟨_, _, _, rfl, sD, [], upd_same, rfl, by simp⟩ (fun _ _ _ _ _ => trivial) (fun i x σ H' H2 hi p y => ?_) (fun σ H' p => ?_)
    · obtain ⟨rfl, rfl⟩ := y
      obtain ⟨o3, o4, o5, rfl, s1, ds, d1, d2, d3⟩ := p
      refine ⟨_, rfl, ?_⟩
      have hi2 : InR n (0 + (i : Int)) := ⟨by omega, by omega⟩
      refine seq_rd s1 (fun _ q => ⟨pl, rfl, eP ▸ q⟩) hsP fun J Gw w gw => ?_
      refine for_it w (fun j σ H'' => ∃ (o5 : Option V) (t : Int), σ = [some mv, some pl, some (.ref D), some (.int (0 + (i : Int))), some (.int t), o5] ∧ H'' = H2 ∧ InR n t) ⟨_, _, rfl, rfl, hi2⟩ (fun _ σ H'' _ p => gw H'' fun o h => by
        obtain ⟨_, _, _, rfl, _⟩ := p
        exact s1 _ o h) (fun j x σ H3 H4 hj p y => ?_) (fun σ H3 p => ?_)
      · obtain ⟨rfl, hx⟩ := y
        obtain ⟨o5, t, rfl, rfl, ht⟩ := p
        obtain ⟨pp, hpp, rfl⟩ := map_at hx
        obtain ⟨a1, ys, x1, z, e1, q1, q2, q3, a2, rfl, q4⟩ := at_seq (hm.kt (fun _ _ h => h.kt (KT.of s1)) (KT.of s1)) ht hl
        obtain ⟨r1, r2⟩ := hz z (List.mem_of_getElem? q3)
        obtain ⟨u, u1, u2⟩ := at_int (hpr pp (List.mem_of_getElem? hpp)) r1
        refine ⟨_, rfl, _, rfl, a1, ys, t, _, e1, rfl, q1, q2, _, rfl, a2, _, pp, _, rfl, rfl, q4, u2, ?_⟩
        exact ⟨_, u, rfl, rfl, r2 u (List.mem_of_getElem? u1)⟩
      · obtain ⟨o5, t, rfl, rfl, ht⟩ := p
        refine ⟨_, rfl, .inl ⟨rfl, _, SqL.of d1⟩, _, rfl, D, _, _, rfl, rfl, d1, by rw [List.length_map]; exact k1000 (by omega), ?_⟩
        rw [snoc_int]
        refine ⟨_, _, _, rfl, same_upd s1 hD, ds ++ [t], upd_same, by rw [List.length_append, d2]; rfl, fun z hz => ?_⟩
        rcases List.mem_append.mp hz with h | h
        · exact d3 z h
        · rw [List.mem_singleton.mp h]
          exact ht
    · obtain ⟨o3, o4, o5, rfl, s1, ds, d1, d2, d3⟩ := p
      refine ⟨_, rfl, rd_tup (.inl (SqL.of d1)) fun b H3 s3 t3 => k _ _ ds (s1.trans s3) ⟨b, rfl, t3⟩ ⟨by omega, d3⟩⟩
end
theorem sc__law_side : FnScope ["_law_source_here", "_law_letters", "_law_unknowns", "_law_most", "_law_told", "_law_k"] ["_law_source_here", "_law_letters", "_law_unknowns", "_law_most"] (defScope s__law_side) := ⟨rfl, rfl, rfl, by decide +kernel, rfl, by decide +kernel, by decide +kernel⟩
section
variable {P : Program} {w : World} {K : PySem.W.Frag} {mg : Str → Option Value} {base : Heap}
theorem ok__law_side (D__law_side : Dn K mg "_law_side" s__law_side ["_law_source_here", "_law_letters", "_law_unknowns", "_law_most"]) (D__law_take : Dn K mg "_law_take" s__law_take ["_law_source_here", "_law_many"]) (G__law_take : FnOk P w K mg base CX0 1 D__law_take.f D__law_take.fd ["_law_source_here", "_law_many"] (sp__law_take)) (T : TB mg) : FnOk P w K mg base CX0 2 D__law_side.f D__law_side.fd ["_law_source_here", "_law_letters", "_law_unknowns", "_law_most"] (sp__law_side K) := by
  refine ok0 D__law_side.F sc__law_side (fun vs H Q E h => ?_) (fun cdv A outer s H vs Q E hr h => ?_)
  · obtain ⟨a, L, ns, l, u, m, rfl, S, l0, l1, u0, u1, m0, m1, k⟩ := h
    rfl
  · obtain ⟨a, L, ns, l, u, m, rfl, S, l0, l1, u0, u1, m0, m1, k⟩ := h
    refine ⟨_, (pss_cons (ps_set (i := 4) sc__law_side.nd rfl (by first | exact Or.inl rfl | exact Or.inr rfl) (pe_lst pa_nil))
  (pss_cons (ps_for PassesOwn.never rfl (pi_range1 (by rfl) T.range (pa_cons (pe_op op_add pe_int (pe_call G__law_take (hr.mono (by decide)) (by rfl) D__law_take.m D__law_take.F.kp D__law_take.b .nil pass0 (pa_cons (pv 0) (pa_cons (pv 3) pa_nil)))) pa_nil)) (pg_name (i := 5) sc__law_side.nd rfl (by first | exact Or.inl rfl | exact Or.inr rfl)) (pss_one (ps_if (pt_cmpR op_eq (pe_call G__law_take (hr.mono (by decide)) (by rfl) D__law_take.m D__law_take.F.kp D__law_take.b .nil pass0 (pa_cons (pv 0) (pa_cons pe_int pa_nil))) pe_int (nomark _)) (pss_one (ps_expr (pe_bm PySem.F.plainAttrs_list PySem.F.slot_list_append PySem.F.type_list_append mt_append (pv 4) (pa_cons (pe_op op_sub (pe_un un_neg pe_int) (pe_call G__law_take (hr.mono (by decide)) (by rfl) D__law_take.m D__law_take.F.kp D__law_take.b .nil pass0 (pa_cons (pv 0) (pa_cons (pv 2) pa_nil)))) pa_nil)))) (pss_one (ps_expr (pe_bm PySem.F.plainAttrs_list PySem.F.slot_list_append PySem.F.type_list_append mt_append (pv 4) (pa_cons (pe_call G__law_take (hr.mono (by decide)) (by rfl) D__law_take.m D__law_take.F.kp D__law_take.b .nil pass0 (pa_cons (pv 0) (pa_cons (pv 1) pa_nil))) pa_nil)))))))
  (pss_one (ps_ret (pe_callTy call_tupR (by rfl) T.tuple_ (by decide +kernel) (pa_cons (pv 4) pa_nil)))))), ?_⟩
    refine ⟨(by show 0 ≤ sizeLine; decide), fun D hD => ?_⟩
    have nD : D ≠ a := Ne.symm (S.ne hD)
    have eD : Fs a L ns H (upd H D (.lst [])) := fs_same (same_new hD)
    refine ⟨_, rfl, _, rfl, a, L, ns, _, rfl, eD.on S, by omega, m200 (by omega), fun r H1 hr e1 => ?_⟩
    obtain ⟨r0, r1⟩ := hr
    refine ⟨_, _, rfl, rfl, _, rfl, mlo (by omega), m62 (by omega), ?_⟩
    refine for_it walk_at_range (fun i σ H' => ∃ o5 : Option V, σ = [some (.ref a), some (.int l), some (.int u), some (.int m), some (.ref D), o5] ∧ Fs a L ns H H' ∧ ∃ ds : List Int, H' D = some (.lst (ds.map V.int)) ∧ ds.length = i ∧ ∀ s ∈ ds, Stands l u s ∧ -1000 < s) ⟨_, rfl, eD.trans e1, [], e1.keep _ _ nD upd_same, rfl, by simp⟩ (fun _ _ _ _ _ => trivial) (fun i x σ H' H2 hi p y => ?_) (fun σ H' p => ?_)
    · obtain ⟨rfl, rfl⟩ := y
      obtain ⟨o5, rfl, e2, ds, d1, d2, d3⟩ := p
      have more : ∀ (H3 : Hp) (s : Int), Fs a L ns H2 H3 → Stands l u s ∧ -1000 < s → Fs a L ns H (upd H3 D (.lst ((ds ++ [s]).map V.int))) ∧ ∃ ds' : List Int, (upd H3 D (.lst ((ds ++ [s]).map V.int))) D = some (.lst (ds'.map V.int)) ∧ ds'.length = i + 1 ∧ ∀ s ∈ ds', Stands l u s ∧ -1000 < s := fun H3 s e3 hs => by
        refine ⟨fs_upd S (e2.trans e3) hD, ds ++ [s], upd_same, by simp [d2], fun z hz => ?_⟩
        rcases List.mem_append.mp hz with h | h
        · exact d3 z h
        · rw [List.mem_singleton.mp h]
          exact hs
      refine ⟨_, rfl, a, L, ns, 2, rfl, e2.on S, by decide, by decide, fun r2 H3 hr2 e3 => ⟨rfl, _, rfl, ite2 (fun _ => ?_) (fun _ => ?_)⟩⟩
      · refine ⟨_, rfl, .inl ⟨rfl, _, SqL.of (e3.keep _ _ nD d1)⟩, _, rfl, _, rfl, _, rfl, a, L, ns, u, rfl, e3.on (e2.on S), u0, m200 (by omega), fun r3 H4 hr3 e4 => ?_⟩
        obtain ⟨q0, q1⟩ := hr3
        refine ⟨_, _, rfl, rfl, D, _, _, rfl, rfl, e4.keep _ _ nD (e3.keep _ _ nD d1), by rw [List.length_map]; exact k1000 (by omega), ?_⟩
        rw [snoc_int]
        obtain ⟨z1, z2⟩ := more H4 (-1 - r3) (e3.trans e4) ⟨⟨by omega, by omega⟩, by omega⟩
        exact ⟨_, rfl, z1, z2⟩
      · refine ⟨_, rfl, .inl ⟨rfl, _, SqL.of (e3.keep _ _ nD d1)⟩, _, rfl, _, rfl, a, L, ns, l, rfl, e3.on (e2.on S), l0, m200 (by omega), fun r3 H4 hr3 e4 => ?_⟩
        obtain ⟨q0, q1⟩ := hr3
        refine ⟨D, _, _, rfl, rfl, e4.keep _ _ nD (e3.keep _ _ nD d1), by rw [List.length_map]; exact k1000 (by omega), ?_⟩
        rw [snoc_int]
        obtain ⟨z1, z2⟩ := more H4 r3 (e3.trans e4) ⟨⟨by omega, by omega⟩, by omega⟩
        exact ⟨_, rfl, z1, z2⟩
    · obtain ⟨o5, rfl, e2, ds, d1, d2, d3⟩ := p
      exact ⟨_, rfl, rd_tup (.inl (SqL.of d1)) fun b H3 s3 t3 => k _ _ ds (e2.trans (fs_same s3)) ⟨b, rfl, t3⟩ ⟨by omega, by omega, d3⟩⟩
end
theorem sc__law_lots : FnScope ["_law_source_here", "_law_moves_here", "_law_many", "_law_told", "_law_k", "_law_places", "_law_j"] ["_law_source_here", "_law_moves_here", "_law_many"] (defScope s__law_lots) := ⟨rfl, rfl, rfl, by decide +kernel, rfl, by decide +kernel, by decide +kernel⟩
section
variable {P : Program} {w : World} {K : PySem.W.Frag} {mg : Str → Option Value} {base : Heap}
theorem ok__law_lots (D__law_lots : Dn K mg "_law_lots" s__law_lots ["_law_source_here", "_law_moves_here", "_law_many"]) (D__law_deed : Dn K mg "_law_deed" s__law_deed ["_law_moves_here", "_law_places"]) (G__law_deed : FnOk P w K mg base CX0 1 D__law_deed.f D__law_deed.fd ["_law_moves_here", "_law_places"] (sp__law_deed K)) (D__law_take : Dn K mg "_law_take" s__law_take ["_law_source_here", "_law_many"]) (G__law_take : FnOk P w K mg base CX0 1 D__law_take.f D__law_take.fd ["_law_source_here", "_law_many"] (sp__law_take)) (T : TB mg) : FnOk P w K mg base CX0 2 D__law_lots.f D__law_lots.fd ["_law_source_here", "_law_moves_here", "_law_many"] (sp__law_lots K) := by
  refine ok0 D__law_lots.F sc__law_lots (fun vs H Q E h => ?_) (fun cdv A outer s H vs Q E hr h => ?_)
  · obtain ⟨a, L, ns, mv, n, m, c, zs, rfl, S, hm, hl, n0, n1, m0, m1, hz, c0, c1, k⟩ := h
    rfl
  · obtain ⟨a, L, ns, mv, n, m, c, zs, rfl, S, hm, hl, n0, n1, m0, m1, hz, c0, c1, k⟩ := h
    refine ⟨_, (pss_cons (ps_set (i := 3) sc__law_lots.nd rfl (by first | exact Or.inl rfl | exact Or.inr rfl) (pe_lst pa_nil))
  (pss_cons (ps_for PassesOwn.never rfl (pi_range1 (by rfl) T.range (pa_cons (pv 2) pa_nil)) (pg_name (i := 4) sc__law_lots.nd rfl (by first | exact Or.inl rfl | exact Or.inr rfl)) (pss_cons (ps_setLc (i := 5) (own := [(("_law_j" : Str), 6)]) rfl sc__law_lots.nd rfl rfl (sw_true rfl rfl rfl (by decide +kernel)) (pi_range1 (by rfl) T.range (pa_cons (pe_op op_add pe_int (pe_call G__law_take (hr.mono (by decide)) (by rfl) D__law_take.m D__law_take.F.kp D__law_take.b .nil pass0 (pa_cons (pv 0) (pa_cons pe_int pa_nil)))) pa_nil)) (blkOk_by (own := [(("_law_j" : Str), 6)]) (N := ["_law_source_here", "_law_moves_here", "_law_many", "_law_told", "_law_k", "_law_places", "_law_j"]) (sc := defScope s__law_lots) (by decide +kernel)) (fun _ _ _ _ _ => (pg_name (i := 6) sc__law_lots.nd rfl (Or.inl rfl))) (fun _ _ _ _ _ => pts_nil) (fun _ _ _ _ _ => (pe_call G__law_take (hr.mono (by decide)) (by rfl) D__law_take.m D__law_take.F.kp D__law_take.b .nil pass0 (pa_cons (pv 0) (pa_cons (pe_callB (call_len_seqK (K := K) rfl) (by rfl) T.len PySem.boot_len (pa_cons (pe_ix (ix_tupK (K := K) rfl) (pv 1) pe_int (fun _ _ => rfl)) pa_nil)) pa_nil)))))
  (pss_one (ps_expr (pe_bm PySem.F.plainAttrs_list PySem.F.slot_list_append PySem.F.type_list_append mt_append (pv 3) (pa_cons (pe_call G__law_deed (hr.mono (by decide)) (by rfl) D__law_deed.m D__law_deed.F.kp D__law_deed.b .nil pass0 (pa_cons (pv 1) (pa_cons (pv 5) pa_nil))) pa_nil))))))
  (pss_one (ps_ret (pv 3))))), ?_⟩
    refine ⟨(by show 0 ≤ sizeLine; decide), fun D hD => ?_⟩
    have nD : D ≠ a := Ne.symm (S.ne hD)
    have eD : Fs a L ns H (upd H D (.lst [])) := fs_same (same_new hD)
    refine ⟨_, rfl, c, rfl, mlo c0, m62 c1, ?_⟩
    refine for_it walk_at_range (fun i σ H' => ∃ o4 o5 o6 : Option V, σ = [some (.ref a), some mv, some (.int c), some (.ref D), o4, o5, o6] ∧ Fs a L ns H H' ∧ ∃ ds : List (List Int), LstR K (IntsT K) H' D ds ∧ ds.length = i ∧ ∀ d ∈ ds, RD n n d) ⟨_, _, _, rfl, eD, [], lst_nil, rfl, by simp⟩ (fun _ _ _ _ _ => trivial) (fun i x σ H' H2 hi p y => ?_) (fun σ H' p => ?_)
    · obtain ⟨rfl, rfl⟩ := y
      obtain ⟨o4, o5, o6, rfl, e2, ds, d1, d2, d3⟩ := p
      refine ⟨_, rfl, a, L, ns, 3, rfl, e2.on S, by decide, by decide, fun r2 H3 hr2 e3 => ?_⟩
      obtain ⟨r0, r1⟩ := hr2
      refine ⟨_, _, rfl, rfl, _, rfl, mlo (by omega), m62 (by omega), fun D2 hD2 => ?_⟩
      have e23 := e2.trans e3
      refine lc_fr (R := fun _ _ y => ∃ z, y = .int z ∧ InR m z) walk_at_range (tnz (by omega)) (fun _ _ _ _ _ h => h) gdS hD2 (e23.on S) (fun _ _ => trivial) (fun j x2 H4 Q2 hj hx2 e4 q2 => ?_) (fun H4 e4 got => ?_)
      · have ee := e23.trans e4
        obtain ⟨a1, ys, x1, z, e1, q1, q3, q4, a2, rfl, q5⟩ := at_seq (hm.kt (fun _ _ h => h.kt ee.kt) ee.kt) (i := 0) (n := n) ⟨by decide, n0⟩ hl
        obtain ⟨w1, w2⟩ := hz z (List.mem_of_getElem? q4)
        refine ⟨rfl, _, rfl, _, rfl, a1, ys, 0, _, e1, rfl, q1, q3, a2, _, rfl, .inr q5, a, L, ns, _, rfl, ee.on S, ?_, ?_, fun r3 H5 hr3 e5 => q2 _ _ e5 ⟨r3, rfl, ?_⟩⟩
        · rw [List.length_map]
          omega
        · rw [List.length_map]
          exact m200 (by omega)
        · rw [List.length_map] at hr3
          rw [w1] at hr3
          exact hr3
      · obtain ⟨ps, h1, h2, h3⟩ := got_ints got
        have ee := e23.trans e4
        obtain ⟨xs, g1, g2, g3⟩ := d1.fs kI (e3.trans e4) nD
        refine ⟨_, rfl, .inl ⟨rfl, _, SqL.of g1⟩, _, rfl, _, rfl, _, _, n, m, zs, ps, rfl, hm.kt (fun _ _ h => h.kt ee.kt) ee.kt, hl, n1, hz, ⟨_, rfl, .inl (SqL.of h1)⟩, h3, fun v H5 dd s5 t5 o5 => ?_⟩
        refine ⟨D, _, _, rfl, rfl, s5 _ _ g1, by rw [g2]; exact k1000 (by omega), ?_⟩
        refine ⟨_, _, _, rfl, fs_upd S (ee.trans (fs_same s5)) hD, ds ++ [dd], lst_snoc kI (s5 _ _ g1) g2 (fun i x z hx hz => (g3 i x z hx hz).kt (KT.of s5)) t5, by simp [d2], fun z hz => ?_⟩
        rcases List.mem_append.mp hz with h | h
        · exact d3 z h
        · rw [List.mem_singleton.mp h]
          exact o5
    · obtain ⟨o4, o5, o6, rfl, e2, ds, d1, d2, d3⟩ := p
      exact ⟨_, rfl, k D _ ds e2 hD d1 (by omega) d3⟩
end
end My
set_option maxHeartbeats 4000000
namespace My
open PySem PySem.Spec PyProof.Rows L2 Lcn Sq
def rgI (n : Int) : List Int := (List.range n.toNat).map fun i => ((0 : Int) + (i : Nat))
theorem rgI_v (n : Int) : rgV 0 n = (rgI n).map V.int := by
  unfold rgV rgI
  rw [List.map_map, Int.sub_zero]
  rfl
theorem rgI_len (n : Int) : (rgI n).length = n.toNat := by
  unfold rgI
  rw [List.length_map, List.length_range]
theorem rgI_in {n i : Int} (h : i ∈ rgI n) : InR n i := by
  unfold rgI at h
  obtain ⟨j, hj, rfl⟩ := List.mem_map.mp h
  have := List.mem_range.mp hj
  exact ⟨by omega, by omega⟩
theorem rgI_asc (n : Int) : Asc (rgI n) := fun j a b h1 h2 => by
  unfold rgI at h1 h2
  rw [List.getElem?_map] at h1 h2
  obtain ⟨x, hx, rfl⟩ := Option.map_eq_some_iff.mp h1
  obtain ⟨y, hy, rfl⟩ := Option.map_eq_some_iff.mp h2
  obtain ⟨p1, q1⟩ := List.getElem?_eq_some_iff.mp hx
  obtain ⟨p2, q2⟩ := List.getElem?_eq_some_iff.mp hy
  rw [List.getElem_range] at q1 q2
  omega
theorem rgOk {n : Int} (h0 : 0 ≤ n) (h1 : n < 1000) : RgOk 0 n := ⟨by decide, by decide, by omega, by omega, by omega⟩
theorem sc__law_end_states : FnScope ["_law_source_here", "_law_states", "_law_start", "_law_s"] ["_law_source_here", "_law_states"] (defScope s__law_end_states) := ⟨rfl, rfl, rfl, by decide +kernel, rfl, by decide +kernel, by decide +kernel⟩
section
variable {P : Program} {w : World} {K : PySem.W.Frag} {mg : Str → Option Value} {base : Heap}
theorem ok__law_end_states (D__law_end_states : Dn K mg "_law_end_states" s__law_end_states ["_law_source_here", "_law_states"]) (D__law_take : Dn K mg "_law_take" s__law_take ["_law_source_here", "_law_many"]) (G__law_take : FnOk P w K mg base CX0 1 D__law_take.f D__law_take.fd ["_law_source_here", "_law_many"] (sp__law_take)) (T : TB mg) : FnOk P w K mg base CX0 2 D__law_end_states.f D__law_end_states.fd ["_law_source_here", "_law_states"] (sp__law_end_states K) := by
  refine ok0 D__law_end_states.F sc__law_end_states (fun vs H Q E h => ?_) (fun cdv A outer s H vs Q E hr h => ?_)
  · obtain ⟨a, L, ns, n, rfl, S, n0, n1, k⟩ := h
    rfl
  · obtain ⟨a, L, ns, n, rfl, S, n0, n1, k⟩ := h
    refine ⟨_, (pss_cons (ps_set (i := 2) sc__law_end_states.nd rfl (by first | exact Or.inl rfl | exact Or.inr rfl) (pe_call G__law_take (hr.mono (by decide)) (by rfl) D__law_take.m D__law_take.F.kp D__law_take.b .nil pass0 (pa_cons (pv 0) (pa_cons (pv 1) pa_nil))))
  (pss_cons (ps_if (pt_cmpR op_eq (pe_call G__law_take (hr.mono (by decide)) (by rfl) D__law_take.m D__law_take.F.kp D__law_take.b .nil pass0 (pa_cons (pv 0) (pa_cons pe_int pa_nil))) pe_int (nomark _)) (pss_one (ps_ret (pe_tup (pa_cons (pv 2) (pa_cons (pe_tupRg rfl (by rfl) T.tuple_ (prg_1 (by rfl) T.range (pv 1))) pa_nil))))) pss_nil)
  (pss_one (ps_ret (pe_tup (pa_cons (pv 2) (pa_cons (pe_callTy call_tupR (by rfl) T.tuple_ (by decide +kernel) (pa_cons (pe_lc (own := [(("_law_s" : Str), 3)]) rfl sc__law_end_states.nd (pi_range1 (by rfl) T.range (pa_cons (pv 1) pa_nil)) (blkOk_by (own := [(("_law_s" : Str), 3)]) (N := ["_law_source_here", "_law_states", "_law_start", "_law_s"]) (sc := defScope s__law_end_states) (by decide +kernel)) (fun _ _ _ _ _ => (pg_name (i := 3) sc__law_end_states.nd rfl (Or.inl rfl))) (fun _ _ _ _ _ => (pts_one (pt_cmpR op_gt (pe_call G__law_take (hr.mono (by decide)) (by rfl) D__law_take.m D__law_take.F.kp D__law_take.b .nil pass0 (pa_cons (pv 0) (pa_cons pe_int pa_nil))) pe_int (nomark _)))) (fun _ _ _ _ _ => (pv 3))) pa_nil)) pa_nil))))))), ?_⟩
    refine ⟨_, rfl, _, rfl, a, L, ns, n, rfl, S, n0, m200 n1, fun r H1 hr e1 => ?_⟩
    refine ⟨_, rfl, a, L, ns, 2, rfl, e1.on S, by decide, by decide, fun r2 H2 hr2 e2 => ⟨rfl, _, rfl, ite2 (fun _ => ?_) (fun _ => ?_)⟩⟩
    · refine ⟨_, rfl, _, rfl, n, rfl, rgOk (by omega) n1, fun q hq => ⟨(by show 2 ≤ sizeLine; decide), fun p hp => ?_⟩⟩
      refine k _ _ (r, rgI n) ((e1.trans e2).trans ((fs_same (same_new hq)).trans (fs_same (same_new hp)))) ⟨p, _, rfl, SqT.of upd_same, ⟨q, rfl, SqT.same (same_new hp) (SqT.of ?_)⟩⟩ ⟨hr, by show ((rgI n).length : Int) ≤ n; rw [rgI_len]; omega, fun i hi => rgI_in hi, rgI_asc n⟩
      rw [rgI_v]
      exact upd_same
    · refine ⟨_, rfl, _, rfl, n, rfl, mlo (by omega), m62 n1, fun D hD => ?_⟩
      have e12 := e1.trans e2
      have nD : D ≠ a := Ne.symm ((e12.on S).ne hD)
      refine lc_it walk_at_range (fun i H' => Fs a L ns H2 H' ∧ ∃ zs : List Int, H' D = some (.lst (zs.map V.int)) ∧ zs.length ≤ i ∧ (∀ z ∈ zs, 0 ≤ z ∧ z < (i : Int)) ∧ Asc zs) ⟨fs_same (same_new hD), [], upd_same, by simp, by simp, by intro j a b h; cases h⟩ (fun _ _ _ _ => trivial) (fun i x H' H3 hi p y => ?_) (fun H' p => ?_)
      · obtain ⟨rfl, rfl⟩ := y
        obtain ⟨e3, zs, d1, d2, d3, d4⟩ := p
        refine ⟨rfl, _, rfl, a, L, ns, 3, rfl, e3.on (e12.on S), by decide, by decide, fun r3 H4 hr3 e4 => ⟨_, _, rfl, rfl, _, rfl, ite2 (fun _ => ?_) (fun _ => ?_)⟩⟩
        · refine ⟨_, rfl, _, e4.keep _ _ nD d1, by rw [List.length_map]; exact k1000 (by omega), ?_⟩
          rw [snoc_int]
          refine ⟨fs_upd (e12.on S) (e3.trans e4) hD, zs ++ [_], upd_same, by simp; omega, fun z hz => ?_, fun j u v hu hv => ?_⟩
          · rcases List.mem_append.mp hz with h | h
            · have := d3 z h
              omega
            · rw [List.mem_singleton.mp h]
              omega
          · have hj := (List.getElem?_eq_some_iff.mp hv).1
            rw [List.length_append] at hj
            have hj : j + 1 < zs.length + 1 := hj
            rw [List.getElem?_append_left (by omega)] at hu
            rcases Nat.lt_or_ge (j + 1) zs.length with lt | ge
            · rw [List.getElem?_append_left lt] at hv
              exact d4 j u v hu hv
            · rw [List.getElem?_append_right ge] at hv
              have : j + 1 - zs.length = 0 := by omega
              rw [this] at hv
              cases hv
              have := d3 u (List.mem_of_getElem? hu)
              omega
        · exact ⟨e3.trans e4, zs, e4.keep _ _ nD d1, by omega, fun z hz => by have := d3 z hz; omega, d4⟩
      · obtain ⟨e3, zs, d1, d2, d3, d4⟩ := p
        refine rd_tup (.inl (SqL.of d1)) fun b H3 s3 t3 => ⟨(by show 2 ≤ sizeLine; decide), fun p hp => ?_⟩
        exact k _ _ (r, zs) ((e12.trans e3).trans ((fs_same s3).trans (fs_same (same_new hp)))) ⟨p, _, rfl, SqT.of upd_same, ⟨b, rfl, SqT.same (same_new hp) t3⟩⟩ ⟨hr, by show (zs.length : Int) ≤ n; omega, fun i hi => by have := d3 i hi; exact ⟨by omega, by omega⟩, d4⟩
end
/-! ### texts -/
def layF (l : Int) : Nat → List (List Int)
  | 0 => [[]]
  | k + 1 => (layF l k).flatMap fun t => (rgI l).map fun c => t ++ [c]
def texF (l : Int) : Nat → List (List Int)
  | 0 => []
  | k + 1 => texF l k ++ layF l (k + 1)
def sp__law_texts (K : PySem.W.Frag) : Sp := fun vs H Q _ => ∃ (l : Int) (m : Nat), vs = [.int l, .int m] ∧ 0 ≤ l ∧ l ≤ 3 ∧ m ≤ 3 ∧ ∀ (p : Addr) (H' : Hp), Same H H' → H p = none → LstR K (IntsT K) H' p (texF l m) → Q (.ref p) H'
theorem lay_le {l : Int} (h0 : 0 ≤ l) (h : l ≤ 3) : ∀ k, (layF l k).length ≤ 3 ^ k
  | 0 => by simp [layF]
  | k + 1 => by
    have ih := lay_le h0 h k
    unfold layF
    rw [List.length_flatMap]
    have : ∀ xs : List (List Int), (xs.map fun t => ((rgI l).map fun c => t ++ [c]).length).sum ≤ 3 * xs.length := fun xs => by
      induction xs with
      | nil => simp
      | cons x r ih =>
        simp only [List.map_cons, List.sum_cons, List.length_map, List.length_cons] at ih ⊢
        rw [rgI_len]
        rw [rgI_len] at ih
        omega
    have := this (layF l k)
    rw [Nat.pow_succ]
    omega
theorem lay_len {l : Int} : ∀ k z, z ∈ layF l k → z.length = k
  | 0, z, h => by
    have e : z = [] := by simpa [layF] using h
    rw [e]
    rfl
  | k + 1, z, h => by
    obtain ⟨t, ht, hz⟩ := List.mem_flatMap.mp h
    obtain ⟨c, _, rfl⟩ := List.mem_map.mp hz
    rw [List.length_append, lay_len k t ht]
    rfl
theorem flat_le {α β : Type} {xs : List α} {f : α → List β} {n : Nat} (h : ∀ t, (f t).length = n) : (xs.flatMap f).length ≤ xs.length * n := by
  induction xs with
  | nil => simp
  | cons x r ih =>
    rw [List.flatMap_cons, List.length_append, h, List.length_cons, Nat.succ_mul]
    omega
theorem tex_le {l : Int} (h0 : 0 ≤ l) (h : l ≤ 3) : ∀ k, k ≤ 3 → (texF l k).length ≤ 13 * k ∧ (layF l k).length ≤ 27
  | 0, _ => by simp [texF, layF]
  | 1, _ => by have := lay_le h0 h 1; simp [texF] at *; omega
  | 2, _ => by have := lay_le h0 h 1; have := lay_le h0 h 2; simp [texF] at *; omega
  | 3, _ => by have := lay_le h0 h 1; have := lay_le h0 h 2; have := lay_le h0 h 3; simp [texF] at *; omega
section
variable {K : PySem.W.Frag} {H H' : Hp}
theorem rd_cat {a b : Addr} {xs ys : List V} {Q : VK} (ha : SqT K H a xs) (hb : SqT K H b ys) (hz : xs.length + ys.length ≤ sizeLine) (q : ∀ c H', Same H H' → SqT K H' c (xs ++ ys) → Q (.ref c) H') : rCatA K (.ref a) (.ref b) H Q := by
  refine ⟨a, b, xs, ys, rfl, rfl, ha, hb, hz, fun e => ?_, fun e e' => ?_, fun e e' p hp => q p _ (same_new hp) (SqT.of upd_same)⟩
  · subst e
    exact q b H (Same.refl H) hb
  · subst e'
    exact q a H (Same.refl H) (by rw [List.append_nil]; exact ha)
theorem lst_app {α : Type} {R : Hp → V → α → Prop} (m : ∀ H H' v z, KT H H' → R H v z → R H' v z) {p : Addr} {zs ws : List α} {xs ys : List V} (h : H p = some (.lst xs)) (l : xs.length = zs.length) (f : ∀ (i : Nat) (x : V) (z : α), xs[i]? = some x → zs[i]? = some z → R H x z) (l2 : ys.length = ws.length) (f2 : ∀ (i : Nat) (x : V) (z : α), ys[i]? = some x → ws[i]? = some z → R H x z) : LstR K R (upd H p (.lst (xs ++ ys))) p (zs ++ ws) := by
  have k : KT H (upd H p (.lst (xs ++ ys))) := KT.lst h
  refine ⟨xs ++ ys, upd_same, by simp [l, l2], fun i x t hx ht => ?_⟩
  rcases Nat.lt_or_ge i xs.length with lt | ge
  · rw [List.getElem?_append_left lt] at hx
    rw [List.getElem?_append_left (by omega)] at ht
    exact m _ _ _ _ k (f i x t hx ht)
  · rw [List.getElem?_append_right ge] at hx
    rw [List.getElem?_append_right (by omega), ← l] at ht
    exact m _ _ _ _ k (f2 _ x t hx ht)
/-- the list's items, as a comprehension told them -/
theorem got_lst {α : Type} {R : Hp → V → α → Prop} {D : Addr} {zs : List α} (h : Got D zs.length (fun H i y => ∀ z, zs[i]? = some z → R H y z) H) : LstR K R H D zs := by
  obtain ⟨ys, h1, h2, h3⟩ := h
  exact ⟨ys, h1, h2, fun i x z hx hz => h3 i x hx z hz⟩
theorem flat_take {α β : Type} {xs : List α} {f : α → List β} {j : Nat} {z : α} (h : xs[j]? = some z) : (xs.take (j + 1)).flatMap f = (xs.take j).flatMap f ++ f z := by
  obtain ⟨p, e⟩ := List.getElem?_eq_some_iff.mp h
  rw [List.take_succ_eq_append_getElem p, List.flatMap_append, e]
  simp
end
theorem sc__law_texts : FnScope ["_law_letters", "_law_most", "_law_told", "_law_layer", "_law_k", "_law_more", "_law_text", "_law_letter"] ["_law_letters", "_law_most"] (defScope s__law_texts) := ⟨rfl, rfl, rfl, by decide +kernel, rfl, by decide +kernel, by decide +kernel⟩
section
variable {P : Program} {w : World} {K : PySem.W.Frag} {mg : Str → Option Value} {base : Heap}
theorem ok__law_texts (D__law_texts : Dn K mg "_law_texts" s__law_texts ["_law_letters", "_law_most"]) (T : TB mg) : FnOk P w K mg base CX0 1 D__law_texts.f D__law_texts.fd ["_law_letters", "_law_most"] (sp__law_texts K) := by
  refine ok0 D__law_texts.F sc__law_texts (fun vs H Q E h => ?_) (fun cdv A outer s H vs Q E hr h => ?_)
  · obtain ⟨l, m, rfl, l0, l3, m3, k⟩ := h
    rfl
  · obtain ⟨l, m, rfl, l0, l3, m3, k⟩ := h
    refine ⟨_, (pss_cons (ps_set (i := 2) sc__law_texts.nd rfl (by first | exact Or.inl rfl | exact Or.inr rfl) (pe_lst pa_nil))
  (pss_cons (ps_set (i := 3) sc__law_texts.nd rfl (by first | exact Or.inl rfl | exact Or.inr rfl) (pe_lst (pa_cons (pe_tup pa_nil) pa_nil)))
  (pss_cons (ps_for PassesOwn.never rfl (pi_range1 (by rfl) T.range (pa_cons (pv 1) pa_nil)) (pg_name (i := 4) sc__law_texts.nd rfl (by first | exact Or.inl rfl | exact Or.inr rfl)) (pss_cons (ps_set (i := 5) sc__law_texts.nd rfl (by first | exact Or.inl rfl | exact Or.inr rfl) (pe_lst pa_nil))
  (pss_cons (ps_for PassesOwn.never rfl (pi_list (pe_callTy call_list_of (by rfl) T.list_ (by decide +kernel) (pa_cons (pv 3) pa_nil))) (pg_name (i := 6) sc__law_texts.nd rfl (by first | exact Or.inl rfl | exact Or.inr rfl)) (pss_one (ps_expr (pe_bm PySem.F.plainAttrs_list PySem.F.slot_list_extend PySem.F.type_list_extend mt_extend (pv 5) (pa_cons (pe_lc (own := [(("_law_letter" : Str), 7)]) rfl sc__law_texts.nd (pi_range1 (by rfl) T.range (pa_cons (pv 0) pa_nil)) (blkOk_by (own := [(("_law_letter" : Str), 7)]) (N := ["_law_letters", "_law_most", "_law_told", "_law_layer", "_law_k", "_law_more", "_law_text", "_law_letter"]) (sc := defScope s__law_texts) (by decide +kernel)) (fun _ _ _ _ _ => (pg_name (i := 7) sc__law_texts.nd rfl (Or.inl rfl))) (fun _ _ _ _ _ => pts_nil) (fun _ _ _ _ _ => (pe_op (op_catAK (K := K) rfl) (pv 6) (pe_tup (pa_cons (pv 7) pa_nil))))) pa_nil)))))
  (pss_cons (ps_set (i := 3) sc__law_texts.nd rfl (by first | exact Or.inl rfl | exact Or.inr rfl) (pv 5))
  (pss_one (ps_expr (pe_bm PySem.F.plainAttrs_list PySem.F.slot_list_extend PySem.F.type_list_extend mt_extend (pv 2) (pa_cons (pv 5) pa_nil))))))))
  (pss_one (ps_ret (pv 2)))))), ?_⟩
    refine ⟨(by show 0 ≤ sizeLine; decide), fun D hD => ?_⟩
    refine ⟨(by show 0 ≤ sizeLine; decide), fun t ht => ⟨(by show 1 ≤ sizeLine; decide), fun Y hY => ?_⟩⟩
    have sD : Same H (upd H D (.lst [])) := same_new hD
    have sT := sD.trans (same_new (o := .tup []) ht)
    have sY := sT.trans (same_new (o := .lst [.ref t]) hY)
    have nYD : Y ≠ D := fun z => by
      rw [z, upd_ne (fun z => by rw [z] at ht; rw [upd_same] at ht; cases ht), upd_same] at hY
      cases hY
    refine ⟨_, rfl, m, rfl, mlo (by omega), m62 (by omega), ?_⟩
    refine for_it walk_at_range (fun i σ H' => ∃ (o4 o5 o6 o7 : Option V) (Y : Addr), σ = [some (.int l), some (.int m), some (.ref D), some (.ref Y), o4, o5, o6, o7] ∧ Same H H' ∧ Y ≠ D ∧ LstR K (IntsT K) H' D (texF l i) ∧ LstR K (IntsT K) H' Y (layF l i)) ⟨_, _, _, _, Y, rfl, sY, nYD, ?_, ?_⟩ (fun _ _ _ _ _ => trivial) (fun i x σ H' H2 hi p y => ?_) (fun σ H' p => ?_)
    · exact LstR.same kI ((same_new ht).trans (same_new hY)) lst_nil
    · refine ⟨[.ref t], upd_same, rfl, fun i x z hx hz => ?_⟩
      cases i with
      | zero =>
        cases hx
        cases hz
        exact ⟨t, rfl, SqT.same (same_new hY) (SqT.of upd_same)⟩
      | succ j => cases hx
    · obtain ⟨rfl, rfl⟩ := y
      obtain ⟨o4, o5, o6, o7, Y, rfl, s2, nYD, ⟨xD, hD2, lD, fD⟩, ⟨xY, hY2, lY, fY⟩⟩ := p
      have hi3 : i < 3 := by omega
      have bi : (texF l i).length ≤ 39 ∧ (layF l i).length ≤ 27 := by
        have := tex_le l0 l3 i (by omega)
        exact ⟨by omega, this.2⟩
      have bi2 := tex_le l0 l3 (i + 1) (by omega)
      refine ⟨(by show 0 ≤ sizeLine; decide), fun M hM => ?_⟩
      have sM : Same H2 (upd H2 M (.lst [])) := same_new hM
      have nMY : M ≠ Y := fun z => by rw [z, hY2] at hM; cases hM
      have nMD : M ≠ D := fun z => by rw [z, hD2] at hM; cases hM
      refine ⟨_, rfl, Y, xY, rfl, .inl (SqL.of (sM _ _ hY2)), fun q hq => ⟨q, rfl, ⟨_, SqL.of upd_same⟩, ?_⟩⟩
      have sq : Same (upd H2 M (.lst [])) (upd (upd H2 M (.lst [])) q (.lst xY)) := same_new hq
      have nqM : q ≠ M := fun z => by rw [z, upd_same] at hq; cases hq
      refine for_it (walk_at_list (K := K) (a := q) (xs := xY)) (fun j σ H' => ∃ (o6 o7 : Option V), σ = [some (.int l), some (.int m), some (.ref D), some (.ref Y), some (.int (0 + (i : Nat))), some (.ref M), o6, o7] ∧ Same H2 H' ∧ H' q = some (.lst xY) ∧ LstR K (IntsT K) H' M (((layF l i).take j).flatMap fun t => (rgI l).map fun c => t ++ [c])) ⟨_, _, rfl, sM.trans sq, upd_same, LstR.same kI sq lst_nil⟩ (fun _ _ H' _ p => by
        obtain ⟨_, _, _, _, h, _⟩ := p
        exact SqL.of h) (fun j x σ H3 H4 hj p y => ?_) (fun σ H3 p => ?_)
      · obtain ⟨rfl, hx⟩ := y
        obtain ⟨o6, o7, rfl, s4, hq4, xM, hM4, lM, fM⟩ := p
        obtain ⟨z, hz⟩ := seq_at lY hx
        obtain ⟨ax, rfl, hax⟩ := (fY j x z hx hz).kt (KT.of s4)
        have hzl : z.length ≤ i := Nat.le_of_eq (lay_len i z (List.mem_of_getElem? hz))
        refine ⟨_, rfl, .inl ⟨rfl, _, SqL.of hM4⟩, _, rfl, l, rfl, mlo l0, m62 (by omega), fun B hB => ?_⟩
        have nMB : M ≠ B := fun z => by rw [z] at hM4; rw [hM4] at hB; cases hB
        refine lc_fr (R := fun H i y => ∀ w, ((rgI l).map fun c => z ++ [c])[i]? = some w → IntsT K H y w) walk_at_range (tnz (by omega)) (stb_seq kI) gd0 hB trivial (fun _ _ => trivial) (fun u x2 H5 Q5 hu hx2 e5 q5 => ?_) (fun H5 e5 got => ?_)
        · subst hx2
          refine ⟨rfl, _, rfl, _, rfl, (by show 1 ≤ sizeLine; decide), fun c hc => ?_⟩
          have h1 := SqT.same ((F0.same e5).trans (same_new (o := .tup [.int ((0 : Int) + (u : Int))]) hc)) hax
          have hz : (z.map V.int).length + [V.int ((0 : Int) + (u : Int))].length ≤ sizeLine := by
            rw [List.length_map]
            have : sizeLine = 16777216 := by decide
            show z.length + 1 ≤ _
            omega
          refine rd_cat h1 (SqT.of upd_same) hz fun d H6 s6 t6 => q5 _ _ (F0.of ((same_new hc).trans s6)) fun w hw => ?_
          rw [List.getElem?_map] at hw
          obtain ⟨v, hv, rfl⟩ := Option.map_eq_some_iff.mp hw
          have ev : v = 0 + (u : Int) := by
            unfold rgI at hv
            rw [List.getElem?_map, List.getElem?_range hu] at hv
            cases hv
            rfl
          subst ev
          exact ⟨d, rfl, by rw [← snoc_int]; exact t6⟩
        · have ln : ((rgI l).map fun c => z ++ [c]).length = l.toNat := by rw [List.length_map, rgI_len]
          rw [← ln] at got
          obtain ⟨xB, hB5, lB, fB⟩ := got_lst (K := K) got
          have s5 := F0.same e5
          have hM5 := s5 _ _ hM4
          refine ⟨M, B, xM, xB, rfl, rfl, hM5, hB5, ?_, ?_⟩
          · have : sizeLine = 16777216 := by decide
            have l2 : ((rgI l).map fun c => z ++ [c]).length = l.toNat := by rw [List.length_map, rgI_len]
            have l3 := flat_le (xs := (layF l i).take j) (f := fun t => (rgI l).map fun c => t ++ [c]) (n := l.toNat) (fun t => by rw [List.length_map, rgI_len])
            rw [List.length_take] at l3
            have : min j (layF l i).length * l.toNat ≤ 27 * 3 := Nat.mul_le_mul (by omega) (by omega)
            omega
          · refine ⟨_, _, rfl, same_upd (s4.trans s5) hM, ?_, ?_⟩
            · rw [upd_ne nqM]
              exact s5 _ _ hq4
            · rw [flat_take hz]
              exact lst_app kI hM5 lM (fun i x z hx hz => (fM i x z hx hz).kt (KT.of s5)) lB fB
      · obtain ⟨o6, o7, rfl, s4, hq4, h4⟩ := p
        rw [List.take_of_length_le (by omega)] at h4
        have h4 : LstR K (IntsT K) H3 M (layF l (i + 1)) := h4
        obtain ⟨xM, hM4, lM, fM⟩ := h4
        refine ⟨_, rfl, _, rfl, .inl ⟨rfl, _, SqL.of (s4 _ _ hD2)⟩, _, rfl, D, M, xD, xM, rfl, rfl, s4 _ _ hD2, hM4, ?_, ?_⟩
        · rw [lD, lM]
          have : sizeLine = 16777216 := by decide
          omega
        · have k4 : KT H3 (upd H3 D (.lst (xD ++ xM))) := KT.lst (s4 _ _ hD2)
          refine ⟨_, _, _, _, M, rfl, same_upd (s2.trans s4) hD, nMD, lst_app kI (s4 _ _ hD2) lD (fun i x z hx hz => (fD i x z hx hz).kt (KT.of s4)) lM fM, xM, ?_, lM, fun i x z hx hz => (fM i x z hx hz).kt k4⟩
          rw [upd_ne nMD]
          exact hM4
    · obtain ⟨o4, o5, o6, o7, Y, rfl, s2, nYD, h1, h2⟩ := p
      exact ⟨_, rfl, k D _ s2 hD (by simpa using h1)⟩
end
end My
set_option maxHeartbeats 4000000
namespace My
open PySem PySem.Spec PyProof.Rows L2 Lcn Sq
/-! ### data of ints: equal exactly if equal -/
def iD (ns : List Int) : PyData := .tuple (ns.map PyData.int)
theorem eqvA_ints : ∀ xs ys : List Int, PyData.eqvAll (xs.map PyData.int) (ys.map PyData.int) = decide (xs = ys)
  | [], [] => by simp [PyData.eqvAll]
  | [], _ :: _ => by simp [PyData.eqvAll]
  | _ :: _, [] => by simp [PyData.eqvAll]
  | x :: xs, y :: ys => by
    rw [List.map_cons, List.map_cons, PyData.eqvAll, eqvA_ints xs ys, PyData.eqv]
    by_cases h : x = y
    · subst h
      simp
    · simp [h]
theorem eqv_iD (xs ys : List Int) : PyData.eqv (iD xs) (iD ys) = decide (xs = ys) := by
  unfold iD
  rw [PyData.eqv]
  exact eqvA_ints xs ys
theorem dpA_ints {K : PySem.W.Frag} {H : Hp} : ∀ ns : List Int, DpAll K H (ns.map V.int) (ns.map PyData.int)
  | [] => .nil
  | n :: r => .cons (.int n) (dpA_ints r)
theorem dp_ints {K : PySem.W.Frag} {H : Hp} {v : V} {ns : List Int} (h : IntsT K H v ns) : Dp K H v (iD ns) := by
  obtain ⟨a, rfl, hs⟩ := h
  exact .tup hs (dpA_ints ns)
theorem depA : ∀ ns : List Int, PyData.depthAll (ns.map PyData.int) = 0
  | [] => by simp [PyData.depthAll]
  | n :: r => by
    rw [List.map_cons, PyData.depthAll, depA r, PyData.depth]
    rfl
theorem layA : ∀ ns : List Int, PyData.canLayAll0 (ns.map PyData.int) = true
  | [] => by simp [PyData.canLayAll0]
  | n :: r => by
    rw [List.map_cons, PyData.canLayAll0, layA r, PyData.canLay0]
    rfl
theorem shaped_iD (ns : List Int) (h : ns.length ≤ sizeLine) : SeqAt.shaped (iD ns) = true := by
  unfold SeqAt.shaped iD
  rw [PyData.depth, depA, PyData.canLay0, layA]
  simp [h]
/-! ### deeds of texts -/
def afterF (f t : List Int) : List Int := f.map fun g => t.getD g.toNat 0
theorem afterF_rd {n : Int} {f t : List Int} (hf : RD n n f) (ht : RD n n t) : RD n n (afterF f t) := by
  refine ⟨by unfold afterF; rw [List.length_map]; exact hf.1, fun i hi => ?_⟩
  obtain ⟨g, hg, rfl⟩ := List.mem_map.mp hi
  obtain ⟨z, hz, _⟩ := at_int (hf.2 g hg) ht.1
  rw [List.getD_eq_getElem?_getD, hz]
  exact ht.2 z (List.mem_of_getElem? hz)
def deedF (ds : List (List Int)) (told : List Int) (tx : List Int) : List Int := tx.foldl (fun told l => afterF told (ds.getD l.toNat [])) told
theorem deedF_rd {n : Int} {ds : List (List Int)} (hd : ∀ d ∈ ds, RD n n d) : ∀ (tx : List Int) (told : List Int), (∀ l ∈ tx, InR ds.length l) → RD n n told → RD n n (deedF ds told tx)
  | [], told, _, h => h
  | l :: r, told, hl, h => by
    obtain ⟨l0, l1⟩ := hl l (List.mem_cons_self ..)
    refine deedF_rd hd r _ (fun x hx => hl x (List.mem_cons_of_mem _ hx)) (afterF_rd h (hd _ ?_))
    rw [List.getD_eq_getElem?_getD, List.getElem?_eq_getElem (by omega)]
    exact List.getElem_mem _
theorem deedF_snoc {ds : List (List Int)} {told tx : List Int} {l : Int} : deedF ds told (tx ++ [l]) = afterF (deedF ds told tx) (ds.getD l.toNat []) := by
  unfold deedF
  rw [List.foldl_append]
  rfl
def sp__law_after (K : PySem.W.Frag) : Sp := fun vs H Q _ => ∃ (fv tv : V) (f t : List Int) (n : Int), vs = [fv, tv] ∧ IntsT K H fv f ∧ IntsT K H tv t ∧ n < 1000 ∧ RD n n f ∧ RD n n t ∧ ∀ (v : V) (H' : Hp), Same H H' → IntsT K H' v (afterF f t) → Q v H'
def sp__law_text_deed (K : PySem.W.Frag) : Sp := fun vs H Q _ => ∃ (p : Addr) (tv : V) (n : Int) (ds : List (List Int)) (tx : List Int), vs = [.ref p, .int n, tv] ∧ LstR K (IntsT K) H p ds ∧ IntsT K H tv tx ∧ 0 < n ∧ n < 1000 ∧ (∀ d ∈ ds, RD n n d) ∧ (∀ l ∈ tx, InR ds.length l) ∧ ∀ (v : V) (H' : Hp), Same H H' → IntsT K H' v (deedF ds (rgI n) tx) → Q v H'
def fitsF (ds : List (List Int)) (n : Int) (e : Int × List Int) (tx : List Int) : Bool := decide (0 < tx.length) && inV (.int ((deedF ds (rgI n) tx).getD e.1.toNat 0)) (e.2.map V.int)
def sp__law_fits (K : PySem.W.Frag) : Sp := fun vs H Q _ => ∃ (p : Addr) (ev tv : V) (n : Int) (ds : List (List Int)) (e : Int × List Int) (tx : List Int), vs = [.ref p, .int n, ev, tv] ∧ LstR K (IntsT K) H p ds ∧ EndT K H ev e ∧ IntsT K H tv tx ∧ 0 < n ∧ n < 1000 ∧ (∀ d ∈ ds, RD n n d) ∧ (∀ l ∈ tx, InR ds.length l) ∧ InR n e.1 ∧ ∀ H', Same H H' → Q (.bl (fitsF ds n e tx)) H'
theorem map_take {ns : List Int} {j : Nat} {z : Int} (h : ns[j]? = some z) : ns.take (j + 1) = ns.take j ++ [z] := by
  obtain ⟨p, e⟩ := List.getElem?_eq_some_iff.mp h
  rw [List.take_succ_eq_append_getElem p, e]
theorem flat_ints (ns : List Int) : (ns.map V.int).all flatV = true := by
  rw [List.all_eq_true]
  intro x hx
  obtain ⟨z, _, rfl⟩ := List.mem_map.mp hx
  rfl
theorem sc__law_after : FnScope ["_law_first", "_law_then", "_law_goal"] ["_law_first", "_law_then"] (defScope s__law_after) := ⟨rfl, rfl, rfl, by decide +kernel, rfl, by decide +kernel, by decide +kernel⟩
section
variable {P : Program} {w : World} {K : PySem.W.Frag} {mg : Str → Option Value} {base : Heap}
theorem ok__law_after (D__law_after : Dn K mg "_law_after" s__law_after ["_law_first", "_law_then"]) (T : TB mg) : FnOk P w K mg base CX0 1 D__law_after.f D__law_after.fd ["_law_first", "_law_then"] (sp__law_after K) := by
  refine ok0 D__law_after.F sc__law_after (fun vs H Q E h => ?_) (fun cdv A outer s H vs Q E hr h => ?_)
  · obtain ⟨fv, tv, f, t, n, rfl, hf, ht, n1, rf, rt, k⟩ := h
    rfl
  · obtain ⟨fv, tv, f, t, n, rfl, hf, ht, n1, rf, rt, k⟩ := h
    refine ⟨_, (pss_one (ps_ret (pe_callTy call_tupR (by rfl) T.tuple_ (by decide +kernel) (pa_cons (pe_lc (own := [(("_law_goal" : Str), 2)]) rfl sc__law_after.nd (pi_seq (pv 0)) (blkOk_by (own := [(("_law_goal" : Str), 2)]) (N := ["_law_first", "_law_then", "_law_goal"]) (sc := defScope s__law_after) (by decide +kernel)) (fun _ _ _ _ _ => (pg_name (i := 2) sc__law_after.nd rfl (Or.inl rfl))) (fun _ _ _ _ _ => pts_nil) (fun _ _ _ _ _ => (pe_ix (ix_tupK (K := K) rfl) (pv 1) (pv 2) (fun _ _ => rfl)))) pa_nil)))), ?_⟩
    obtain ⟨af, rfl, sf⟩ := hf
    obtain ⟨at', rfl, st⟩ := ht
    have lf := rf.1
    refine seq_rd (Same.refl _) (fun _ q => ⟨_, rfl, q⟩) (.inr sf) fun J Gw w gw D hD => ?_
    refine lc_fr (R := fun H i y => ∀ z, (afterF f t)[i]? = some z → y = .int z) w (by rw [List.length_map]; exact k1000 (by omega)) (fun _ _ _ _ _ h => h) gd0 hD trivial (fun H' e => gw H' fun o h => F0.same e _ o h) (fun i x H' Q' hi hx e q => by
      obtain ⟨z, hz, rfl⟩ := map_at hx
      obtain ⟨u, u1, u2⟩ := at_int (rf.2 z (List.mem_of_getElem? hz)) rt.1
      refine ⟨rfl, _, rfl, _, rfl, at', _, z, _, rfl, rfl, SqT.same (F0.same e) st, u2, q _ _ (Sq.Fr.refl _) fun z' hz' => ?_⟩
      unfold afterF at hz'
      rw [List.getElem?_map, hz] at hz'
      cases hz'
      show V.int u = V.int (t.getD z.toNat 0)
      rw [List.getD_eq_getElem?_getD, u1]
      rfl) (fun H' e got => ?_)
    obtain ⟨ys, y1, y2, y3⟩ := got
    have ey : ys = (afterF f t).map V.int := by
      refine List.ext_getElem? fun i => ?_
      rw [List.getElem?_map]
      rcases Nat.lt_or_ge i ys.length with lt | ge
      · obtain ⟨y, hy⟩ : ∃ y, ys[i]? = some y := ⟨ys[i], by simp [lt]⟩
        have lz : i < (afterF f t).length := by unfold afterF; rw [List.length_map]; rw [List.length_map] at y2; omega
        rw [hy, y3 i y hy _ (List.getElem?_eq_getElem lz), List.getElem?_eq_getElem lz]
        rfl
      · rw [List.getElem?_eq_none ge, List.getElem?_eq_none (by unfold afterF; rw [List.length_map]; rw [List.length_map] at y2; omega)]
        rfl
    rw [ey] at y1
    exact rd_tup (.inl (SqL.of y1)) fun b H2 s2 t2 => k _ _ ((F0.same e).trans s2) ⟨b, rfl, t2⟩
end
theorem sc__law_text_deed : FnScope ["_law_deeds", "_law_states", "_law_text", "_law_told", "_law_letter"] ["_law_deeds", "_law_states", "_law_text"] (defScope s__law_text_deed) := ⟨rfl, rfl, rfl, by decide +kernel, rfl, by decide +kernel, by decide +kernel⟩
section
variable {P : Program} {w : World} {K : PySem.W.Frag} {mg : Str → Option Value} {base : Heap}
theorem ok__law_text_deed (D__law_text_deed : Dn K mg "_law_text_deed" s__law_text_deed ["_law_deeds", "_law_states", "_law_text"]) (D__law_after : Dn K mg "_law_after" s__law_after ["_law_first", "_law_then"]) (G__law_after : FnOk P w K mg base CX0 1 D__law_after.f D__law_after.fd ["_law_first", "_law_then"] (sp__law_after K)) (T : TB mg) : FnOk P w K mg base CX0 2 D__law_text_deed.f D__law_text_deed.fd ["_law_deeds", "_law_states", "_law_text"] (sp__law_text_deed K) := by
  refine ok0 D__law_text_deed.F sc__law_text_deed (fun vs H Q E h => ?_) (fun cdv A outer s H vs Q E hr h => ?_)
  · obtain ⟨p, tv, n, ds, tx, rfl, hp, ht, n0, n1, hd, hl, k⟩ := h
    rfl
  · obtain ⟨p, tv, n, ds, tx, rfl, hp, ht, n0, n1, hd, hl, k⟩ := h
    refine ⟨_, (pss_cons (ps_set (i := 3) sc__law_text_deed.nd rfl (by first | exact Or.inl rfl | exact Or.inr rfl) (pe_tupRg rfl (by rfl) T.tuple_ (prg_1 (by rfl) T.range (pv 1))))
  (pss_cons (ps_for PassesOwn.never rfl (pi_seq (pv 2)) (pg_name (i := 4) sc__law_text_deed.nd rfl (by first | exact Or.inl rfl | exact Or.inr rfl)) (pss_one (ps_set (i := 3) sc__law_text_deed.nd rfl (by first | exact Or.inl rfl | exact Or.inr rfl) (pe_call G__law_after (hr.mono (by decide)) (by rfl) D__law_after.m D__law_after.F.kp D__law_after.b .nil pass0 (pa_cons (pv 3) (pa_cons (pe_ix ix_list (pv 0) (pv 4) (fun _ _ => rfl)) pa_nil))))))
  (pss_one (ps_ret (pv 3))))), ?_⟩
    obtain ⟨a, rfl, st⟩ := ht
    obtain ⟨xs, h1, h2, h3⟩ := hp
    refine ⟨_, rfl, n, rfl, rgOk (by omega) n1, fun q hq => ?_⟩
    have sq : Same H (upd H q (.tup (rgV 0 n))) := same_new hq
    refine seq_rd sq (fun _ q => ⟨_, rfl, q⟩) (.inr st) fun J Gw w gw => ?_
    have r0 : RD n n (rgI n) := ⟨by rw [rgI_len]; omega, fun i hi => rgI_in hi⟩
    refine for_it w (fun j σ H' => ∃ (v : V) (o4 : Option V), σ = [some (.ref p), some (.int n), some (.ref a), some v, o4] ∧ Same H H' ∧ IntsT K H' v (deedF ds (rgI n) (tx.take j))) ⟨_, _, rfl, sq, q, rfl, SqT.of ?_⟩ (fun _ _ H' _ p => gw H' fun o h => by
      obtain ⟨_, _, _, s, _⟩ := p
      exact s _ o h) (fun j x σ H2 H3 hj p y => ?_) (fun σ H2 p => ?_)
    · show (upd H q (.tup (rgV 0 n))) q = some (.tup ((rgI n).map V.int))
      rw [rgI_v]
      exact upd_same
    · obtain ⟨rfl, hx⟩ := y
      obtain ⟨v, o4, rfl, s2, t2⟩ := p
      obtain ⟨z, hz, rfl⟩ := map_at hx
      obtain ⟨z0, z1⟩ := hl z (List.mem_of_getElem? hz)
      obtain ⟨jz, rfl⟩ : ∃ j : Nat, z = (j : Int) := ⟨z.toNat, by omega⟩
      have hj1 : jz < xs.length := by omega
      have hj2 : jz < ds.length := by omega
      have rdt := deedF_rd hd (tx.take j) (rgI n) (fun l h => hl l (List.mem_of_mem_take h)) r0
      refine ⟨_, rfl, _, rfl, _, rfl, p, xs, jz, xs[jz], rfl, rfl, SqL.of (s2 _ _ h1), atI_nat (by simp [hj1]), _, _, _, ds[jz], n, rfl, t2, (h3 jz _ _ (by simp [hj1]) (by simp [hj2])).kt (KT.of s2), n1, rdt, hd _ (List.getElem_mem _), fun v' H4 s4 t4 => ?_⟩
      refine ⟨_, _, rfl, s2.trans s4, ?_⟩
      rw [map_take hz, deedF_snoc]
      have e : ds.getD ((jz : Int)).toNat [] = ds[jz] := by
        rw [List.getD_eq_getElem?_getD, show ((jz : Int)).toNat = jz from rfl, List.getElem?_eq_getElem hj2]
        rfl
      rw [e]
      exact t4
    · obtain ⟨v, o4, rfl, s2, t2⟩ := p
      rw [List.length_map, List.take_length] at t2
      exact ⟨_, rfl, k v _ s2 t2⟩
end
theorem sc__law_fits : FnScope ["_law_deeds", "_law_states", "_law_ends", "_law_text"] ["_law_deeds", "_law_states", "_law_ends", "_law_text"] (defScope s__law_fits) := ⟨rfl, rfl, rfl, by decide +kernel, rfl, by decide +kernel, by decide +kernel⟩
section
variable {P : Program} {w : World} {K : PySem.W.Frag} {mg : Str → Option Value} {base : Heap}
theorem ok__law_fits (D__law_fits : Dn K mg "_law_fits" s__law_fits ["_law_deeds", "_law_states", "_law_ends", "_law_text"]) (D__law_text_deed : Dn K mg "_law_text_deed" s__law_text_deed ["_law_deeds", "_law_states", "_law_text"]) (G__law_text_deed : FnOk P w K mg base CX0 2 D__law_text_deed.f D__law_text_deed.fd ["_law_deeds", "_law_states", "_law_text"] (sp__law_text_deed K)) (T : TB mg) : FnOk P w K mg base CX0 3 D__law_fits.f D__law_fits.fd ["_law_deeds", "_law_states", "_law_ends", "_law_text"] (sp__law_fits K) := by
  refine ok0 D__law_fits.F sc__law_fits (fun vs H Q E h => ?_) (fun cdv A outer s H vs Q E hr h => ?_)
  · obtain ⟨p, ev, tv, n, ds, en, tx, rfl, hp, he, ht, n0, n1, hd, hl, h0, k⟩ := h
    rfl
  · obtain ⟨p, ev, tv, n, ds, en, tx, rfl, hp, he, ht, n0, n1, hd, hl, h0, k⟩ := h
    refine ⟨_, (pss_one (ps_ret (pe_and (pe_cmpR op_gt (pe_callB call_len_seq (by rfl) T.len PySem.boot_len (pa_cons (pv 3) pa_nil)) pe_int (nomark _)) (pe_one (pe_cmpR op_in_seq (pe_ix ix_tup (pe_call G__law_text_deed (hr.mono (by decide)) (by rfl) D__law_text_deed.m D__law_text_deed.F.kp D__law_text_deed.b .nil pass0 (pa_cons (pv 0) (pa_cons (pv 1) (pa_cons (pv 3) pa_nil)))) (pe_ix ix_tup (pv 2) pe_int (fun _ _ => rfl)) (fun _ _ => rfl)) (pe_ix ix_tup (pv 2) pe_int (fun _ _ => rfl)) (by rfl)))))), ?_⟩
    obtain ⟨ae, ye, rfl, se, ⟨ag, rfl, sg⟩⟩ := he
    obtain ⟨at', eT, st⟩ := ht
    refine ⟨_, rfl, at', _, eT ▸ rfl, .inr st, _, _, rfl, rfl, ?_⟩
    have r0 : RD n n (rgI n) := ⟨by rw [rgI_len]; omega, fun i hi => rgI_in hi⟩
    have rdt := deedF_rd hd tx (rgI n) hl r0
    obtain ⟨u, u1, u2⟩ := at_int h0 rdt.1
    unfold fitsF at k
    rw [List.getD_eq_getElem?_getD, u1] at k
    refine ⟨decide (0 < tx.length), ?_, ite2 (fun c => ?_) (fun c => ?_)⟩
    · rw [List.length_map]
      refine congrArg V.bl ?_
      rw [Bool.eq_iff_iff, decide_eq_true_iff, decide_eq_true_iff]
      omega
    · rw [c] at k
      refine ⟨_, rfl, _, rfl, _, rfl, p, tv, n, ds, tx, rfl, hp, ⟨at', eT, st⟩, n0, n1, hd, hl, fun v H1 s1 t1 => ?_⟩
      obtain ⟨av, rfl, sv⟩ := t1
      refine ⟨_, rfl, ae, _, 0, _, rfl, rfl, SqT.same s1 se, rfl, av, _, en.1, _, rfl, rfl, sv, u2, ?_⟩
      exact ⟨_, rfl, ae, _, 1, _, rfl, rfl, SqT.same s1 se, rfl, ag, _, rfl, .inr (SqT.same s1 sg), rfl, flat_ints _, k _ s1⟩
    · have c : decide (0 < tx.length) = false := by
        cases h : decide (0 < tx.length) with
        | true => exact absurd h c
        | false => rfl
      rw [c] at k
      exact k _ (Same.refl _)
end
end My
set_option maxHeartbeats 4000000
namespace My
open PySem PySem.Spec PyProof.Rows L2 Lcn Sq
/-! ### sides filled -/
def onF (ts : List (List Int)) (s : Int) : List Int := if 0 ≤ s then [s] else ts.getD (-1 - s).toNat []
def filF (ss : List Int) (ts : List (List Int)) : List Int := ss.flatMap (onF ts)
theorem on_len {ts : List (List Int)} (h : ∀ t ∈ ts, t.length ≤ 1000) (s : Int) : (onF ts s).length ≤ 1000 := by
  unfold onF
  split
  · simp
  · rw [List.getD_eq_getElem?_getD]
    cases e : ts[(-1 - s).toNat]? with
    | none => simp
    | some t => exact h t (List.mem_of_getElem? e)
theorem fil_len {ts : List (List Int)} (h : ∀ t ∈ ts, t.length ≤ 1000) : ∀ ss : List Int, (filF ss ts).length ≤ ss.length * 1000
  | [] => by simp [filF]
  | s :: r => by
    have ih := fil_len h r
    have := on_len h s
    unfold filF at ih ⊢
    rw [List.flatMap_cons, List.length_append, List.length_cons, Nat.succ_mul]
    omega
theorem fil_snoc {ts : List (List Int)} {a : List Int} {s : Int} : filF (a ++ [s]) ts = filF a ts ++ onF ts s := by
  unfold filF
  rw [List.flatMap_append]
  simp
def sp__law_filled (K : PySem.W.Frag) : Sp := fun vs H Q _ => ∃ (sv tv : V) (ss : List Int) (ts : List (List Int)), vs = [sv, tv] ∧ IntsT K H sv ss ∧ SeqS K (IntsT K) H tv ts ∧ (∀ s ∈ ss, -1 - s < (ts.length : Int)) ∧ ss.length ≤ 1000 ∧ (∀ t ∈ ts, t.length ≤ 1000) ∧
  ∀ (v : V) (H' : Hp), Same H H' → IntsT K H' v (filF ss ts) → Q v H'
def hldF (ts : List (List Int)) (r : List Int × List Int) : Bool := decide (filF r.1 ts = filF r.2 ts)
def RowB (n : Nat) (r : List Int × List Int) : Prop := (∀ s ∈ r.1, -1 - s < (n : Int)) ∧ (∀ s ∈ r.2, -1 - s < (n : Int)) ∧ r.1.length ≤ 1000 ∧ r.2.length ≤ 1000
def sp__law_rows_hold (K : PySem.W.Frag) : Sp := fun vs H Q _ => ∃ (rv tv : V) (rs : List (List Int × List Int)) (ts : List (List Int)), vs = [rv, tv] ∧ SeqS K (RowT K) H rv rs ∧ SeqS K (IntsT K) H tv ts ∧ (∀ r ∈ rs, RowB ts.length r) ∧ (∀ t ∈ ts, t.length ≤ 1000) ∧
  ∀ (H' : Hp), Same H H' → Q (.bl (rs.all (hldF ts))) H'
theorem IntsT.same {K : PySem.W.Frag} {H H' : Hp} (e : Same H H') {v : V} {ns : List Int} (h : IntsT K H v ns) : IntsT K H' v ns := h.kt (KT.of e)
theorem seqI_same {K : PySem.W.Frag} {H H' : Hp} (e : Same H H') {v : V} {zs : List (List Int)} (h : SeqS K (IntsT K) H v zs) : SeqS K (IntsT K) H' v zs := h.same (fun _ _ h => h.same e) e
theorem sc__law_filled : FnScope ["_law_side_here", "_law_texts_here", "_law_told", "_law_sign"] ["_law_side_here", "_law_texts_here"] (defScope s__law_filled) := ⟨rfl, rfl, rfl, by decide +kernel, rfl, by decide +kernel, by decide +kernel⟩
section
variable {P : Program} {w : World} {K : PySem.W.Frag} {mg : Str → Option Value} {base : Heap}
theorem ok__law_filled (D__law_filled : Dn K mg "_law_filled" s__law_filled ["_law_side_here", "_law_texts_here"]) (T : TB mg) : FnOk P w K mg base CX0 1 D__law_filled.f D__law_filled.fd ["_law_side_here", "_law_texts_here"] (sp__law_filled K) := by
  refine ok0 D__law_filled.F sc__law_filled (fun vs H Q E h => ?_) (fun cdv A outer s H vs Q E hr h => ?_)
  · obtain ⟨sv, tv, ss, ts, rfl, hs, ht, hb, hl, hz, k⟩ := h
    rfl
  · obtain ⟨sv, tv, ss, ts, rfl, hs, ht, hb, hl, hz, k⟩ := h
    refine ⟨_, (pss_cons (ps_set (i := 2) sc__law_filled.nd rfl (by first | exact Or.inl rfl | exact Or.inr rfl) (pe_lst pa_nil))
  (pss_cons (ps_for PassesOwn.never rfl (pi_seq (pv 0)) (pg_name (i := 3) sc__law_filled.nd rfl (by first | exact Or.inl rfl | exact Or.inr rfl)) (pss_one (ps_if (pt_cmpR op_ge (pv 3) pe_int (nomark _)) (pss_one (ps_expr (pe_bm PySem.F.plainAttrs_list PySem.F.slot_list_append PySem.F.type_list_append mt_append (pv 2) (pa_cons (pv 3) pa_nil)))) (pss_one (ps_expr (pe_bm PySem.F.plainAttrs_list PySem.F.slot_list_extend PySem.F.type_list_extend mt_extT (pv 2) (pa_cons (pe_ix ix_seq (pv 1) (pe_op op_sub (pe_un un_neg pe_int) (pv 3)) (fun _ _ => rfl)) pa_nil)))))))
  (pss_one (ps_ret (pe_callTy call_tupR (by rfl) T.tuple_ (by decide +kernel) (pa_cons (pv 2) pa_nil)))))), ?_⟩
    obtain ⟨a, rfl, sa⟩ := hs
    obtain ⟨at', xs, rfl, st, lt, ft⟩ := ht
    refine ⟨(by show 0 ≤ sizeLine; decide), fun D hD => ?_⟩
    have sD : Same H (upd H D (.lst [])) := same_new hD
    refine seq_rd sD (fun _ q => ⟨_, rfl, q⟩) (.inr sa) fun J Gw w gw => ?_
    refine for_it w (fun j σ H' => ∃ o3 : Option V, σ = [some (.ref a), some (.ref at'), some (.ref D), o3] ∧ Same H H' ∧ H' D = some (.lst ((filF (ss.take j) ts).map V.int))) ⟨_, rfl, sD, upd_same⟩ (fun _ _ H' _ p => gw H' fun o h => by
      obtain ⟨_, _, s, _⟩ := p
      exact s _ o h) (fun j x σ H2 H3 hj p y => ?_) (fun σ H2 p => ?_)
    · obtain ⟨rfl, hx⟩ := y
      obtain ⟨o3, rfl, s2, d2⟩ := p
      obtain ⟨z, hz', rfl⟩ := map_at hx
      have len := fil_len hz (ss.take j)
      have hj' : j < ss.length := by rw [List.length_map] at hj; exact hj
      rw [List.length_take] at len
      have big : sizeLine = 16777216 := by decide
      refine ⟨_, rfl, _, _, rfl, rfl, _, rfl, ite2 (fun c => ?_) (fun c => ?_)⟩
      · refine ⟨_, rfl, .inl ⟨rfl, _, SqL.of d2⟩, _, rfl, D, _, _, rfl, rfl, d2, by rw [List.length_map]; omega, ?_⟩
        refine ⟨_, rfl, same_upd s2 hD, ?_⟩
        rw [map_take hz', fil_snoc, upd_same, snoc_int]
        unfold onF
        rw [if_pos (of_decide_eq_true c)]
      · have c : ¬ 0 ≤ z := fun h => c (decide_eq_true h)
        have hb' := hb z (List.mem_of_getElem? hz')
        obtain ⟨jz, hjz⟩ : ∃ j : Nat, -1 - z = (j : Int) := ⟨(-1 - z).toNat, by omega⟩
        have hj1 : jz < xs.length := by omega
        have hj2 : jz < ts.length := by omega
        obtain ⟨b, hb1, hb2⟩ := (ft jz _ _ (List.getElem?_eq_getElem hj1) (List.getElem?_eq_getElem hj2)).same s2
        have lz := hz _ (List.getElem_mem hj2)
        refine ⟨_, rfl, .inl ⟨rfl, _, SqL.of d2⟩, _, rfl, _, rfl, _, rfl, _, _, rfl, rfl, ix_sqn (st.same s2) (v := xs[jz]) (by
          show atI xs (-1 - z) = _
          rw [hjz]
          exact atI_nat (by simp [hj1])) ⟨D, b, _, _, rfl, by rw [hb1], d2, hb2, by rw [List.length_map, List.length_map]; omega, ?_⟩⟩
        refine ⟨_, rfl, same_upd s2 hD, ?_⟩
        rw [map_take hz', fil_snoc, upd_same]
        unfold onF
        rw [if_neg c, hjz, List.getD_eq_getElem?_getD, show ((jz : Int)).toNat = jz from rfl, List.getElem?_eq_getElem hj2, List.map_append]
        rfl
    · obtain ⟨o3, rfl, s2, d2⟩ := p
      rw [List.length_map, List.take_length] at d2
      exact ⟨_, rfl, rd_tup (.inl (SqL.of d2)) fun b H3 s3 t3 => k _ _ (s2.trans s3) ⟨b, rfl, t3⟩⟩
end
theorem sc__law_rows_hold : FnScope ["_law_rows", "_law_texts_here", "_law_left", "_law_right"] ["_law_rows", "_law_texts_here"] (defScope s__law_rows_hold) := ⟨rfl, rfl, rfl, by decide +kernel, rfl, by decide +kernel, by decide +kernel⟩
section
variable {P : Program} {w : World} {K : PySem.W.Frag} {mg : Str → Option Value} {base : Heap}
theorem ok__law_rows_hold (D__law_rows_hold : Dn K mg "_law_rows_hold" s__law_rows_hold ["_law_rows", "_law_texts_here"]) (D__law_filled : Dn K mg "_law_filled" s__law_filled ["_law_side_here", "_law_texts_here"]) (G__law_filled : FnOk P w K mg base CX0 1 D__law_filled.f D__law_filled.fd ["_law_side_here", "_law_texts_here"] (sp__law_filled K)) (T : TB mg) : FnOk P w K mg base CX0 2 D__law_rows_hold.f D__law_rows_hold.fd ["_law_rows", "_law_texts_here"] (sp__law_rows_hold K) := by
  refine ok0 D__law_rows_hold.F sc__law_rows_hold (fun vs H Q E h => ?_) (fun cdv A outer s H vs Q E hr h => ?_)
  · obtain ⟨rv, tv, rs, ts, rfl, hr1, ht, hb, hz, k⟩ := h
    rfl
  · obtain ⟨rv, tv, rs, ts, rfl, hr1, ht, hb, hz, k⟩ := h
    refine ⟨_, (pss_cons (ps_for PassesOwn.never rfl (pi_seq (pv 0)) (pg_tup (n := 2) rfl (pgs_cons (pg_name (i := 2) sc__law_rows_hold.nd rfl (by first | exact Or.inl rfl | exact Or.inr rfl)) (pgs_cons (pg_name (i := 3) sc__law_rows_hold.nd rfl (by first | exact Or.inl rfl | exact Or.inr rfl)) pgs_nil))) (pss_one (ps_if (pt_cmpR (op_neD hr.units) (pe_call G__law_filled (hr.mono (by decide)) (by rfl) D__law_filled.m D__law_filled.F.kp D__law_filled.b .nil pass0 (pa_cons (pv 2) (pa_cons (pv 1) pa_nil))) (pe_call G__law_filled (hr.mono (by decide)) (by rfl) D__law_filled.m D__law_filled.F.kp D__law_filled.b .nil pass0 (pa_cons (pv 3) (pa_cons (pv 1) pa_nil))) (nomark _)) (pss_one (ps_ret pe_bl)) pss_nil)))
  (pss_one (ps_ret pe_bl))), ?_⟩
    obtain ⟨a, xs, rfl, sa, la, fa⟩ := hr1
    refine seq_rd (Same.refl _) (fun _ q => ⟨_, rfl, q⟩) sa fun J Gw w gw => ?_
    refine for_it w (fun j σ H' => ∃ o2 o3 : Option V, σ = [some (.ref a), some tv, o2, o3] ∧ Same H H' ∧ (rs.take j).all (hldF ts) = true) ⟨_, _, rfl, Same.refl _, rfl⟩ (fun _ _ H' _ p => gw H' fun o h => by
      obtain ⟨_, _, _, s, _⟩ := p
      exact s _ o h) (fun j x σ H2 H3 hj p y => ?_) (fun σ H2 p => ?_)
    · obtain ⟨rfl, hx⟩ := y
      obtain ⟨o2, o3, rfl, s2, d2⟩ := p
      obtain ⟨r, hr2⟩ := seq_at la hx
      obtain ⟨b1, b2, b3, b4⟩ := hb r (List.mem_of_getElem? hr2)
      obtain ⟨ar, x1, y1, rfl, hrow, hx1, hy1⟩ := (fa j x r hx hr2).kt (KT.of s2)
      refine ⟨ar, _, rfl, hrow, rfl, _, _, rfl, _, _, rfl, rfl, ?_⟩
      refine ⟨_, rfl, _, rfl, x1, tv, r.1, ts, rfl, hx1, seqI_same s2 ht, b1, b3, hz, fun v1 H4 s4 t4 => ?_⟩
      refine ⟨_, rfl, _, rfl, y1, tv, r.2, ts, rfl, hy1.same s4, seqI_same (s2.trans s4) ht, b2, b4, hz, fun v2 H5 s5 t5 => ?_⟩
      have l1 := fil_len hz r.1
      have l2 := fil_len hz r.2
      have big : sizeLine = 16777216 := by decide
      refine ⟨iD (filF r.1 ts), iD (filF r.2 ts), dp_ints (t4.same s5), dp_ints t5, shaped_iD _ (by omega), shaped_iD _ (by omega), _, rfl, ?_⟩
      rw [eqv_iD]
      refine ite2 (fun c => ?_) (fun c => ?_)
      · have e : rs.all (hldF ts) = false := by
          rw [List.all_eq_false]
          refine ⟨r, List.mem_of_getElem? hr2, ?_⟩
          unfold hldF
          intro z
          rw [z] at c
          cases c
        have q := k H5 (s2.trans (s4.trans s5))
        rw [e] at q
        exact q
      · refine ⟨_, _, rfl, s2.trans (s4.trans s5), ?_⟩
        obtain ⟨p, e⟩ := List.getElem?_eq_some_iff.mp hr2
        rw [List.take_succ_eq_append_getElem p, List.all_append, d2, e]
        simp only [List.all_cons, List.all_nil, Bool.and_true, Bool.true_and]
        unfold hldF
        cases h : decide (filF r.1 ts = filF r.2 ts) with
        | true => rfl
        | false =>
          rw [h] at c
          exact absurd rfl c
    · obtain ⟨o2, o3, rfl, s2, d2⟩ := p
      rw [la, List.take_length] at d2
      have q := k H2 s2
      rw [d2] at q
      exact q
end
end My
set_option maxHeartbeats 4000000
namespace My
open PySem PySem.Spec PyProof.Rows L2 Lcn Sq
/-! ### [x for x in xs if p x] -/
section
variable {K : PySem.W.Frag}
theorem lc_fil {α : Type} {R : Hp → V → α → Prop} (m : ∀ H H' v z, KT H H' → R H v z → R H' v z) {p : α → Bool} {J : It} {xs : List V} {zs : List α} {Gw : Hp → Prop} (w : Walk J xs.length Gw (YIs fun i x => xs[i]? = some x)) (hn : xs.length < sizeLine) (l : xs.length = zs.length)
    {tt : TT} {k : Nat} {vs : List Nat} {σ : L2.St} {H1 : Hp} {D : Addr} {Qd : Hp → Prop} (f : ∀ (i : Nat) (x : V) (z : α), xs[i]? = some x → zs[i]? = some z → R H1 x z) (hD : H1 D = none) (hGw : ∀ H', Same H1 H' → Gw H')
    (hk : ∀ x, ((wipe σ vs).set k (some x))[k]? = some (some x)) (hw : ∀ x, wipe ((wipe σ vs).set k (some x)) vs = wipe σ vs)
    (hs : ∀ (i : Nat) (x : V) (z : α) (H' : Hp) (Q : Bool → Hp → Prop), xs[i]? = some x → zs[i]? = some z → Same H1 H' → (∀ H'', Same H' H'' → Q (p z) H'') → tt ((wipe σ vs).set k (some x)) H' Q)
    (hd : ∀ H', Same H1 H' → LstR K R H' D (zs.filter p) → Qd H') :
    ∃ W : Nat → Nat → Hp → Prop, (∃ m, W 0 m (upd H1 D (.lst []))) ∧ ∀ i m H, W i m H →
      (J.stop i H ∧ Qd H) ∨ (J.go i H ∧ ∃ Nx : Hp → Prop, (∀ H', Nx H' → ∃ m', m' < m ∧ W (i + 1) m' H') ∧ ∀ x H', J.yld i H x H' → gName k x (wipe σ vs) H' fun σ2 H2 => wipe σ2 vs = wipe σ vs ∧ tt σ2 H2 fun b H3 =>
        if b = true then tVar k σ2 H3 fun y H4 => ∃ acc, H4 D = some (.lst acc) ∧ acc.length < sizeLine ∧ Nx (upd H4 D (.lst (acc ++ [y]))) else Nx H3) := by
  refine lc_it w (fun i H => Same H1 H ∧ LstR K R H D ((zs.take i).filter p)) ⟨same_new hD, lst_nil⟩ (fun i H _ q => hGw H q.1) (fun i x H H' hi q y => ?_) (fun H q => hd H q.1 (by
    have e : zs.take xs.length = zs := by rw [l, List.take_length]
    rw [← e]
    exact q.2))
  obtain ⟨e, hx⟩ := y
  subst e
  obtain ⟨s1, ys, d1, d2, d3⟩ := q
  obtain ⟨z, hz⟩ := seq_at l hx
  have tk : zs.take (i + 1) = zs.take i ++ [z] := by
    obtain ⟨pz, ez⟩ := List.getElem?_eq_some_iff.mp hz
    rw [List.take_succ_eq_append_getElem pz, ez]
  have ln : ((zs.take i).filter p).length ≤ i := Nat.le_trans (List.length_filter_le _ _) (by rw [List.length_take]; omega)
  refine ⟨hw x, hs i x z H' _ hx hz s1 fun H3 s3 => ?_⟩
  have s13 := s1.trans s3
  refine ite2 (fun c => ?_) (fun c => ?_)
  · refine ⟨x, hk x, ys, s3 _ _ d1, by omega, same_upd s13 hD, ?_⟩
    rw [tk, List.filter_append, List.filter_cons, if_pos c, List.filter_nil]
    exact lst_snoc m (s3 _ _ d1) d2 (fun i x z h1 h2 => m _ _ _ _ (KT.of s3) (d3 i x z h1 h2)) (m _ _ _ _ (KT.of s13) (f i x z hx hz))
  · refine ⟨s13, ?_⟩
    rw [tk, List.filter_append, List.filter_cons, if_neg c, List.filter_nil, List.append_nil]
    exact LstR.same m s3 ⟨ys, d1, d2, d3⟩
theorem lst_snoc2 {α : Type} {R : Hp → V → α → Prop} {H : Hp} {p : Addr} {zs : List α} {xs : List V} {y : V} {z : α} (m : ∀ v z, R H v z → R (upd H p (.lst (xs ++ [y]))) v z) (l : xs.length = zs.length) (f : ∀ (i : Nat) (x : V) (z : α), xs[i]? = some x → zs[i]? = some z → R H x z) (hy : R H y z) : LstR K R (upd H p (.lst (xs ++ [y]))) p (zs ++ [z]) := by
  refine ⟨xs ++ [y], upd_same, by simp [l], fun i x t hx ht => ?_⟩
  rcases Nat.lt_or_ge i xs.length with lt | ge
  · rw [List.getElem?_append_left lt] at hx
    rw [List.getElem?_append_left (by omega)] at ht
    exact m _ _ (f i x t hx ht)
  · rw [List.getElem?_append_right ge] at hx
    rw [List.getElem?_append_right (by omega), ← l] at ht
    cases e : i - xs.length with
    | zero =>
      rw [e] at hx ht
      cases hx
      cases ht
      exact m _ _ hy
    | succ j =>
      rw [e] at hx
      cases hx
end
/-! ### fillings -/
def lisF (ds : List (List Int)) (n : Int) (m : Nat) (e : Int × List Int) : List (List Int) := (texF ds.length m).filter (fitsF ds n e)
def stepF (told : List (List (List Int))) (ts : List (List Int)) : List (List (List Int)) := told.flatMap fun had => ts.map fun t => had ++ [t]
def comF (ls : List (List (List Int))) : List (List (List Int)) := ls.foldl stepF [[]]
def fllF (rs : List (List Int × List Int)) (ds : List (List Int)) (es : List (Int × List Int)) (n : Int) (m : Nat) : List (List (List Int)) := (comF (es.map (lisF ds n m))).filter fun had => rs.all (hldF had)
theorem com_snoc {ls : List (List (List Int))} {x : List (List Int)} : comF (ls ++ [x]) = stepF (comF ls) x := by
  unfold comF
  rw [List.foldl_append]
  rfl
theorem step_len {told : List (List (List Int))} {ts : List (List Int)} : (stepF told ts).length = told.length * ts.length := by
  unfold stepF
  induction told with
  | nil => simp
  | cons x r ih =>
    rw [List.flatMap_cons, List.length_append, List.length_map, ih, List.length_cons, Nat.succ_mul]
    omega
theorem lay_in {l : Int} : ∀ k z, z ∈ layF l k → ∀ i ∈ z, InR l i
  | 0, z, h => by
    have e : z = [] := by simpa [layF] using h
    subst e
    simp
  | k + 1, z, h => by
    obtain ⟨t, ht, hz⟩ := List.mem_flatMap.mp h
    obtain ⟨c, hc, rfl⟩ := List.mem_map.mp hz
    intro i hi
    rcases List.mem_append.mp hi with h | h
    · exact lay_in k t ht i h
    · rw [List.mem_singleton.mp h]
      exact rgI_in hc
theorem tex_in {l : Int} : ∀ k z, z ∈ texF l k → (∀ i ∈ z, InR l i) ∧ 0 < z.length ∧ z.length ≤ k
  | 0, z, h => by simp [texF] at h
  | k + 1, z, h => by
    rcases List.mem_append.mp h with h | h
    · obtain ⟨a, b, c⟩ := tex_in k z h
      exact ⟨a, b, by omega⟩
    · have := lay_len (k + 1) z h
      exact ⟨lay_in (k + 1) z h, by omega, by omega⟩
theorem lis_in {ds : List (List Int)} {n : Int} {m : Nat} {e : Int × List Int} {z : List Int} (h : z ∈ lisF ds n m e) : (∀ i ∈ z, InR ds.length i) ∧ 0 < z.length ∧ z.length ≤ m := tex_in m z (List.mem_filter.mp h).1
theorem lis_len {ds : List (List Int)} {n : Int} {m : Nat} {e : Int × List Int} (hd : ds.length ≤ 3) (hm : m ≤ 3) : (lisF ds n m e).length ≤ 39 := by
  have a := List.length_filter_le (fitsF ds n e) (texF ds.length m)
  have b := (tex_le (l := ds.length) (by omega) (by omega) m hm).1
  unfold lisF
  omega
theorem rev_ind {α : Type} {P : List α → Prop} (h0 : P []) (hs : ∀ l x, P l → P (l ++ [x])) (l : List α) : P l := by
  have : ∀ l : List α, P l.reverse := by
    intro l
    induction l with
    | nil => exact h0
    | cons x r ih =>
      rw [List.reverse_cons]
      exact hs _ _ ih
  rw [← List.reverse_reverse l]
  exact this _
/-- each combination has a text of each list -/
theorem com_in : ∀ (ls : List (List (List Int))) (had : List (List Int)), had ∈ comF ls → had.length = ls.length ∧ ∀ (i : Nat) t, had[i]? = some t → ∃ ts, ls[i]? = some ts ∧ t ∈ ts := by
  refine rev_ind (fun had h => ?_) (fun ls x ih had h => ?_)
  · have e : had = [] := by simpa [comF] using h
    subst e
    exact ⟨rfl, by simp⟩
  ·
    rw [com_snoc] at h
    obtain ⟨h0, h1, h2⟩ := List.mem_flatMap.mp h
    obtain ⟨t, ht, rfl⟩ := List.mem_map.mp h2
    obtain ⟨l1, l2⟩ := ih h0 h1
    refine ⟨by simp [l1], fun i u hu => ?_⟩
    rcases Nat.lt_or_ge i h0.length with lt | ge
    · rw [List.getElem?_append_left lt] at hu
      obtain ⟨ts, q1, q2⟩ := l2 i u hu
      exact ⟨ts, by rw [List.getElem?_append_left (by omega)]; exact q1, q2⟩
    · rw [List.getElem?_append_right ge] at hu
      cases e : i - h0.length with
      | zero =>
        rw [e] at hu
        cases hu
        exact ⟨x, by rw [List.getElem?_append_right (by omega), ← l1, e]; rfl, ht⟩
      | succ j =>
        rw [e] at hu
        cases hu
theorem com_len : ∀ (ls : List (List (List Int))), (∀ ts ∈ ls, ts.length ≤ 39) → (comF ls).length ≤ 39 ^ ls.length := by
  refine rev_ind (by simp [comF]) (fun ls x ih h => ?_)
  ·
    have i1 := ih fun ts ht => h ts (List.mem_append_left _ ht)
    have i2 := h x (by simp)
    rw [com_snoc, step_len, List.length_append]
    show _ ≤ 39 ^ (ls.length + 1)
    rw [Nat.pow_succ]
    exact Nat.mul_le_mul i1 i2
def sp__law_fillings (K : PySem.W.Frag) : Sp := fun vs H Q _ => ∃ (rv ev : V) (p : Addr) (n : Int) (m : Nat) (rs : List (List Int × List Int)) (ds : List (List Int)) (es : List (Int × List Int)), vs = [rv, .ref p, ev, .int n, .int m] ∧ SeqS K (RowT K) H rv rs ∧ LstR K (IntsT K) H p ds ∧ SeqS K (EndT K) H ev es ∧
  0 < n ∧ n < 1000 ∧ m ≤ 3 ∧ ds.length ≤ 3 ∧ es.length ≤ 2 ∧ (∀ d ∈ ds, RD n n d) ∧ (∀ e ∈ es, InR n e.1) ∧ (∀ r ∈ rs, RowB es.length r) ∧
  ∀ (q : Addr) (H' : Hp), Same H H' → H q = none → LstR K (SeqT K (IntsT K)) H' q (fllF rs ds es n m) → Q (.ref q) H'
theorem kSI {K : PySem.W.Frag} : ∀ (H H' : Hp) (v : V) (z : List (List Int)), KT H H' → SeqT K (IntsT K) H v z → SeqT K (IntsT K) H' v z := fun _ _ _ _ k h => h.kt (fun _ _ h => h.kt k) k
theorem kIK {K : PySem.W.Frag} : ∀ (H H' : Hp) (v : V) (z : List Int), KT H H' → IntsT K H v z → IntsT K H' v z := fun _ _ _ _ k h => h.kt k
/-- a list of texts at another place than D -/
def LsA (K : PySem.W.Frag) (D : Addr) (H : Hp) (v : V) (ts : List (List Int)) : Prop := ∃ b, v = .ref b ∧ b ≠ D ∧ LstR K (IntsT K) H b ts
theorem LsA.same {K : PySem.W.Frag} {D : Addr} {H H' : Hp} (e : Same H H') {v : V} {ts : List (List Int)} (h : LsA K D H v ts) : LsA K D H' v ts := by
  obtain ⟨b, r, n, h⟩ := h
  exact ⟨b, r, n, h.same kIK e⟩
theorem sc__law_fillings : FnScope ["_law_rows", "_law_deeds", "_law_ends", "_law_states", "_law_most", "_law_lists", "_law_one", "_law_told", "_law_texts_here", "_law_more", "_law_had", "_law_text"] ["_law_rows", "_law_deeds", "_law_ends", "_law_states", "_law_most"] (defScope s__law_fillings) := ⟨rfl, rfl, rfl, by decide +kernel, rfl, by decide +kernel, by decide +kernel⟩
section
variable {P : Program} {w : World} {K : PySem.W.Frag} {mg : Str → Option Value} {base : Heap}
theorem ok__law_fillings (D__law_fillings : Dn K mg "_law_fillings" s__law_fillings ["_law_rows", "_law_deeds", "_law_ends", "_law_states", "_law_most"]) (D__law_rows_hold : Dn K mg "_law_rows_hold" s__law_rows_hold ["_law_rows", "_law_texts_here"]) (G__law_rows_hold : FnOk P w K mg base CX0 2 D__law_rows_hold.f D__law_rows_hold.fd ["_law_rows", "_law_texts_here"] (sp__law_rows_hold K)) (D__law_texts : Dn K mg "_law_texts" s__law_texts ["_law_letters", "_law_most"]) (G__law_texts : FnOk P w K mg base CX0 1 D__law_texts.f D__law_texts.fd ["_law_letters", "_law_most"] (sp__law_texts K)) (D__law_fits : Dn K mg "_law_fits" s__law_fits ["_law_deeds", "_law_states", "_law_ends", "_law_text"]) (G__law_fits : FnOk P w K mg base CX0 3 D__law_fits.f D__law_fits.fd ["_law_deeds", "_law_states", "_law_ends", "_law_text"] (sp__law_fits K)) (T : TB mg) : FnOk P w K mg base CX0 4 D__law_fillings.f D__law_fillings.fd ["_law_rows", "_law_deeds", "_law_ends", "_law_states", "_law_most"] (sp__law_fillings K) := by
  refine ok0 D__law_fillings.F sc__law_fillings (fun vs H Q E h => ?_) (fun cdv A outer s H vs Q E hr h => ?_)
  · obtain ⟨rv, ev, p, n, m, rs, ds, es, rfl, hrs, hds, hes, n0, n1, m3, d3, e2, hd, he, hb, k⟩ := h
    rfl
  · obtain ⟨rv, ev, p, n, m, rs, ds, es, rfl, hrs, hds, hes, n0, n1, m3, d3, e2, hd, he, hb, k⟩ := h
    refine ⟨_, (pss_cons (ps_set (i := 5) sc__law_fillings.nd rfl (by first | exact Or.inl rfl | exact Or.inr rfl) (pe_lst pa_nil))
  (pss_cons (ps_for PassesOwn.never rfl (pi_seq (pv 2)) (pg_name (i := 6) sc__law_fillings.nd rfl (by first | exact Or.inl rfl | exact Or.inr rfl)) (pss_one (ps_expr (pe_bm PySem.F.plainAttrs_list PySem.F.slot_list_append PySem.F.type_list_append mt_append (pv 5) (pa_cons (pe_lc (own := [(("_law_text" : Str), 11)]) rfl sc__law_fillings.nd (pi_list (pe_call G__law_texts (hr.mono (by decide)) (by rfl) D__law_texts.m D__law_texts.F.kp D__law_texts.b .nil pass0 (pa_cons (pe_callB call_len_seq (by rfl) T.len PySem.boot_len (pa_cons (pv 1) pa_nil)) (pa_cons (pv 4) pa_nil)))) (blkOk_by (own := [(("_law_text" : Str), 11)]) (N := ["_law_rows", "_law_deeds", "_law_ends", "_law_states", "_law_most", "_law_lists", "_law_one", "_law_told", "_law_texts_here", "_law_more", "_law_had", "_law_text"]) (sc := defScope s__law_fillings) (by decide +kernel)) (fun _ _ _ _ _ => (pg_name (i := 11) sc__law_fillings.nd rfl (Or.inl rfl))) (fun _ _ _ _ _ => (pts_one (pt_val (pe_call G__law_fits (hr.mono (by decide)) (by rfl) D__law_fits.m D__law_fits.F.kp D__law_fits.b .nil pass0 (pa_cons (pv 1) (pa_cons (pv 3) (pa_cons (pv 6) (pa_cons (pv 11) pa_nil)))))))) (fun _ _ _ _ _ => (pv 11))) pa_nil)))))
  (pss_cons (ps_set (i := 7) sc__law_fillings.nd rfl (by first | exact Or.inl rfl | exact Or.inr rfl) (pe_lst (pa_cons (pe_tup pa_nil) pa_nil)))
  (pss_cons (ps_for PassesOwn.never rfl (pi_list (pv 5)) (pg_name (i := 8) sc__law_fillings.nd rfl (by first | exact Or.inl rfl | exact Or.inr rfl)) (pss_cons (ps_set (i := 9) sc__law_fillings.nd rfl (by first | exact Or.inl rfl | exact Or.inr rfl) (pe_lst pa_nil))
  (pss_cons (ps_for PassesOwn.never rfl (pi_list (pe_callTy call_list_of (by rfl) T.list_ (by decide +kernel) (pa_cons (pv 7) pa_nil))) (pg_name (i := 10) sc__law_fillings.nd rfl (by first | exact Or.inl rfl | exact Or.inr rfl)) (pss_one (ps_expr (pe_bm PySem.F.plainAttrs_list PySem.F.slot_list_extend PySem.F.type_list_extend mt_extend (pv 9) (pa_cons (pe_lc (own := [(("_law_text" : Str), 11)]) rfl sc__law_fillings.nd (pi_list (pv 8)) (blkOk_by (own := [(("_law_text" : Str), 11)]) (N := ["_law_rows", "_law_deeds", "_law_ends", "_law_states", "_law_most", "_law_lists", "_law_one", "_law_told", "_law_texts_here", "_law_more", "_law_had", "_law_text"]) (sc := defScope s__law_fillings) (by decide +kernel)) (fun _ _ _ _ _ => (pg_name (i := 11) sc__law_fillings.nd rfl (Or.inl rfl))) (fun _ _ _ _ _ => pts_nil) (fun _ _ _ _ _ => (pe_op (op_catAK (K := K) rfl) (pv 10) (pe_tup (pa_cons (pv 11) pa_nil))))) pa_nil)))))
  (pss_one (ps_set (i := 7) sc__law_fillings.nd rfl (by first | exact Or.inl rfl | exact Or.inr rfl) (pv 9))))))
  (pss_one (ps_ret (pe_lc (own := [(("_law_had" : Str), 10)]) rfl sc__law_fillings.nd (pi_list (pv 7)) (blkOk_by (own := [(("_law_had" : Str), 10)]) (N := ["_law_rows", "_law_deeds", "_law_ends", "_law_states", "_law_most", "_law_lists", "_law_one", "_law_told", "_law_texts_here", "_law_more", "_law_had", "_law_text"]) (sc := defScope s__law_fillings) (by decide +kernel)) (fun _ _ _ _ _ => (pg_name (i := 10) sc__law_fillings.nd rfl (Or.inl rfl))) (fun _ _ _ _ _ => (pts_one (pt_val (pe_call G__law_rows_hold (hr.mono (by decide)) (by rfl) D__law_rows_hold.m D__law_rows_hold.F.kp D__law_rows_hold.b .nil pass0 (pa_cons (pv 0) (pa_cons (pv 10) pa_nil)))))) (fun _ _ _ _ _ => (pv 10))))))))), ?_⟩
    obtain ⟨ae, xe, rfl, se, le, fe⟩ := hes
    obtain ⟨xs, g1, g2, g3⟩ := hds
    have hds : LstR K (IntsT K) H p ds := ⟨xs, g1, g2, g3⟩
    have big : sizeLine = 16777216 := by decide
    refine ⟨(by show 0 ≤ sizeLine; decide), fun D hD => ?_⟩
    have sD : Same H (upd H D (.lst [])) := same_new hD
    refine seq_rd sD (fun _ q => ⟨_, rfl, q⟩) se fun J Gw w gw => ?_
    refine for_it w (fun j σ H' => ∃ o6 o7 o8 o9 o10 o11 : Option V, σ = [some rv, some (.ref p), some (.ref ae), some (.int n), some (.int m), some (.ref D), o6, o7, o8, o9, o10, o11] ∧ Same H H' ∧ LstR K (LsA K D) H' D ((es.take j).map (lisF ds n m))) ⟨_, _, _, _, _, _, rfl, sD, lst_nil⟩ (fun _ _ H' _ p => gw H' fun o h => by
      obtain ⟨_, _, _, _, _, _, _, s, _⟩ := p
      exact s _ o h) (fun j x σ H2 H3 hj p y => ?_) (fun σ H2 p => ?_)
    · obtain ⟨rfl, hx⟩ := y
      obtain ⟨o6, o7, o8, o9, o10, o11, rfl, s2, xD, d1, d2, df⟩ := p
      obtain ⟨en, hen⟩ := seq_at le hx
      have hj2 : j < 2 := by omega
      refine ⟨_, rfl, .inl ⟨rfl, _, SqL.of d1⟩, _, rfl, p, xs, rfl, .inl (SqL.of (s2 _ _ g1)), _, rfl, ds.length, m, ?_, by omega, by omega, m3, fun q H3 s3 hq ht => ?_⟩
      · rw [g2]
        rfl
      obtain ⟨ys, t1, t2, t3⟩ := ht
      have s23 := s2.trans s3
      refine ⟨q, rfl, ⟨_, SqL.of t1⟩, fun D2 hD2 => ?_⟩
      have tb := tex_le (l := ds.length) (by omega) (by omega) m m3
      refine lc_fil (K := K) (p := fitsF ds n en) kIK walk_at_list (by omega) t2 t3 hD2 (fun H' e => SqL.of (e _ _ t1)) (fun _ => rfl) (fun _ => rfl) (fun i x' z H' Q' hx' hz e q' => ?_) (fun H4 e hl => ?_)
      · obtain ⟨z1, z2, z3⟩ := tex_in m z (List.mem_of_getElem? hz)
        exact ⟨_, rfl, _, rfl, _, rfl, _, rfl, p, x, x', n, ds, en, z, rfl, hds.same kIK (s23.trans e), (fe j x en hx hen).kt (KT.of (s23.trans e)), (t3 i x' z hx' hz).same e, n0, n1, hd, z1, he en (List.mem_of_getElem? hen), fun H'' s'' => ⟨_, rfl, q' H'' s''⟩⟩
      · have s34 := s3.trans e
        have nD2 : D2 ≠ D := fun z => by
          rw [z] at hD2
          have := s3 _ _ d1
          rw [hD2] at this
          cases this
        refine ⟨D, _, _, rfl, rfl, s34 _ _ d1, by rw [d2, List.length_map, List.length_take]; omega, ?_⟩
        refine ⟨_, _, _, _, _, _, rfl, same_upd (s2.trans s34) hD, ?_⟩
        have tk : (es.take (j + 1)).map (lisF ds n m) = (es.take j).map (lisF ds n m) ++ [lisF ds n m en] := by
          obtain ⟨pz, ez⟩ := List.getElem?_eq_some_iff.mp hen
          rw [List.take_succ_eq_append_getElem pz, ez, List.map_append]
          rfl
        rw [tk]
        refine lst_snoc2 (fun v z h => ?_) d2 (fun i x z h1 h2 => (df i x z h1 h2).same s34) ⟨D2, rfl, nD2, hl⟩
        obtain ⟨b, rfl, nb, ys', b1, b2, b3⟩ := h
        exact ⟨b, rfl, nb, ys', by rw [upd_ne nb]; exact b1, b2, fun i x z hx hz => (b3 i x z hx hz).kt (KT.lst (s34 _ _ d1))⟩
    · obtain ⟨o6, o7, o8, o9, o10, o11, rfl, s2, h2⟩ := p
      rw [le, List.take_length] at h2
      obtain ⟨xD, d1, d2, df⟩ := h2
      refine ⟨(by show 0 ≤ sizeLine; decide), fun t ht => ⟨(by show 1 ≤ sizeLine; decide), fun Y hY => ?_⟩⟩
      have sY : Same H2 (upd (upd H2 t (.tup [])) Y (.lst [.ref t])) := (same_new ht).trans (same_new hY)
      refine ⟨_, rfl, D, rfl, ⟨_, SqL.of (sY _ _ d1)⟩, ?_⟩
      refine for_it (walk_at_list (K := K) (a := D) (xs := xD)) (fun j σ H' => ∃ (o6 o8 o9 o10 o11 : Option V) (Y : Addr), σ = [some rv, some (.ref p), some (.ref ae), some (.int n), some (.int m), some (.ref D), o6, some (.ref Y), o8, o9, o10, o11] ∧ Same H2 H' ∧ H2 Y = none ∧ LstR K (SeqT K (IntsT K)) H' Y (comF ((es.map (lisF ds n m)).take j))) ⟨_, _, _, _, _, Y, rfl, sY, ?_, [.ref t], upd_same, rfl, fun i x z hx hz => ?_⟩ (fun _ _ H' _ p => by
        obtain ⟨_, _, _, _, _, _, _, s, _⟩ := p
        exact SqL.of (s _ _ d1)) (fun j x σ H3 H4 hj p y => ?_) (fun σ H3 p => ?_)
      · cases e : H2 Y with
        | none => rfl
        | some o =>
          have := same_new (o := .tup []) ht _ _ e
          rw [hY] at this
          cases this
      · cases i with
        | zero =>
          cases hx
          cases hz
          exact ⟨t, [], rfl, SqT.same (same_new hY) (SqT.of upd_same), rfl, by simp⟩
        | succ j => cases hx
      · obtain ⟨rfl, hx⟩ := y
        obtain ⟨o6, o8, o9, o10, o11, Y, rfl, s3, hY0, xY, y1, y2, yf⟩ := p
        obtain ⟨ts, hts⟩ := seq_at d2 hx
        obtain ⟨b, rfl, nb, xb, b1, b2, b3⟩ := (df j x ts hx hts).same s3
        obtain ⟨en, hen, rfl⟩ : ∃ en, es[j]? = some en ∧ lisF ds n m en = ts := by
          rw [List.getElem?_map] at hts
          obtain ⟨en, h1, h2⟩ := Option.map_eq_some_iff.mp hts
          exact ⟨en, h1, h2⟩
        have hj2 : j < 2 := by
          have := (List.getElem?_eq_some_iff.mp hen).1
          omega
        have lts : (lisF ds n m en).length ≤ 39 := lis_len d3 m3
        have lcom : (comF ((es.map (lisF ds n m)).take j)).length ≤ 39 ^ 2 := by
          refine Nat.le_trans (com_len _ fun ts h => ?_) (Nat.pow_le_pow_right (by decide) (by rw [List.length_take]; omega))
          obtain ⟨e', _, rfl⟩ := List.mem_map.mp (List.mem_of_mem_take h)
          exact lis_len d3 m3
        refine ⟨(by show 0 ≤ sizeLine; decide), fun M hM => ?_⟩
        have sM : Same H4 (upd H4 M (.lst [])) := same_new hM
        have nMY : M ≠ Y := fun z => by rw [z, y1] at hM; cases hM
        have nMb : M ≠ b := fun z => by rw [z, b1] at hM; cases hM
        have hM0 : H2 M = none := s3.free hM
        refine ⟨_, rfl, Y, xY, rfl, .inl (SqL.of (sM _ _ y1)), fun q hq => ⟨q, rfl, ⟨_, SqL.of upd_same⟩, ?_⟩⟩
        have sq : Same (upd H4 M (.lst [])) (upd (upd H4 M (.lst [])) q (.lst xY)) := same_new hq
        have nqM : q ≠ M := fun z => by rw [z, upd_same] at hq; cases hq
        refine for_it (walk_at_list (K := K) (a := q) (xs := xY)) (fun i σ H' => ∃ (o6 o10 o11 : Option V), σ = [some rv, some (.ref p), some (.ref ae), some (.int n), some (.int m), some (.ref D), o6, some (.ref Y), some (.ref b), some (.ref M), o10, o11] ∧ Same H4 H' ∧ H' q = some (.lst xY) ∧ LstR K (SeqT K (IntsT K)) H' M (stepF ((comF ((es.map (lisF ds n m)).take j)).take i) (lisF ds n m en))) ⟨_, _, _, rfl, sM.trans sq, upd_same, LstR.same kSI sq lst_nil⟩ (fun _ _ H' _ p => by
          obtain ⟨_, _, _, _, _, h, _⟩ := p
          exact SqL.of h) (fun i x σ H5 H6 hi p y => ?_) (fun σ H5 p => ?_)
        · obtain ⟨rfl, hx⟩ := y
          obtain ⟨o6, o10, o11, rfl, s4, hq4, xM, hM4, lM, fM⟩ := p
          obtain ⟨had, hhad⟩ := seq_at y2 hx
          obtain ⟨ah, xh, rfl, hah, lah, fah⟩ := kSI _ _ _ _ (KT.of s4) (yf i x had hx hhad)
          have hl := (com_in _ had (List.mem_of_getElem? hhad)).1
          rw [List.length_take, List.length_map] at hl
          have b1' := s4 _ _ b1
          refine ⟨_, rfl, .inl ⟨rfl, _, SqL.of hM4⟩, _, rfl, b, rfl, ⟨_, SqL.of b1'⟩, fun B hB => ?_⟩
          refine lc_fr (R := fun H i y => ∀ w, ((lisF ds n m en).map fun t => had ++ [t])[i]? = some w → SeqT K (IntsT K) H y w) walk_at_list (by omega) (stb_seq kSI) gd0 hB trivial (fun H' e => SqL.of (F0.same e _ _ b1')) (fun u x2 H7 Q7 hu hx2 e7 q7 => ?_) (fun H7 e7 got => ?_)
          · obtain ⟨tx, htx⟩ := seq_at b2 hx2
            have tI := (b3 u x2 tx hx2 htx).same (s4.trans (F0.same e7))
            refine ⟨rfl, _, rfl, _, rfl, (by show 1 ≤ sizeLine; decide), fun c hc => ?_⟩
            have h1 := SqT.same ((F0.same e7).trans (same_new (o := .tup [x2]) hc)) hah
            have hz : xh.length + [x2].length ≤ sizeLine := by
              show xh.length + 1 ≤ _
              omega
            refine rd_cat h1 (SqT.of upd_same) hz fun d H8 s8 t8 => q7 _ _ (F0.of ((same_new hc).trans s8)) fun w hw => ?_
            rw [List.getElem?_map, htx] at hw
            cases hw
            have sall := (F0.same e7).trans ((same_new (o := .tup [x2]) hc).trans s8)
            refine ⟨d, _, rfl, t8, by simp [lah], fun r y z hy hz => ?_⟩
            rcases Nat.lt_or_ge r xh.length with lt | ge
            · rw [List.getElem?_append_left lt] at hy
              rw [List.getElem?_append_left (by omega)] at hz
              exact (fah r y z hy hz).same sall
            · rw [List.getElem?_append_right ge] at hy
              rw [List.getElem?_append_right (by omega), ← lah] at hz
              cases e : r - xh.length with
              | zero =>
                rw [e] at hy hz
                cases hy
                cases hz
                exact tI.same ((same_new (o := .tup [x2]) hc).trans s8)
              | succ j =>
                rw [e] at hy
                cases hy
          · have ln : ((lisF ds n m en).map fun t => had ++ [t]).length = xb.length := by rw [List.length_map, b2]
            rw [← ln] at got
            obtain ⟨xB, hB7, lB, fB⟩ := got_lst (K := K) got
            have s7 := F0.same e7
            have hM7 := s7 _ _ hM4
            refine ⟨M, B, xM, xB, rfl, rfl, hM7, hB7, ?_, ?_⟩
            · rw [lM, step_len, lB, List.length_map, List.length_take]
              have : min i (comF ((es.map (lisF ds n m)).take j)).length * (lisF ds n m en).length ≤ 39 ^ 2 * 39 := Nat.mul_le_mul (by omega) lts
              omega
            · refine ⟨_, _, _, rfl, same_upd (s4.trans s7) hM, ?_, ?_⟩
              · rw [upd_ne nqM]
                exact s7 _ _ hq4
              · have e : stepF ((comF ((es.map (lisF ds n m)).take j)).take (i + 1)) (lisF ds n m en) = stepF ((comF ((es.map (lisF ds n m)).take j)).take i) (lisF ds n m en) ++ (lisF ds n m en).map (fun t => had ++ [t]) := flat_take hhad
                rw [e]
                exact lst_app kSI hM7 lM (fun i x z hx hz => kSI _ _ _ _ (KT.of s7) (fM i x z hx hz)) lB fB
        · obtain ⟨o6, o10, o11, rfl, s4, hq4, h4⟩ := p
          rw [List.take_of_length_le (by omega)] at h4
          refine ⟨_, rfl, _, _, _, _, _, M, rfl, s3.trans s4, hM0, ?_⟩
          have tk : (es.map (lisF ds n m)).take (j + 1) = (es.map (lisF ds n m)).take j ++ [lisF ds n m en] := by
            obtain ⟨pz, ez⟩ := List.getElem?_eq_some_iff.mp hts
            rw [List.take_succ_eq_append_getElem pz, ez]
          rw [tk, com_snoc]
          exact h4
      · obtain ⟨o6, o8, o9, o10, o11, Y, rfl, s3, hY0, h4⟩ := p
        rw [List.take_of_length_le (by omega)] at h4
        obtain ⟨xY, y1, y2, yf⟩ := h4
        have lcom : (comF (es.map (lisF ds n m))).length ≤ 39 ^ 2 := by
          refine Nat.le_trans (com_len _ fun ts h => ?_) (Nat.pow_le_pow_right (by decide) (by rw [List.length_map]; omega))
          obtain ⟨e', _, rfl⟩ := List.mem_map.mp h
          exact lis_len d3 m3
        refine ⟨_, rfl, Y, rfl, ⟨_, SqL.of y1⟩, fun B hB => ?_⟩
        refine lc_fil (K := K) (p := fun had => rs.all (hldF had)) kSI walk_at_list (by omega) y2 yf hB (fun H' e => SqL.of (e _ _ y1)) (fun _ => rfl) (fun _ => rfl) (fun i x' had H' Q' hx' hz e q' => ?_) (fun H4 e hl => k B H4 ((s2.trans s3).trans e) ((s2.trans s3).free hB) hl)
        have ci := com_in _ had (List.mem_of_getElem? hz)
        rw [List.length_map] at ci
        have s4 := (s2.trans s3).trans e
        have hh := kSI _ _ _ _ (KT.of e) (yf i x' had hx' hz)
        refine ⟨_, rfl, _, rfl, rv, x', rs, had, rfl, hrs.same (fun _ _ h => h.kt (KT.of s4)) s4, hh.s fun _ _ h => h, ?_, fun tx htx => ?_, fun H'' s'' => ⟨_, rfl, q' H'' s''⟩⟩
        · rw [ci.1]
          exact hb
        · obtain ⟨r, hr'⟩ := List.mem_iff_getElem?.mp htx
          obtain ⟨ts, h1, h2⟩ := ci.2 r tx hr'
          rw [List.getElem?_map] at h1
          obtain ⟨en, _, rfl⟩ := Option.map_eq_some_iff.mp h1
          have := (lis_in h2).2.2
          omega
end
end My
set_option maxHeartbeats 4000000
namespace My
open PySem PySem.Spec PyProof.Rows L2 Lcn Sq
/-! ### stripping -/
def sf : List Int → List Int → List Int × List Int
  | a :: l, b :: r => if a = b then sf l r else (a :: l, b :: r)
  | [], r => ([], r)
  | a :: l, [] => (a :: l, [])
def sb (l r : List Int) : List Int × List Int := ((sf l.reverse r.reverse).1.reverse, (sf l.reverse r.reverse).2.reverse)
def strip (l r : List Int) : List Int × List Int := sb (sf l r).1 (sf l r).2
theorem sf_nil {l r : List Int} (h : l = [] ∨ r = []) : sf l r = (l, r) := by
  rcases h with rfl | rfl
  · cases r <;> simp [sf]
  · cases l <;> simp [sf]
theorem sf_ne {a b : Int} {l r : List Int} (h : a ≠ b) : sf (a :: l) (b :: r) = (a :: l, b :: r) := by simp [sf, h]
theorem sf_eq {a : Int} {l r : List Int} : sf (a :: l) (a :: r) = sf l r := by simp [sf]
theorem sb_nil {l r : List Int} (h : l = [] ∨ r = []) : sb l r = (l, r) := by
  unfold sb
  rw [sf_nil (by rcases h with rfl | rfl <;> simp)]
  simp
theorem sb_ne {a b : Int} {l r : List Int} (h : a ≠ b) : sb (l ++ [a]) (r ++ [b]) = (l ++ [a], r ++ [b]) := by
  unfold sb
  rw [List.reverse_append, List.reverse_append]
  show ((sf (a :: l.reverse) (b :: r.reverse)).1.reverse, (sf (a :: l.reverse) (b :: r.reverse)).2.reverse) = _
  rw [sf_ne h]
  simp
theorem sb_eq {a : Int} {l r : List Int} : sb (l ++ [a]) (r ++ [a]) = sb l r := by
  unfold sb
  rw [List.reverse_append, List.reverse_append]
  show ((sf (a :: l.reverse) (a :: r.reverse)).1.reverse, (sf (a :: l.reverse) (a :: r.reverse)).2.reverse) = _
  rw [sf_eq]
theorem snoc_of {l : List Int} (h : l ≠ []) : ∃ i a, l = i ++ [a] := by
  cases e : l.reverse with
  | nil => exact absurd (by simpa using congrArg List.reverse e) h
  | cons a t => exact ⟨t.reverse, a, by have := congrArg List.reverse e; simpa using this⟩
theorem len_pos {ns : List Int} (h : decide ((0 : Int) < ((ns.map V.int).length : Nat)) = true) : ns ≠ [] := fun e => by
  subst e
  cases h
theorem len_zero {ns : List Int} (h : ¬ decide ((0 : Int) < ((ns.map V.int).length : Nat)) = true) : ns = [] := by
  cases ns with
  | nil => rfl
  | cons a t => exact absurd (decide_eq_true (by simp)) h
theorem at_0 {a : Int} {t : List Int} : atI ((a :: t).map V.int) 0 = some (.int a) := by
  show atI _ ((0 : Nat) : Int) = _
  exact atI_nat rfl
theorem at_end {i : List Int} {a : Int} {n : Int} (h : n = (i.length : Nat)) : atI ((i ++ [a]).map V.int) n = some (.int a) := by
  subst h
  exact atI_nat (by simp)
theorem int_ne {a b : Int} (h : ¬ decide (V.int a = V.int b) = true) : a ≠ b := fun e => h (by rw [e]; simp)
theorem int_eq {a b : Int} (h : decide (V.int a = V.int b) = true) : a = b := by
  have := of_decide_eq_true h
  cases this
  rfl
/-! ### slices -/
section
variable {K : PySem.W.Frag} {H H' : Hp}
theorem cut_drop {α : Type} {xs : List V} {k : Nat} : cutV xs (some (k : Int)) none = xs.drop k := by
  unfold cutV
  rw [HT.sIx_nat, HT.sIx_none]
  rcases Nat.le_total k xs.length with h | h
  · rw [Nat.min_eq_left h, List.take_of_length_le (by simp)]
  · rw [Nat.min_eq_right h, List.drop_of_length_le (Nat.le_refl _), List.drop_of_length_le h]
    simp
theorem cut_take {xs : List V} {k : Nat} : cutV xs none (some (k : Int)) = xs.take k := by
  unfold cutV
  rw [HT.sIx_nat, HT.sIx_none, List.drop_zero, Nat.sub_zero]
  rcases Nat.le_total k xs.length with h | h
  · rw [Nat.min_eq_left h]
  · rw [Nat.min_eq_right h, List.take_of_length_le (Nat.le_refl _), List.take_of_length_le h]
theorem cut_mid {xs : List V} {f e : Nat} (he : e ≤ xs.length) (hf : f ≤ e) : cutV xs (some (f : Int)) (some (e : Int)) = (xs.drop f).take (e - f) := by
  unfold cutV
  rw [HT.sIx_nat, HT.sIx_nat, Nat.min_eq_left he, Nat.min_eq_left (Nat.le_trans hf he)]
end
def sp__law_strip (K : PySem.W.Frag) : Sp := fun vs H Q _ => ∃ (lv rv : V) (l r : List Int), vs = [lv, rv] ∧ IntsT K H lv l ∧ IntsT K H rv r ∧ ∀ (v : V) (H' : Hp), Same H H' → RowT K H' v (strip l r) → Q v H'
theorem sc__law_strip : FnScope ["_law_left", "_law_right"] ["_law_left", "_law_right"] (defScope s__law_strip) := ⟨rfl, rfl, rfl, by decide +kernel, rfl, by decide +kernel, by decide +kernel⟩
section
variable {P : Program} {w : World} {K : PySem.W.Frag} {mg : Str → Option Value} {base : Heap}
theorem ok__law_strip (D__law_strip : Dn K mg "_law_strip" s__law_strip ["_law_left", "_law_right"]) (T : TB mg) : FnOk P w K mg base CX0 1 D__law_strip.f D__law_strip.fd ["_law_left", "_law_right"] (sp__law_strip K) := by
  refine ok0 D__law_strip.F sc__law_strip (fun vs H Q E h => ?_) (fun cdv A outer s H vs Q E hr h => ?_)
  · obtain ⟨lv, rv, l, r, rfl, hl, hr1, k⟩ := h
    rfl
  · obtain ⟨lv, rv, l, r, rfl, hl, hr1, k⟩ := h
    refine ⟨_, (C8.pss_cut (ps_while PassesOwn.never (PW.pt (pw_and (pt_cmpR op_gt (pe_callB call_len_seq (by rfl) T.len PySem.boot_len (pa_cons (pv 0) pa_nil)) pe_int (nomark _)) (pw_and (pt_cmpR op_gt (pe_callB call_len_seq (by rfl) T.len PySem.boot_len (pa_cons (pv 1) pa_nil)) pe_int (nomark _)) (pw_and1 (pt_cmpR op_eq (pe_ix ix_tup (pv 0) pe_int (fun _ _ => rfl)) (pe_ix ix_tup (pv 1) pe_int (fun _ _ => rfl)) (nomark _)))))) (pss_cons (ps_set (i := 0) sc__law_strip.nd rfl (by first | exact Or.inl rfl | exact Or.inr rfl) (pe_slice sl_tupR (pv 0) (po_some pe_int) po_none))
  (pss_one (ps_set (i := 1) sc__law_strip.nd rfl (by first | exact Or.inl rfl | exact Or.inr rfl) (pe_slice sl_tupR (pv 1) (po_some pe_int) po_none)))))
  (C8.pss_cut (ps_while PassesOwn.never (PW.pt (pw_and (pt_cmpR op_gt (pe_callB call_len_seq (by rfl) T.len PySem.boot_len (pa_cons (pv 0) pa_nil)) pe_int (nomark _)) (pw_and (pt_cmpR op_gt (pe_callB call_len_seq (by rfl) T.len PySem.boot_len (pa_cons (pv 1) pa_nil)) pe_int (nomark _)) (pw_and1 (pt_cmpR op_eq (pe_ix ix_tup (pv 0) (pe_op op_sub (pe_callB call_len_seq (by rfl) T.len PySem.boot_len (pa_cons (pv 0) pa_nil)) pe_int) (fun _ _ => rfl)) (pe_ix ix_tup (pv 1) (pe_op op_sub (pe_callB call_len_seq (by rfl) T.len PySem.boot_len (pa_cons (pv 1) pa_nil)) pe_int) (fun _ _ => rfl)) (nomark _)))))) (pss_cons (ps_set (i := 0) sc__law_strip.nd rfl (by first | exact Or.inl rfl | exact Or.inr rfl) (pe_slice sl_tupR (pv 0) po_none (po_some (pe_op op_sub (pe_callB call_len_seq (by rfl) T.len PySem.boot_len (pa_cons (pv 0) pa_nil)) pe_int))))
  (pss_one (ps_set (i := 1) sc__law_strip.nd rfl (by first | exact Or.inl rfl | exact Or.inr rfl) (pe_slice sl_tupR (pv 1) po_none (po_some (pe_op op_sub (pe_callB call_len_seq (by rfl) T.len PySem.boot_len (pa_cons (pv 1) pa_nil)) pe_int)))))))
  (pss_one (ps_ret (pe_tup (pa_cons (pv 0) (pa_cons (pv 1) pa_nil))))))), ?_⟩
    refine ⟨fun σ H' => ∃ (v u : V) (x y : List Int), σ = [some v, some u] ∧ Same H H' ∧ IntsT K H' v x ∧ IntsT K H' u y ∧ sf l r = (x, y), ?_, ?_⟩
    · refine ⟨fun m σ H' => ∃ (v u : V) (x y : List Int), σ = [some v, some u] ∧ Same H H' ∧ IntsT K H' v x ∧ IntsT K H' u y ∧ m = x.length ∧ sf l r = sf x y, ⟨_, lv, rv, l, r, rfl, Same.refl _, hl, hr1, rfl, rfl⟩, fun m σ H1 p => ?_⟩
      obtain ⟨v, u, x, y, rfl, s1, ⟨a, rfl, sx⟩, ⟨b, rfl, sy⟩, rfl, e⟩ := p
      refine ⟨_, rfl, a, _, rfl, .inr sx, _, _, rfl, rfl, _, rfl, ite2 (fun c1 => ?_) (fun c1 => ?_)⟩
      · refine ⟨_, rfl, b, _, rfl, .inr sy, _, _, rfl, rfl, _, rfl, ite2 (fun c2 => ?_) (fun c2 => ?_)⟩
        · cases x with
          | nil => exact absurd rfl (len_pos c1)
          | cons xa xt =>
            cases y with
            | nil => exact absurd rfl (len_pos c2)
            | cons ya yt =>
              refine ⟨_, rfl, a, _, 0, _, rfl, rfl, sx, at_0, _, rfl, b, _, 0, _, rfl, rfl, sy, at_0, rfl, _, rfl, ite2 (fun c3 => ?_) (fun c3 => ?_)⟩
              · have ee := int_eq c3
                subst ee
                refine ⟨_, fun σ' H' h => h, ?_⟩
                refine ⟨_, rfl, _, rfl, rd_sl sx fun c H2 s2 t2 => ⟨_, rfl, _, rfl, rd_sl (SqT.same s2 sy) fun d H3 s3 t3 => ?_⟩⟩
                have e1 : cutV ((xa :: xt).map V.int) (some (1 : Int)) none = xt.map V.int := cut_drop (α := Int) (k := 1)
                have e2 : cutV ((xa :: yt).map V.int) (some (1 : Int)) none = yt.map V.int := cut_drop (α := Int) (k := 1)
                rw [e1] at t2
                rw [e2] at t3
                exact ⟨xt.length, Nat.lt_succ_self _, .ref c, .ref d, xt, yt, rfl, s1.trans (s2.trans s3), ⟨c, rfl, SqT.same s3 t2⟩, ⟨d, rfl, t3⟩, rfl, by rw [e, sf_eq]⟩
              · exact ⟨_, _, _, _, rfl, s1, ⟨a, rfl, sx⟩, ⟨b, rfl, sy⟩, by rw [e, sf_ne (int_ne c3)]⟩
        · exact ⟨_, _, _, _, rfl, s1, ⟨a, rfl, sx⟩, ⟨b, rfl, sy⟩, by rw [e, sf_nil (.inr (len_zero c2))]⟩
      · exact ⟨_, _, _, _, rfl, s1, ⟨a, rfl, sx⟩, ⟨b, rfl, sy⟩, by rw [e, sf_nil (.inl (len_zero c1))]⟩
    · rintro σ1 H1 ⟨v1, u1, x1, y1, rfl, s1, hx1, hy1, e1⟩
      refine ⟨fun σ H' => ∃ (v u : V) (x y : List Int), σ = [some v, some u] ∧ Same H H' ∧ IntsT K H' v x ∧ IntsT K H' u y ∧ sb x1 y1 = (x, y), ?_, ?_⟩
      · refine ⟨fun m σ H' => ∃ (v u : V) (x y : List Int), σ = [some v, some u] ∧ Same H H' ∧ IntsT K H' v x ∧ IntsT K H' u y ∧ m = x.length ∧ sb x1 y1 = sb x y, ⟨_, v1, u1, x1, y1, rfl, s1, hx1, hy1, rfl, rfl⟩, fun m σ H1 p => ?_⟩
        obtain ⟨v, u, x, y, rfl, s1, ⟨a, rfl, sx⟩, ⟨b, rfl, sy⟩, rfl, e⟩ := p
        refine ⟨_, rfl, a, _, rfl, .inr sx, _, _, rfl, rfl, _, rfl, ite2 (fun c1 => ?_) (fun c1 => ?_)⟩
        · refine ⟨_, rfl, b, _, rfl, .inr sy, _, _, rfl, rfl, _, rfl, ite2 (fun c2 => ?_) (fun c2 => ?_)⟩
          · obtain ⟨xi, xa, rfl⟩ := snoc_of (len_pos c1)
            obtain ⟨yi, ya, rfl⟩ := snoc_of (len_pos c2)
            have lx : (((xi ++ [xa]).map V.int).length : Int) - 1 = (xi.length : Nat) := by simp
            have ly : (((yi ++ [ya]).map V.int).length : Int) - 1 = (yi.length : Nat) := by simp
            refine ⟨_, rfl, _, rfl, a, _, rfl, .inr sx, _, _, rfl, rfl, a, _, _, _, rfl, rfl, sx, at_end lx, _, rfl, _, rfl, b, _, rfl, .inr sy, _, _, rfl, rfl, b, _, _, _, rfl, rfl, sy, at_end ly, rfl, _, rfl, ite2 (fun c3 => ?_) (fun c3 => ?_)⟩
            · have ee := int_eq c3
              subst ee
              refine ⟨_, fun σ' H' h => h, ?_⟩
              refine ⟨_, rfl, _, rfl, a, _, rfl, .inr sx, _, _, rfl, rfl, _, rfl, rd_sl sx fun c H2 s2 t2 => ⟨_, rfl, _, rfl, b, _, rfl, .inr (SqT.same s2 sy), _, _, rfl, rfl, _, rfl, rd_sl (SqT.same s2 sy) fun d H3 s3 t3 => ?_⟩⟩
              have e1 : cutV ((xi ++ [xa]).map V.int) none (some ((((xi ++ [xa]).map V.int).length : Int) - 1)) = xi.map V.int := by
                rw [lx, cut_take]
                simp
              have e2 : cutV ((yi ++ [xa]).map V.int) none (some ((((yi ++ [xa]).map V.int).length : Int) - 1)) = yi.map V.int := by
                rw [ly, cut_take]
                simp
              have t2' : SqT K H2 c (xi.map V.int) := e1 ▸ t2
              have t3' : SqT K H3 d (yi.map V.int) := e2 ▸ t3
              exact ⟨xi.length, by simp, .ref c, .ref d, xi, yi, rfl, s1.trans (s2.trans s3), ⟨c, rfl, SqT.same s3 t2'⟩, ⟨d, rfl, t3'⟩, rfl, by rw [e, sb_eq]⟩
            · exact ⟨_, _, _, _, rfl, s1, ⟨a, rfl, sx⟩, ⟨b, rfl, sy⟩, by rw [e, sb_ne (int_ne c3)]⟩
          · exact ⟨_, _, _, _, rfl, s1, ⟨a, rfl, sx⟩, ⟨b, rfl, sy⟩, by rw [e, sb_nil (.inr (len_zero c2))]⟩
        · exact ⟨_, _, _, _, rfl, s1, ⟨a, rfl, sx⟩, ⟨b, rfl, sy⟩, by rw [e, sb_nil (.inl (len_zero c1))]⟩
      · rintro σ2 H2 ⟨v, u, x, y, rfl, s2, hx, hy, e2⟩
        refine ⟨_, rfl, _, rfl, (by show 2 ≤ sizeLine; decide), fun p hp => k _ _ (s2.trans (same_new hp)) ?_⟩
        have es : strip l r = (x, y) := by
          unfold strip
          rw [e1]
          exact e2
        rw [es]
        exact ⟨p, v, u, rfl, SqT.of upd_same, hx.same (same_new hp), hy.same (same_new hp)⟩
end
end My
set_option maxHeartbeats 4000000
namespace My
open PySem PySem.Spec PyProof.Rows L2 Lcn Sq
/-! ### tidying -/
abbrev Rw := List Int × List Int
def clashW (l r : List Int) : Option Str := if l = [] ∧ r = [] then none else if l = [] ∨ r = [] then some ("empty" : Str) else if 0 ≤ l.headD 0 ∧ 0 ≤ r.headD 0 then some ("front" : Str) else if 0 ≤ l.getLastD 0 ∧ 0 ≤ r.getLastD 0 then some ("back" : Str) else none
def tidF : List Rw → Nat → List Rw → List Rw ⊕ (Str × Nat)
  | [], _, acc => .inl acc
  | r :: rs, k, acc => match clashW (strip r.1 r.2).1 (strip r.1 r.2).2 with
    | some w => .inr (w, k)
    | none => tidF rs (k + 1) (if (strip r.1 r.2).1 = [] then acc else acc ++ [strip r.1 r.2])
theorem tid_step {rs : List Rw} {i k : Nat} {acc : List Rw} {r : Rw} (h : rs[i]? = some r) : tidF (rs.drop i) k acc = match clashW (strip r.1 r.2).1 (strip r.1 r.2).2 with
    | some w => .inr (w, k)
    | none => tidF (rs.drop (i + 1)) (k + 1) (if (strip r.1 r.2).1 = [] then acc else acc ++ [strip r.1 r.2]) := by
  obtain ⟨p, e⟩ := List.getElem?_eq_some_iff.mp h
  rw [List.drop_eq_getElem_cons p, e]
  rfl
def sp__law_tidy (K : PySem.W.Frag) : Sp := fun vs H Q _ => ∃ (p : Addr) (rs : List Rw), vs = [.ref p] ∧ LstR K (RowT K) H p rs ∧ rs.length ≤ 500 ∧
  (∀ (q : Addr) (H' : Hp) (ts : List Rw), Same H H' → H q = none → LstR K (RowT K) H' q ts → tidF rs 0 [] = .inl ts → Q (.ref q) H') ∧
  (∀ (q : Addr) (H' : Hp) (w : Str) (k : Nat), Same H H' → SqT K H' q [.str w, .int (k : Nat)] → tidF rs 0 [] = .inr (w, k) → Q (.ref q) H')
theorem len0 {l : List Int} (h : decide (V.int ((l.map V.int).length : Nat) = V.int 0) = true) : l = [] := by
  have e := int_eq h
  cases l with
  | nil => rfl
  | cons a t => simp at e; omega
theorem len1 {l : List Int} (h : ¬ decide (V.int ((l.map V.int).length : Nat) = V.int 0) = true) : ∃ a t, l = a :: t := by
  cases l with
  | nil => exact absurd (by simp) h
  | cons a t => exact ⟨a, t, rfl⟩
theorem kRK {K : PySem.W.Frag} : ∀ (H H' : Hp) (v : V) (z : Rw), KT H H' → RowT K H v z → RowT K H' v z := fun _ _ _ _ k h => h.kt k
theorem getLastD_snoc {l : List Int} {a d : Int} : (l ++ [a]).getLastD d = a := by
  rw [List.getLastD_eq_getLast?]
  simp
theorem head_at {l : List Int} (h : l ≠ []) : ∃ a, atI (l.map V.int) 0 = some (.int a) ∧ l.headD 0 = a := by
  cases l with
  | nil => exact absurd rfl h
  | cons a t => exact ⟨a, at_0, rfl⟩
theorem last_at {l : List Int} (h : l ≠ []) : ∃ a, atI (l.map V.int) (((l.map V.int).length : Int) - 1) = some (.int a) ∧ l.getLastD 0 = a := by
  obtain ⟨i, a, rfl⟩ := snoc_of h
  exact ⟨a, at_end (by simp), getLastD_snoc⟩
theorem lenN {l : List Int} (h : ¬ decide (V.int ((l.map V.int).length : Nat) = V.int 0) = true) : l ≠ [] := fun e => by
  subst e
  exact h (by simp)
theorem cw1 {l r : List Int} (h : l = []) (h' : r ≠ []) : clashW l r = some ("empty" : Str) := by simp [clashW, h, h']
theorem cw2 {l r : List Int} (h : l ≠ []) (h' : r = []) : clashW l r = some ("empty" : Str) := by simp [clashW, h, h']
theorem cw3 {l r : List Int} (h : l ≠ []) (h' : r ≠ []) (a : 0 ≤ l.headD 0) (b : 0 ≤ r.headD 0) : clashW l r = some ("front" : Str) := by simp only [clashW, h, h', a, b, and_self, or_self, if_true, if_false]
theorem cw4 {l r : List Int} (h : l ≠ []) (h' : r ≠ []) (n : ¬ (0 ≤ l.headD 0 ∧ 0 ≤ r.headD 0)) (a : 0 ≤ l.getLastD 0) (b : 0 ≤ r.getLastD 0) : clashW l r = some ("back" : Str) := by simp only [clashW, h, h', n, a, b, and_self, or_self, if_true, if_false]
theorem cw5 {l r : List Int} (h : l ≠ []) (h' : r ≠ []) (n : ¬ (0 ≤ l.headD 0 ∧ 0 ≤ r.headD 0)) (n2 : ¬ (0 ≤ l.getLastD 0 ∧ 0 ≤ r.getLastD 0)) : clashW l r = none := by simp only [clashW, h, h', n, n2, and_self, or_self, if_false]
theorem sc__law_tidy : FnScope ["_law_rows", "_law_told", "_law_at", "_law_left", "_law_right"] ["_law_rows"] (defScope s__law_tidy) := ⟨rfl, rfl, rfl, by decide +kernel, rfl, by decide +kernel, by decide +kernel⟩
section
variable {P : Program} {w : World} {K : PySem.W.Frag} {mg : Str → Option Value} {base : Heap}
theorem ok__law_tidy (D__law_tidy : Dn K mg "_law_tidy" s__law_tidy ["_law_rows"]) (D__law_strip : Dn K mg "_law_strip" s__law_strip ["_law_left", "_law_right"]) (G__law_strip : FnOk P w K mg base CX0 1 D__law_strip.f D__law_strip.fd ["_law_left", "_law_right"] (sp__law_strip K)) (T : TB mg) : FnOk P w K mg base CX0 2 D__law_tidy.f D__law_tidy.fd ["_law_rows"] (sp__law_tidy K) := by
  refine ok0 D__law_tidy.F sc__law_tidy (fun vs H Q E h => ?_) (fun cdv A outer s H vs Q E hr h => ?_)
  · obtain ⟨p, rs, rfl, hL, hlen, k1, k2⟩ := h
    rfl
  · obtain ⟨p, rs, rfl, hL, hlen, k1, k2⟩ := h
    refine ⟨_, (pss_cons (ps_set (i := 1) sc__law_tidy.nd rfl (by first | exact Or.inl rfl | exact Or.inr rfl) (pe_lst pa_nil))
  (pss_cons (ps_for PassesOwn.never rfl (pi_range1 (by rfl) T.range (pa_cons (pe_callB call_len_seq (by rfl) T.len PySem.boot_len (pa_cons (pv 0) pa_nil)) pa_nil)) (pg_name (i := 2) sc__law_tidy.nd rfl (by first | exact Or.inl rfl | exact Or.inr rfl)) (pss_cons (ps_asg (pe_call G__law_strip (hr.mono (by decide)) (by rfl) D__law_strip.m D__law_strip.F.kp D__law_strip.b .nil pass0 (pa_cons (pe_ix ix_tup (pe_ix ix_list (pv 0) (pv 2) (fun _ _ => rfl)) pe_int (fun _ _ => rfl)) (pa_cons (pe_ix ix_tup (pe_ix ix_list (pv 0) (pv 2) (fun _ _ => rfl)) pe_int (fun _ _ => rfl)) pa_nil))) (pg_tup (n := 2) rfl (pgs_cons (pg_name (i := 3) sc__law_tidy.nd rfl (by first | exact Or.inl rfl | exact Or.inr rfl)) (pgs_cons (pg_name (i := 4) sc__law_tidy.nd rfl (by first | exact Or.inl rfl | exact Or.inr rfl)) pgs_nil))))
  (pss_cons (ps_if (PW.pt (pw_and (pt_cmpR op_eq (pe_callB call_len_seq (by rfl) T.len PySem.boot_len (pa_cons (pv 3) pa_nil)) pe_int (nomark _)) (pw_and1 (pt_cmpR op_eq (pe_callB call_len_seq (by rfl) T.len PySem.boot_len (pa_cons (pv 4) pa_nil)) pe_int (nomark _))))) (pss_one ps_continue) pss_nil)
  (pss_cons (ps_if (PW.pt (pw_or (pt_cmpR op_eq (pe_callB call_len_seq (by rfl) T.len PySem.boot_len (pa_cons (pv 3) pa_nil)) pe_int (nomark _)) (pw_or1 (pt_cmpR op_eq (pe_callB call_len_seq (by rfl) T.len PySem.boot_len (pa_cons (pv 4) pa_nil)) pe_int (nomark _))))) (pss_one (ps_ret (pe_tup (pa_cons pe_str (pa_cons (pv 2) pa_nil))))) pss_nil)
  (C8.pss_cut (ps_if (PW.pt (pw_and (pt_cmpR op_ge (pe_ix ix_tup (pv 3) pe_int (fun _ _ => rfl)) pe_int (nomark _)) (pw_and1 (pt_cmpR op_ge (pe_ix ix_tup (pv 4) pe_int (fun _ _ => rfl)) pe_int (nomark _))))) (pss_one (ps_ret (pe_tup (pa_cons pe_str (pa_cons (pv 2) pa_nil))))) pss_nil)
  (C8.pss_cut (ps_if (PW.pt (pw_and (pt_cmpR op_ge (pe_ix ix_tup (pv 3) (pe_op op_sub (pe_callB call_len_seq (by rfl) T.len PySem.boot_len (pa_cons (pv 3) pa_nil)) pe_int) (fun _ _ => rfl)) pe_int (nomark _)) (pw_and1 (pt_cmpR op_ge (pe_ix ix_tup (pv 4) (pe_op op_sub (pe_callB call_len_seq (by rfl) T.len PySem.boot_len (pa_cons (pv 4) pa_nil)) pe_int) (fun _ _ => rfl)) pe_int (nomark _))))) (pss_one (ps_ret (pe_tup (pa_cons pe_str (pa_cons (pv 2) pa_nil))))) pss_nil)
  (pss_one (ps_expr (pe_bm PySem.F.plainAttrs_list PySem.F.slot_list_append PySem.F.type_list_append mt_append (pv 1) (pa_cons (pe_tup (pa_cons (pv 3) (pa_cons (pv 4) pa_nil))) pa_nil))))))))))
  (pss_one (ps_ret (pv 1))))), ?_⟩
    obtain ⟨xs, g1, g2, g3⟩ := hL
    refine ⟨(by show 0 ≤ sizeLine; decide), fun D hD => ?_⟩
    have sD : Same H (upd H D (.lst [])) := same_new hD
    refine ⟨_, rfl, p, xs, rfl, .inl (SqL.of (sD _ _ g1)), _, rfl, mlo (by omega), m62 (by omega), ?_⟩
    refine for_it walk_at_range (fun i σ H' => ∃ (o2 o3 o4 : Option V) (acc : List Rw), σ = [some (.ref p), some (.ref D), o2, o3, o4] ∧ Same H H' ∧ LstR K (RowT K) H' D acc ∧ acc.length ≤ i ∧ tidF rs 0 [] = tidF (rs.drop i) i acc) ⟨_, _, _, [], rfl, sD, lst_nil, Nat.le_refl _, rfl⟩ (fun _ _ _ _ _ => trivial) (fun i x σ H' H2 hi q y => ?_) (fun σ H' q => ?_)
    · obtain ⟨rfl, rfl⟩ := y
      obtain ⟨o2, o3, o4, acc, rfl, s2, ⟨xD, d1, d2, df⟩, d3, d4⟩ := q
      have hi' : i < xs.length := hi
      have hi2 : i < rs.length := by omega
      obtain ⟨r, hr2⟩ : ∃ r, rs[i]? = some r := ⟨rs[i], by simp [hi2]⟩
      obtain ⟨ar, x1, y1, e1, hrow, hx1, hy1⟩ := (g3 i _ r (List.getElem?_eq_getElem hi') hr2).kt (KT.of s2)
      have hat : atI xs (0 + (i : Int)) = some (.ref ar) := by
        rw [Int.zero_add, ← e1]
        exact atI_nat (by simp [hi'])
      rw [tid_step hr2] at d4
      refine ⟨_, rfl, _, rfl, p, xs, _, _, rfl, rfl, SqL.of (s2 _ _ g1), hat, ar, _, 0, _, rfl, rfl, hrow, rfl, _, rfl, _, rfl, p, xs, _, _, rfl, rfl, SqL.of (s2 _ _ g1), hat, ar, _, 1, _, rfl, rfl, hrow, rfl, x1, y1, r.1, r.2, rfl, hx1, hy1, fun v H3 s3 t3 => ?_⟩
      have s23 := s2.trans s3
      obtain ⟨al, v1, u1, rfl, sal, ⟨a, rfl, sx⟩, ⟨b, rfl, sy⟩⟩ := t3
      refine ⟨al, _, rfl, sal, rfl, _, _, rfl, _, _, rfl, rfl, ?_⟩
      have d1' := s3 _ _ d1
      have keep : LstR K (RowT K) H3 D acc := ⟨xD, d1', d2, fun i x z h1 h2 => (df i x z h1 h2).kt (KT.of s3)⟩
      generalize hst : strip r.1 r.2 = lr at d4 sal sx sy
      obtain ⟨l, rr⟩ := lr
      have bad : ∀ w, clashW l rr = some w → ∀ q, H3 q = none → Q (.ref q) (upd H3 q (.tup [.str w, .int (0 + (i : Int))])) := fun w hw q hq => by
        refine k2 q _ w i (s23.trans (same_new hq)) ?_ ?_
        · rw [Int.zero_add]
          exact SqT.of upd_same
        · rw [d4, hw]
      refine ⟨_, rfl, a, _, rfl, .inr sx, rfl, _, rfl, ite2 (fun c1 => ?_) (fun c1 => ?_)⟩
      · have e1 := len0 c1
        have e1 : l = [] := e1
        subst e1
        refine ⟨_, rfl, b, _, rfl, .inr sy, rfl, _, rfl, ite2 (fun c2 => ?_) (fun c2 => ?_)⟩
        · have e2 : rr = [] := len0 c2
          subst e2
          have cn : clashW [] [] = none := rfl
          simp only [cn] at d4
          exact ⟨_, _, _, acc, rfl, s23, keep, by omega, d4⟩
        · have nr : rr ≠ [] := lenN c2
          refine ⟨_, rfl, a, _, rfl, .inr sx, rfl, _, rfl, ite2 (fun _ => ?_) (fun c => absurd c1 c)⟩
          exact ⟨_, rfl, (by show 2 ≤ sizeLine; decide), fun q hq => bad "empty" (cw1 rfl nr) q hq⟩
      · have nl : l ≠ [] := lenN c1
        refine ⟨_, rfl, a, _, rfl, .inr sx, rfl, _, rfl, ite2 (fun c => absurd c c1) (fun _ => ?_)⟩
        refine ⟨_, rfl, b, _, rfl, .inr sy, rfl, _, rfl, ite2 (fun c2 => ?_) (fun c2 => ?_)⟩
        · exact ⟨_, rfl, (by show 2 ≤ sizeLine; decide), fun q hq => bad "empty" (cw2 nl (len0 c2)) q hq⟩
        · have nr : rr ≠ [] := lenN c2
          obtain ⟨ha, ha1, ha2⟩ := head_at nl
          obtain ⟨hb, hb1, hb2⟩ := head_at nr
          obtain ⟨la, la1, la2⟩ := last_at nl
          obtain ⟨lb, lb1, lb2⟩ := last_at nr
          refine ⟨fun σ' H' => ¬ (0 ≤ l.headD 0 ∧ 0 ≤ rr.headD 0) ∧ σ' = [some (.ref p), some (.ref D), some (.int (0 + (i : Int))), some (.ref a), some (.ref b)] ∧ H' = H3, ?_, ?_⟩
          · refine ⟨_, rfl, a, _, 0, _, rfl, rfl, sx, ha1, _, _, rfl, rfl, _, rfl, ite2 (fun z1 => ?_) (fun z1 => ?_)⟩
            · refine ⟨_, rfl, b, _, 0, _, rfl, rfl, sy, hb1, _, _, rfl, rfl, _, rfl, ite2 (fun z2 => ?_) (fun z2 => ?_)⟩
              · exact ⟨_, rfl, (by show 2 ≤ sizeLine; decide), fun q hq => bad "front" (cw3 nl nr (by rw [ha2]; exact of_decide_eq_true z1) (by rw [hb2]; exact of_decide_eq_true z2)) q hq⟩
              · exact ⟨fun n => z2 (decide_eq_true (by rw [← hb2]; exact n.2)), rfl, rfl⟩
            · exact ⟨fun n => z1 (decide_eq_true (by rw [← ha2]; exact n.1)), rfl, rfl⟩
          · rintro σ4 H4 ⟨n1, rfl, rfl⟩
            refine ⟨fun σ' H' => ¬ (0 ≤ l.getLastD 0 ∧ 0 ≤ rr.getLastD 0) ∧ σ' = [some (.ref p), some (.ref D), some (.int (0 + (i : Int))), some (.ref a), some (.ref b)] ∧ H' = H4, ?_, ?_⟩
            · refine ⟨_, rfl, _, rfl, a, _, rfl, .inr sx, _, _, rfl, rfl, a, _, _, _, rfl, rfl, sx, la1, _, _, rfl, rfl, _, rfl, ite2 (fun z1 => ?_) (fun z1 => ?_)⟩
              · refine ⟨_, rfl, _, rfl, b, _, rfl, .inr sy, _, _, rfl, rfl, b, _, _, _, rfl, rfl, sy, lb1, _, _, rfl, rfl, _, rfl, ite2 (fun z2 => ?_) (fun z2 => ?_)⟩
                · exact ⟨_, rfl, (by show 2 ≤ sizeLine; decide), fun q hq => bad "back" (cw4 nl nr n1 (by rw [la2]; exact of_decide_eq_true z1) (by rw [lb2]; exact of_decide_eq_true z2)) q hq⟩
                · exact ⟨fun n => z2 (decide_eq_true (by rw [← lb2]; exact n.2)), rfl, rfl⟩
              · exact ⟨fun n => z1 (decide_eq_true (by rw [← la2]; exact n.1)), rfl, rfl⟩
            · rintro σ5 H5 ⟨n2, rfl, rfl⟩
              have cn := cw5 nl nr n1 n2
              simp only [cn, nl, if_false] at d4
              refine ⟨_, rfl, .inl ⟨rfl, _, SqL.of d1'⟩, _, rfl, _, rfl, (by show 2 ≤ sizeLine; decide), fun q hq => ?_⟩
              have d1q := same_new (o := .tup [.ref a, .ref b]) hq _ _ d1'
              refine ⟨D, _, _, rfl, rfl, d1q, by rw [d2]; exact k1000 (by omega), ?_⟩
              have sn : Same H5 (upd H5 q (.tup [.ref a, .ref b])) := same_new hq
              refine ⟨_, _, _, acc ++ [(l, rr)], rfl, same_upd (s23.trans sn) hD, lst_snoc kRK d1q d2 (fun i x z h1 h2 => (df i x z h1 h2).kt (KT.of (s3.trans sn))) ⟨q, _, _, rfl, SqT.of upd_same, ⟨a, rfl, SqT.same sn sx⟩, ⟨b, rfl, SqT.same sn sy⟩⟩, by simp; omega, d4⟩
    · obtain ⟨o2, o3, o4, acc, rfl, s2, h2, d3, d4⟩ := q
      have e : rs.drop xs.length = [] := by
        rw [g2]
        exact List.drop_length
      have d4 : tidF rs 0 [] = tidF (rs.drop xs.length) xs.length acc := d4
      rw [e] at d4
      exact ⟨_, rfl, k1 D _ acc s2 hD h2 d4⟩
end
end My
set_option maxHeartbeats 4000000
namespace My
open PySem PySem.Spec PyProof.Rows L2 Lcn Sq
theorem op_eqDK {X : Cx} {K : PySem.W.Frag} (hK : X.K = K) (hu : X.A.units + 64 < cLine) : OpR X (compareOp .Eq) (rEqD K) := hK ▸ op_eqD hu
def sp__law_pick : Sp := fun vs H Q _ => ∃ (a L t : Addr) (ns : List Int) (xs : List V), vs = [.ref a, .ref t] ∧ Src H a L ns ∧ H t = some (.lst xs) ∧ t ≠ a ∧ xs ≠ [] ∧ xs.length < 1000 ∧ ∀ (x : V) (H' : Hp), x ∈ xs → Fs a L ns H H' → Q x H'
section
variable {P : Program} {w : World} {K : PySem.W.Frag} {mg : Str → Option Value} {base : Heap}
theorem ok__law_pick (D__law_pick : Dn K mg "_law_pick" s__law_pick ["_law_source_here", "_law_things"]) (D__law_take : Dn K mg "_law_take" s__law_take ["_law_source_here", "_law_many"]) (T : TxtS mg) : FnOk P w K mg base CX0 2 D__law_pick.f D__law_pick.fd ["_law_source_here", "_law_things"] sp__law_pick :=
  (ok_pick D__law_pick.F D__law_take.F T D__law_take.m D__law_take.b).imp fun vs H Q E h => by
    obtain ⟨a, L, t, ns, xs, e, s, h0, h1, h2, h3, k⟩ := h
    exact ⟨a, L, t, ns, xs, e, s, h0, h1, h2, h3, fun x H' hx kp => k x H' hx (fs_kp s kp)⟩
end
theorem on_lenC {ts : List (List Int)} {c : Nat} (hc : 0 < c) (h : ∀ t ∈ ts, t.length ≤ c) (s : Int) : (onF ts s).length ≤ c := by
  unfold onF
  split
  · show 1 ≤ c
    omega
  · rw [List.getD_eq_getElem?_getD]
    cases e : ts[(-1 - s).toNat]? with
    | none => simp
    | some t => exact h t (List.mem_of_getElem? e)
theorem fil_lenC {ts : List (List Int)} {c : Nat} (hc : 0 < c) (h : ∀ t ∈ ts, t.length ≤ c) : ∀ ss : List Int, (filF ss ts).length ≤ ss.length * c
  | [] => by simp [filF]
  | s :: r => by
    have ih := fil_lenC hc h r
    have := on_lenC hc h s
    unfold filF at ih ⊢
    rw [List.flatMap_cons, List.length_append, List.length_cons, Nat.succ_mul]
    omega
theorem fil_in {ts : List (List Int)} {ss : List Int} {l : Int} (h : ∀ s ∈ ss, s < l) (ht : ∀ t ∈ ts, ∀ i ∈ t, InR l i) : ∀ i ∈ filF ss ts, InR l i := fun i hi => by
  obtain ⟨s, hs, hi⟩ := List.mem_flatMap.mp hi
  unfold onF at hi
  split at hi
  · rename_i c
    rw [List.mem_singleton.mp hi]
    exact ⟨c, h s hs⟩
  · rw [List.getD_eq_getElem?_getD] at hi
    cases e : ts[(-1 - s).toNat]? with
    | none =>
      rw [e] at hi
      cases hi
    | some t =>
      rw [e] at hi
      exact ht t (List.mem_of_getElem? e) i hi
/-- texts: letters below l, one or two -/
def TxOk (l : Int) (ts : List (List Int)) : Prop := ∀ t ∈ ts, (∀ i ∈ t, InR l i) ∧ 0 < t.length ∧ t.length ≤ 2
/-- a row's side that a book takes -/
def SgOk (l u : Int) (r : List Int) : Prop := (∀ s ∈ r, Stands l u s) ∧ r.length ≤ 200
def sp__law_cut_row (K : PySem.W.Frag) : Sp := fun vs H Q _ => ∃ (a L pT : Addr) (ns : List Int) (l : Int) (ts : List (List Int)), vs = [.ref a, .ref pT, .int 4, .int l] ∧ Src H a L ns ∧ LstR K (IntsT K) H pT ts ∧ pT ≠ a ∧ 0 < l ∧ l < 500 ∧ 0 < ts.length ∧ ts.length < 500 ∧ TxOk l ts ∧
  ∀ (v : V) (H' : Hp) (r : Rw), Fs a L ns H H' → RowT K H' v r → SgOk l ts.length r.1 → SgOk l ts.length r.2 → Q v H'
theorem sc__law_cut_row : FnScope ["_law_source_here", "_law_texts_here", "_law_most", "_law_letters", "_law_left", "_law_rest", "_law_right", "_law_turn", "_law_fit", "_law_j"] ["_law_source_here", "_law_texts_here", "_law_most", "_law_letters"] (defScope s__law_cut_row) := ⟨rfl, rfl, rfl, by decide +kernel, rfl, by decide +kernel, by decide +kernel⟩
section
variable {P : Program} {w : World} {K : PySem.W.Frag} {mg : Str → Option Value} {base : Heap}
theorem ok__law_cut_row (D__law_cut_row : Dn K mg "_law_cut_row" s__law_cut_row ["_law_source_here", "_law_texts_here", "_law_most", "_law_letters"]) (D__law_take : Dn K mg "_law_take" s__law_take ["_law_source_here", "_law_many"]) (G__law_take : FnOk P w K mg base CX0 1 D__law_take.f D__law_take.fd ["_law_source_here", "_law_many"] (sp__law_take)) (D__law_pick : Dn K mg "_law_pick" s__law_pick ["_law_source_here", "_law_things"]) (G__law_pick : FnOk P w K mg base CX0 2 D__law_pick.f D__law_pick.fd ["_law_source_here", "_law_things"] (sp__law_pick)) (D__law_filled : Dn K mg "_law_filled" s__law_filled ["_law_side_here", "_law_texts_here"]) (G__law_filled : FnOk P w K mg base CX0 1 D__law_filled.f D__law_filled.fd ["_law_side_here", "_law_texts_here"] (sp__law_filled K)) (D__law_side : Dn K mg "_law_side" s__law_side ["_law_source_here", "_law_letters", "_law_unknowns", "_law_most"]) (G__law_side : FnOk P w K mg base CX0 2 D__law_side.f D__law_side.fd ["_law_source_here", "_law_letters", "_law_unknowns", "_law_most"] (sp__law_side K)) (T : TB mg) : FnOk P w K mg base CX0 3 D__law_cut_row.f D__law_cut_row.fd ["_law_source_here", "_law_texts_here", "_law_most", "_law_letters"] (sp__law_cut_row K) := by
  refine ok0 D__law_cut_row.F sc__law_cut_row (fun vs H Q E h => ?_) (fun cdv A outer s H vs Q E hr h => ?_)
  · obtain ⟨a, L, pT, ns, l, ts, rfl, S, hT, nT, l0, l1, t0, t1, tok, k⟩ := h
    rfl
  · obtain ⟨a, L, pT, ns, l, ts, rfl, S, hT, nT, l0, l1, t0, t1, tok, k⟩ := h
    refine ⟨_, (pss_cons (ps_set (i := 4) sc__law_cut_row.nd rfl (by first | exact Or.inl rfl | exact Or.inr rfl) (pe_call G__law_side (hr.mono (by decide)) (by rfl) D__law_side.m D__law_side.F.kp D__law_side.b .nil pass0 (pa_cons (pv 0) (pa_cons (pv 3) (pa_cons (pe_callB call_len_seq (by rfl) T.len PySem.boot_len (pa_cons (pv 1) pa_nil)) (pa_cons (pv 2) pa_nil))))))
  (pss_cons (ps_set (i := 5) sc__law_cut_row.nd rfl (by first | exact Or.inl rfl | exact Or.inr rfl) (pe_call G__law_filled (hr.mono (by decide)) (by rfl) D__law_filled.m D__law_filled.F.kp D__law_filled.b .nil pass0 (pa_cons (pv 4) (pa_cons (pv 1) pa_nil))))
  (pss_cons (ps_set (i := 6) sc__law_cut_row.nd rfl (by first | exact Or.inl rfl | exact Or.inr rfl) (pe_lst pa_nil))
  (C8.pss_cut (ps_for PassesOwn.never rfl (pi_range1 (by rfl) T.range (pa_cons (pe_op op_add (pe_op op_mul pe_int (pv 2)) pe_int) pa_nil)) (pg_name (i := 7) sc__law_cut_row.nd rfl (by first | exact Or.inl rfl | exact Or.inr rfl)) (pss_cons (ps_if (pt_cmpR op_eq (pe_callB call_len_seq (by rfl) T.len PySem.boot_len (pa_cons (pv 5) pa_nil)) pe_int (nomark _)) (pss_one ps_break) pss_nil)
  (pss_cons (ps_setLc (i := 8) (own := [(("_law_j" : Str), 9)]) rfl sc__law_cut_row.nd rfl rfl (sw_true rfl rfl rfl (by decide +kernel)) (pi_range1 (by rfl) T.range (pa_cons (pe_callB call_len_seq (by rfl) T.len PySem.boot_len (pa_cons (pv 1) pa_nil)) pa_nil)) (blkOk_by (own := [(("_law_j" : Str), 9)]) (N := ["_law_source_here", "_law_texts_here", "_law_most", "_law_letters", "_law_left", "_law_rest", "_law_right", "_law_turn", "_law_fit", "_law_j"]) (sc := defScope s__law_cut_row) (by decide +kernel)) (fun _ _ _ _ _ => (pg_name (i := 9) sc__law_cut_row.nd rfl (Or.inl rfl))) (fun _ _ _ _ _ => (pts_one (pt_cmpR (op_eqDK (K := K) rfl hr.units) (pe_slice (sl_tupRK (K := K) rfl) (pv 5) po_none (po_some (pe_callB (call_len_seqK (K := K) rfl) (by rfl) T.len PySem.boot_len (pa_cons (pe_ix (ix_listK (K := K) rfl) (pv 1) (pv 9) (fun _ _ => rfl)) pa_nil)))) (pe_ix (ix_listK (K := K) rfl) (pv 1) (pv 9) (fun _ _ => rfl)) (nomark _)))) (fun _ _ _ _ _ => (pv 9)))
  (pss_one (ps_if (PW.pt (pw_and (pt_cmpR op_gt (pe_callB call_len_seq (by rfl) T.len PySem.boot_len (pa_cons (pv 8) pa_nil)) pe_int (nomark _)) (pw_and1 (pt_cmpR op_eq (pe_call G__law_take (hr.mono (by decide)) (by rfl) D__law_take.m D__law_take.F.kp D__law_take.b .nil pass0 (pa_cons (pv 0) (pa_cons pe_int pa_nil))) pe_int (nomark _))))) (pss_cons (ps_set (i := 9) sc__law_cut_row.nd rfl (by first | exact Or.inl rfl | exact Or.inr rfl) (pe_call G__law_pick (hr.mono (by decide)) (by rfl) D__law_pick.m D__law_pick.F.kp D__law_pick.b .nil pass0 (pa_cons (pv 0) (pa_cons (pv 8) pa_nil))))
  (pss_cons (ps_expr (pe_bm PySem.F.plainAttrs_list PySem.F.slot_list_append PySem.F.type_list_append mt_append (pv 6) (pa_cons (pe_op op_sub (pe_un un_neg pe_int) (pv 9)) pa_nil)))
  (pss_one (ps_set (i := 5) sc__law_cut_row.nd rfl (by first | exact Or.inl rfl | exact Or.inr rfl) (pe_slice sl_tupR (pv 5) (po_some (pe_callB call_len_seq (by rfl) T.len PySem.boot_len (pa_cons (pe_ix ix_list (pv 1) (pv 9) (fun _ _ => rfl)) pa_nil))) po_none))))) (pss_cons (ps_expr (pe_bm PySem.F.plainAttrs_list PySem.F.slot_list_append PySem.F.type_list_append mt_append (pv 6) (pa_cons (pe_ix ix_tup (pv 5) pe_int (fun _ _ => rfl)) pa_nil)))
  (pss_one (ps_set (i := 5) sc__law_cut_row.nd rfl (by first | exact Or.inl rfl | exact Or.inr rfl) (pe_slice sl_tupR (pv 5) (po_some pe_int) po_none)))))))))
  (pss_one (ps_ret (pe_tup (pa_cons (pv 4) (pa_cons (pe_op op_catA (pe_callTy call_tupR (by rfl) T.tuple_ (by decide +kernel) (pa_cons (pv 6) pa_nil)) (pv 5)) pa_nil))))))))), ?_⟩
    have kT : ∀ {H' : Hp}, Fs a L ns H H' → LstR K (IntsT K) H' pT ts := fun e => hT.fs kI e nT
    obtain ⟨xT, g1, g2, g3⟩ := hT
    refine ⟨_, rfl, _, rfl, _, rfl, pT, xT, rfl, .inl (SqL.of g1), _, rfl, a, L, ns, l, xT.length, 4, rfl, S, l0, l1, by omega, by omega, by decide, by decide, fun lv H1 ss e1 hl sok => ?_⟩
    obtain ⟨xs1, f1, f2, f3⟩ := kT e1
    have S1 := e1.on S
    have sst : ∀ s ∈ ss, Stands l ts.length s := fun s hs => by
      have := (sok.2.2 s hs).1
      rw [g2] at this
      exact this
    refine ⟨_, rfl, _, rfl, lv, .ref pT, ss, ts, rfl, hl, ⟨pT, xs1, rfl, .inl (SqL.of f1), f2, f3⟩, fun s hs => (sst s hs).2, by have := sok.2.1; omega, fun t ht => by have := (tok t ht).2.2; omega, fun rv H2 s2 hr2 => ?_⟩
    have e2 := e1.trans (fs_same s2 (a := a) (L := L) (ns := ns))
    have flen := fil_lenC (c := 2) (by decide) (fun t ht => (tok t ht).2.2) ss
    have fin := fil_in (l := l) (fun s hs => (sst s hs).1) (fun t ht => (tok t ht).1)
    have ssl := sok.2.1
    refine ⟨(by show 0 ≤ sizeLine; decide), fun D hD => ?_⟩
    have hD0 : H D = none := e2.free gdS S hD
    have nD : D ≠ a := Ne.symm (S.ne hD0)
    have e3 : Fs a L ns H (upd H2 D (.lst [])) := e2.trans (fs_same (same_new hD))
    refine ⟨fun σ' H' => ∃ (rv : V) (o7 o8 o9 : Option V) (rr ds : List Int), σ' = [some (.ref a), some (.ref pT), some (.int 4), some (.int l), some lv, some rv, some (.ref D), o7, o8, o9] ∧ Fs a L ns H H' ∧ IntsT K H' lv ss ∧ IntsT K H' rv rr ∧ (∀ s ∈ rr, InR l s) ∧ rr.length ≤ 8 ∧ H' D = some (.lst (ds.map V.int)) ∧ ds.length ≤ 60 ∧ ∀ s ∈ ds, Stands l ts.length s, ?_, ?_⟩
    · refine ⟨_, rfl, _, _, rfl, rfl, .inl ⟨by decide, by decide⟩, _, _, rfl, rfl, _, rfl, by decide, by decide, ?_⟩
      refine for_it walk_at_range (fun i σ' H' => ∃ (rv : V) (o7 o8 o9 : Option V) (rr ds : List Int), σ' = [some (.ref a), some (.ref pT), some (.int 4), some (.int l), some lv, some rv, some (.ref D), o7, o8, o9] ∧ Fs a L ns H H' ∧ IntsT K H' lv ss ∧ IntsT K H' rv rr ∧ (∀ s ∈ rr, InR l s) ∧ rr.length ≤ 8 ∧ H' D = some (.lst (ds.map V.int)) ∧ ds.length ≤ i ∧ ∀ s ∈ ds, Stands l ts.length s) ⟨rv, _, _, _, _, [], rfl, e3, hl.kt ((KT.of s2).trans (KT.new hD)), hr2.kt (KT.new hD), fin, by omega, upd_same, by simp, by simp⟩ (fun _ _ _ _ _ => trivial) (fun i x σ H' H3 hi p y => ?_) (fun σ H' p => ?_)
      · obtain ⟨rfl, rfl⟩ := y
        obtain ⟨rv, o7, o8, o9, rr, ds, rfl, e4, hl4, hr4, rin, rlen, d1, d2, d3⟩ := p
        have hi60 : i < 60 := hi
        obtain ⟨ar, rfl, sr⟩ := hr4
        refine ⟨_, rfl, ar, _, rfl, .inr sr, rfl, _, rfl, ite2 (fun c => ?_) (fun c => ?_)⟩
        · exact ⟨_, _, _, _, rr, ds, rfl, e4, hl4, ⟨ar, rfl, sr⟩, rin, rlen, d1, by omega, d3⟩
        · have nr : rr ≠ [] := lenN c
          obtain ⟨xs4, f41, f42, f43⟩ := kT e4
          refine ⟨_, rfl, pT, xs4, rfl, .inl (SqL.of f41), _, rfl, mlo (by omega), m62 (by omega), fun D2 hD2 => ?_⟩
          refine lc_it walk_at_range (fun i H' => Same H3 H' ∧ ∃ js : List Int, H' D2 = some (.lst (js.map V.int)) ∧ js.length ≤ i ∧ ∀ j ∈ js, InR ts.length j) ⟨same_new hD2, [], upd_same, by simp, by simp⟩ (fun _ _ _ _ => trivial) (fun j x H4 H5 hj p y => ?_) (fun H4 p => ?_)
          · obtain ⟨rfl, rfl⟩ := y
            obtain ⟨s4, js, j1, j2, j3⟩ := p
            have hj' : j < xs4.length := hj
            have hj2 : j < ts.length := by omega
            obtain ⟨at', ea, sa⟩ := (f43 j _ _ (List.getElem?_eq_getElem hj') (List.getElem?_eq_getElem hj2)).same s4
            have hat : atI xs4 (0 + (j : Int)) = some (.ref at') := by
              rw [Int.zero_add, ← ea]
              exact atI_nat (by simp [hj'])
            have lt := (tok _ (List.getElem_mem hj2)).2.2
            have big : sizeLine = 16777216 := by decide
            refine ⟨rfl, _, rfl, _, rfl, _, rfl, pT, xs4, _, _, rfl, rfl, SqL.of (s4 _ _ f41), hat, at', _, rfl, .inr sa, _, rfl, rd_sl (SqT.same s4 sr) fun c H6 s6 t6 => ?_⟩
            rw [show cutV (rr.map V.int) none (some ((ts[j].map V.int).length : Int)) = (rr.take ts[j].length).map V.int by rw [List.length_map, cut_take, List.map_take]] at t6
            refine ⟨_, rfl, _, rfl, pT, xs4, _, _, rfl, rfl, SqL.of (s6 _ _ (s4 _ _ f41)), hat, iD (rr.take ts[j].length), iD ts[j], dp_ints ⟨c, rfl, t6⟩, dp_ints ⟨at', rfl, SqT.same s6 sa⟩, shaped_iD _ (by rw [List.length_take]; omega), shaped_iD _ (by omega), _, rfl, ite2 (fun _ => ?_) (fun _ => ?_)⟩
            · refine ⟨_, rfl, _, s6 _ _ j1, by rw [List.length_map]; omega, ?_⟩
              rw [snoc_int]
              refine ⟨same_upd (s4.trans s6) hD2, js ++ [_], upd_same, by simp; omega, fun z hz => ?_⟩
              rcases List.mem_append.mp hz with h | h
              · exact j3 z h
              · rw [List.mem_singleton.mp h]
                exact ⟨by omega, by omega⟩
            · exact ⟨s4.trans s6, js, s6 _ _ j1, by omega, j3⟩
          · obtain ⟨s4, js, j1, j2, j3⟩ := p
            have e5 := e4.trans (fs_same s4 (a := a) (L := L) (ns := ns))
            have nD2 : D2 ≠ a := fun z => by
              obtain ⟨_, _, _, q⟩ := e4.on S
              rw [z, q.at_] at hD2
              cases hD2
            have d5 := s4 _ _ d1
            have sr5 := SqT.same s4 sr
            -- one sign more
            have more : ∀ (H6 : Hp) (rv : V) (s : Int) (rr' : List Int) (o7 o8 o9 : Option V), Fs a L ns H H6 → KT H4 H6 → Stands l ts.length s → IntsT K H6 rv rr' → (∀ s ∈ rr', InR l s) → rr'.length ≤ 8 → H6 D = some (.lst ((ds ++ [s]).map V.int)) →
                ∃ (rv' : V) (o7' o8' o9' : Option V) (rr ds' : List Int), ([some (.ref a), some (.ref pT), some (.int 4), some (.int l), some lv, some rv, some (.ref D), o7, o8, o9] : L2.St) = [some (.ref a), some (.ref pT), some (.int 4), some (.int l), some lv, some rv', some (.ref D), o7', o8', o9'] ∧ Fs a L ns H H6 ∧ IntsT K H6 lv ss ∧ IntsT K H6 rv' rr ∧ (∀ s ∈ rr, InR l s) ∧ rr.length ≤ 8 ∧ H6 D = some (.lst (ds'.map V.int)) ∧ ds'.length ≤ i + 1 ∧ ∀ s ∈ ds', Stands l ts.length s := fun H6 rv s rr' o7 o8 o9 f1 f2 f3 f4 f5 f6 f7 => by
              refine ⟨rv, o7, o8, o9, rr', ds ++ [s], rfl, f1, hl4.kt ((KT.of s4).trans f2), f4, f5, f6, f7, by simp; omega, fun z hz => ?_⟩
              rcases List.mem_append.mp hz with h | h
              · exact d3 z h
              · rw [List.mem_singleton.mp h]
                exact f3
            obtain ⟨ha, ha1, ha2⟩ := head_at nr
            have hain : ha ∈ rr := by
              cases rr with
              | nil => exact absurd rfl nr
              | cons x t =>
                have e : x = ha := ha2
                rw [e]
                exact List.mem_cons_self ..
            refine ⟨_, rfl, D2, _, rfl, .inl (SqL.of j1), _, _, rfl, rfl, _, rfl, ite2 (fun c1 => ?_) (fun c1 => ?_)⟩
            · refine ⟨_, rfl, a, L, ns, 2, rfl, e5.on S, by decide, by decide, fun r6 H6 hr6 e6 => ⟨rfl, _, rfl, ite2 (fun c2 => ?_) (fun c2 => ?_)⟩⟩
              · have njs : js.map V.int ≠ [] := fun z => len_pos c1 (List.map_eq_nil_iff.mp z)
                refine ⟨_, rfl, _, rfl, a, L, D2, ns, _, rfl, e6.on (e5.on S), e6.keep _ _ nD2 j1, nD2, njs, by rw [List.length_map]; omega, fun x H7 hx e7 => ?_⟩
                obtain ⟨j, hj, rfl⟩ := List.mem_map.mp hx
                obtain ⟨q0, q1⟩ := j3 j hj
                obtain ⟨jn, rfl⟩ : ∃ k : Nat, j = (k : Int) := ⟨j.toNat, by omega⟩
                have e67 := e6.trans e7
                have d7 := e67.keep _ _ nD d5
                refine ⟨_, rfl, .inl ⟨rfl, _, SqL.of d7⟩, _, rfl, _, rfl, _, _, rfl, rfl, D, _, _, rfl, rfl, d7, by rw [List.length_map]; exact k1000 (by omega), ?_⟩
                rw [snoc_int]
                have kk : KT H7 (upd H7 D (.lst ((ds ++ [-1 - (jn : Int)]).map V.int))) := KT.lst d7
                have e8 := fs_upd S (e5.trans e67) (o := .lst ((ds ++ [-1 - (jn : Int)]).map V.int)) hD0
                obtain ⟨xs8, f81, f82, f83⟩ := kT e8
                have hj1 : jn < xs8.length := by omega
                have hj2 : jn < ts.length := by omega
                obtain ⟨at', ea, sa⟩ := f83 jn _ _ (List.getElem?_eq_getElem hj1) (List.getElem?_eq_getElem hj2)
                have hat : atI xs8 (jn : Int) = some (.ref at') := by
                  rw [← ea]
                  exact atI_nat (by simp [hj1])
                refine ⟨_, rfl, _, rfl, _, rfl, pT, xs8, _, _, rfl, rfl, SqL.of f81, hat, at', _, rfl, .inr sa, _, rfl, rd_sl (kk.tup (e67.kt.tup sr5)) fun c H9 s9 t9 => ?_⟩
                rw [show cutV (rr.map V.int) (some ((ts[jn].map V.int).length : Int)) none = (rr.drop ts[jn].length).map V.int by rw [List.length_map, cut_drop (α := Int), List.map_drop]] at t9
                exact more H9 (.ref c) _ (rr.drop ts[jn].length) _ _ _ (e8.trans (fs_same s9)) ((e67.kt.trans kk).trans (KT.of s9)) ⟨by omega, by omega⟩ ⟨c, rfl, t9⟩ (fun s h => rin s (List.mem_of_mem_drop h)) (by rw [List.length_drop]; omega) (s9 _ _ upd_same)
              ·
                have dh := e6.keep _ _ nD d5
                have srh : SqT K H6 ar (rr.map V.int) := e6.kt.tup sr5
                refine ⟨_, rfl, .inl ⟨rfl, _, SqL.of dh⟩, _, rfl, ar, _, 0, _, rfl, rfl, srh, ha1, D, _, _, rfl, rfl, dh, by rw [List.length_map]; exact k1000 (by omega), ?_⟩
                rw [snoc_int]
                have kk : KT H6 (upd H6 D (.lst ((ds ++ [ha]).map V.int))) := KT.lst dh
                refine ⟨_, rfl, _, rfl, rd_sl (kk.tup srh) fun c H8 s8 t8 => ?_⟩
                have e1 : cutV (rr.map V.int) (some (1 : Int)) none = (rr.drop 1).map V.int := by
                  rw [List.map_drop]
                  exact cut_drop (α := Int) (k := 1)
                rw [e1] at t8
                exact more H8 (.ref c) ha (rr.drop 1) _ _ _ ((fs_upd S (e5.trans e6) hD0).trans (fs_same s8)) ((e6.kt.trans kk).trans (KT.of s8)) ⟨(rin ha hain).2, by have := (rin ha hain).1; omega⟩ ⟨c, rfl, t8⟩ (fun s h => rin s (List.mem_of_mem_drop h)) (by rw [List.length_drop]; omega) (s8 _ _ upd_same)
            ·
              have dh := d5
              have srh : SqT K H4 ar (rr.map V.int) := (Sq.Fr.refl (M := fun b => b = a) (G := fun H => Src H a L ns) H4).kt.tup sr5
              refine ⟨_, rfl, .inl ⟨rfl, _, SqL.of dh⟩, _, rfl, ar, _, 0, _, rfl, rfl, srh, ha1, D, _, _, rfl, rfl, dh, by rw [List.length_map]; exact k1000 (by omega), ?_⟩
              rw [snoc_int]
              have kk : KT H4 (upd H4 D (.lst ((ds ++ [ha]).map V.int))) := KT.lst dh
              refine ⟨_, rfl, _, rfl, rd_sl (kk.tup srh) fun c H8 s8 t8 => ?_⟩
              have e1 : cutV (rr.map V.int) (some (1 : Int)) none = (rr.drop 1).map V.int := by
                rw [List.map_drop]
                exact cut_drop (α := Int) (k := 1)
              rw [e1] at t8
              exact more H8 (.ref c) ha (rr.drop 1) _ _ _ ((fs_upd S (e5.trans (Sq.Fr.refl (M := fun b => b = a) (G := fun H => Src H a L ns) H4)) hD0).trans (fs_same s8)) (((Sq.Fr.refl (M := fun b => b = a) (G := fun H => Src H a L ns) H4).kt.trans kk).trans (KT.of s8)) ⟨(rin ha hain).2, by have := (rin ha hain).1; omega⟩ ⟨c, rfl, t8⟩ (fun s h => rin s (List.mem_of_mem_drop h)) (by rw [List.length_drop]; omega) (s8 _ _ upd_same)
      · obtain ⟨rv, o7, o8, o9, rr, ds, h⟩ := p
        exact ⟨rv, o7, o8, o9, rr, ds, h⟩
    · rintro σ1 H3 ⟨rv, o7, o8, o9, rr, ds, rfl, e4, hl4, ⟨ar, rfl, sr⟩, rin, rlen, d1, d2, d3⟩
      refine ⟨_, rfl, _, rfl, rd_tup (.inl (SqL.of d1)) fun b H4 s4 t4 => ⟨_, rfl, ?_⟩⟩
      have hz : (ds.map V.int).length + (rr.map V.int).length ≤ sizeLine := by
        rw [List.length_map, List.length_map]
        have : sizeLine = 16777216 := by decide
        omega
      refine rd_cat t4 (SqT.same s4 sr) hz fun c H5 s5 t5 => ⟨(by show 2 ≤ sizeLine; decide), fun p hp => ?_⟩
      rw [← List.map_append] at t5
      have sp := same_new (o := .tup [lv, .ref c]) hp
      refine k _ _ (ss, ds ++ rr) (e4.trans (fs_same ((s4.trans s5).trans sp))) ⟨p, _, _, rfl, SqT.of upd_same, hl4.same ((s4.trans s5).trans sp), ⟨c, rfl, SqT.same sp t5⟩⟩ ⟨sst, by show ss.length ≤ 200; omega⟩ ⟨fun s hs => ?_, by show (ds ++ rr).length ≤ 200; rw [List.length_append]; omega⟩
      rcases List.mem_append.mp hs with h | h
      · exact d3 s h
      · have := rin s h
        exact ⟨this.2, by have := this.1; omega⟩
end
end My
set_option maxHeartbeats 4000000
namespace My
open PySem PySem.Spec PyProof.Rows L2 Lcn Sq
def sp__law_draw_rows (K : PySem.W.Frag) : Sp := fun vs H Q _ => ∃ (a L pT : Addr) (ns : List Int) (l : Int) (ts : List (List Int)), vs = [.ref a, .int l, .int ts.length, .ref pT] ∧ Src H a L ns ∧ LstR K (IntsT K) H pT ts ∧ pT ≠ a ∧ 0 < l ∧ l < 500 ∧ 0 < ts.length ∧ ts.length < 500 ∧ TxOk l ts ∧
  ∀ (p : Addr) (H' : Hp) (rs : List Rw), Fs a L ns H H' → H p = none → LstR K (RowT K) H' p rs → rs.length ≤ 3 → (∀ r ∈ rs, SgOk l ts.length r.1 ∧ SgOk l ts.length r.2) → Q (.ref p) H'
theorem sd_sg {l u : Int} {m : Nat} {ss : List Int} (h : SdOk l u m ss) (hm : m ≤ 3) : (∀ s ∈ ss, Stands l u s) ∧ ss.length ≤ 3 := ⟨fun s hs => (h.2.2 s hs).1, by have := h.2.1; omega⟩
theorem cat3 {l u : Int} {x y z : List Int} (hx : (∀ s ∈ x, Stands l u s) ∧ x.length ≤ 3) (hy : (∀ s ∈ y, Stands l u s) ∧ y.length ≤ 3) (hz : (∀ s ∈ z, Stands l u s) ∧ z.length ≤ 3) : SgOk l u (x ++ y ++ z) := by
  refine ⟨fun s hs => ?_, by rw [List.length_append, List.length_append]; have := hx.2; have := hy.2; have := hz.2; omega⟩
  rcases List.mem_append.mp hs with h | h
  · rcases List.mem_append.mp h with h | h
    · exact hx.1 s h
    · exact hy.1 s h
  · exact hz.1 s h
theorem sc__law_draw_rows : FnScope ["_law_source_here", "_law_letters", "_law_unknowns", "_law_texts_here", "_law_way", "_law_rows", "_law_k", "_law_left", "_law_right", "_law_front", "_law_back"] ["_law_source_here", "_law_letters", "_law_unknowns", "_law_texts_here"] (defScope s__law_draw_rows) := ⟨rfl, rfl, rfl, by decide +kernel, rfl, by decide +kernel, by decide +kernel⟩
section
variable {P : Program} {w : World} {K : PySem.W.Frag} {mg : Str → Option Value} {base : Heap}
theorem ok__law_draw_rows (D__law_draw_rows : Dn K mg "_law_draw_rows" s__law_draw_rows ["_law_source_here", "_law_letters", "_law_unknowns", "_law_texts_here"]) (D__law_take : Dn K mg "_law_take" s__law_take ["_law_source_here", "_law_many"]) (G__law_take : FnOk P w K mg base CX0 1 D__law_take.f D__law_take.fd ["_law_source_here", "_law_many"] (sp__law_take)) (D__law_cut_row : Dn K mg "_law_cut_row" s__law_cut_row ["_law_source_here", "_law_texts_here", "_law_most", "_law_letters"]) (G__law_cut_row : FnOk P w K mg base CX0 3 D__law_cut_row.f D__law_cut_row.fd ["_law_source_here", "_law_texts_here", "_law_most", "_law_letters"] (sp__law_cut_row K)) (D__law_side : Dn K mg "_law_side" s__law_side ["_law_source_here", "_law_letters", "_law_unknowns", "_law_most"]) (G__law_side : FnOk P w K mg base CX0 2 D__law_side.f D__law_side.fd ["_law_source_here", "_law_letters", "_law_unknowns", "_law_most"] (sp__law_side K)) (T : TB mg) : FnOk P w K mg base CX0 4 D__law_draw_rows.f D__law_draw_rows.fd ["_law_source_here", "_law_letters", "_law_unknowns", "_law_texts_here"] (sp__law_draw_rows K) := by
  refine ok0 D__law_draw_rows.F sc__law_draw_rows (fun vs H Q E h => ?_) (fun cdv A outer s H vs Q E hr h => ?_)
  · obtain ⟨a, L, pT, ns, l, ts, rfl, S, hT, nT, l0, l1, t0, t1, tok, k⟩ := h
    rfl
  · obtain ⟨a, L, pT, ns, l, ts, rfl, S, hT, nT, l0, l1, t0, t1, tok, k⟩ := h
    refine ⟨_, (pss_cons (ps_set (i := 4) sc__law_draw_rows.nd rfl (by first | exact Or.inl rfl | exact Or.inr rfl) (pe_call G__law_take (hr.mono (by decide)) (by rfl) D__law_take.m D__law_take.F.kp D__law_take.b .nil pass0 (pa_cons (pv 0) (pa_cons pe_int pa_nil))))
  (pss_cons (ps_set (i := 5) sc__law_draw_rows.nd rfl (by first | exact Or.inl rfl | exact Or.inr rfl) (pe_lst pa_nil))
  (pss_cons (ps_for PassesOwn.never rfl (pi_range1 (by rfl) T.range (pa_cons (pe_op op_add pe_int (pe_call G__law_take (hr.mono (by decide)) (by rfl) D__law_take.m D__law_take.F.kp D__law_take.b .nil pass0 (pa_cons (pv 0) (pa_cons pe_int pa_nil)))) pa_nil)) (pg_name (i := 6) sc__law_draw_rows.nd rfl (by first | exact Or.inl rfl | exact Or.inr rfl)) (pss_one (ps_if (pt_cmpR op_eq (pv 4) pe_int (nomark _)) (pss_one (ps_expr (pe_bm PySem.F.plainAttrs_list PySem.F.slot_list_append PySem.F.type_list_append mt_append (pv 5) (pa_cons (pe_call G__law_cut_row (hr.mono (by decide)) (by rfl) D__law_cut_row.m D__law_cut_row.F.kp D__law_cut_row.b .nil pass0 (pa_cons (pv 0) (pa_cons (pv 3) (pa_cons pe_int (pa_cons (pv 1) pa_nil))))) pa_nil)))) (pss_cons (ps_set (i := 7) sc__law_draw_rows.nd rfl (by first | exact Or.inl rfl | exact Or.inr rfl) (pe_call G__law_side (hr.mono (by decide)) (by rfl) D__law_side.m D__law_side.F.kp D__law_side.b .nil pass0 (pa_cons (pv 0) (pa_cons (pv 1) (pa_cons (pv 2) (pa_cons pe_int pa_nil))))))
  (pss_cons (ps_set (i := 8) sc__law_draw_rows.nd rfl (by first | exact Or.inl rfl | exact Or.inr rfl) (pe_call G__law_side (hr.mono (by decide)) (by rfl) D__law_side.m D__law_side.F.kp D__law_side.b .nil pass0 (pa_cons (pv 0) (pa_cons (pv 1) (pa_cons (pv 2) (pa_cons pe_int pa_nil))))))
  (C8.pss_cut (ps_set (i := 9) sc__law_draw_rows.nd rfl (by first | exact Or.inl rfl | exact Or.inr rfl) (pe_ifExp (pt_cmpR op_eq (pv 4) pe_int (nomark _)) (pe_call G__law_side (hr.mono (by decide)) (by rfl) D__law_side.m D__law_side.F.kp D__law_side.b .nil pass0 (pa_cons (pv 0) (pa_cons (pv 1) (pa_cons (pv 2) (pa_cons pe_int pa_nil))))) (pe_tup pa_nil)))
  (C8.pss_cut (ps_set (i := 10) sc__law_draw_rows.nd rfl (by first | exact Or.inl rfl | exact Or.inr rfl) (pe_ifExp (pt_cmpR op_eq (pv 4) pe_int (nomark _)) (pe_call G__law_side (hr.mono (by decide)) (by rfl) D__law_side.m D__law_side.F.kp D__law_side.b .nil pass0 (pa_cons (pv 0) (pa_cons (pv 1) (pa_cons (pv 2) (pa_cons pe_int pa_nil))))) (pe_tup pa_nil)))
  (pss_one (ps_expr (pe_bm PySem.F.plainAttrs_list PySem.F.slot_list_append PySem.F.type_list_append mt_append (pv 5) (pa_cons (pe_tup (pa_cons (pe_op op_catA (pe_op op_catA (pv 9) (pv 7)) (pv 10)) (pa_cons (pe_op op_catA (pe_op op_catA (pv 9) (pv 8)) (pv 10)) pa_nil))) pa_nil)))))))))))
  (pss_one (ps_ret (pv 5)))))), ?_⟩
    have kT : ∀ {H' : Hp}, Fs a L ns H H' → LstR K (IntsT K) H' pT ts := fun e => hT.fs kI e nT
    refine ⟨_, rfl, a, L, ns, 3, rfl, S, by decide, by decide, fun way H1 hw e1 => ?_⟩
    refine ⟨(by show 0 ≤ sizeLine; decide), fun D hD => ?_⟩
    have hD0 : H D = none := e1.free gdS S hD
    have nD : D ≠ a := Ne.symm (S.ne hD0)
    have e2 : Fs a L ns H (upd H1 D (.lst [])) := e1.trans (fs_same (same_new hD))
    refine ⟨_, rfl, a, L, ns, 3, rfl, e2.on S, by decide, by decide, fun r H2 hr2 e3 => ?_⟩
    obtain ⟨r0, r1⟩ := hr2
    refine ⟨_, _, rfl, rfl, _, rfl, mlo (by omega), m62 (by omega), ?_⟩
    refine for_it walk_at_range (fun i σ H' => ∃ (o6 o7 o8 o9 o10 : Option V) (rs : List Rw), σ = [some (.ref a), some (.int l), some (.int ts.length), some (.ref pT), some (.int way), some (.ref D), o6, o7, o8, o9, o10] ∧ Fs a L ns H H' ∧ LstR K (RowT K) H' D rs ∧ rs.length ≤ i ∧ ∀ r ∈ rs, SgOk l ts.length r.1 ∧ SgOk l ts.length r.2) ⟨_, _, _, _, _, [], rfl, e2.trans e3, lst_nil.fs kR e3 nD, by simp, by simp⟩ (fun _ _ _ _ _ => trivial) (fun i x σ H' H3 hi p y => ?_) (fun σ H' p => ?_)
    · obtain ⟨rfl, rfl⟩ := y
      obtain ⟨o6, o7, o8, o9, o10, rs, rfl, e4, ⟨xD, d1, d2, df⟩, d3, d4⟩ := p
      have more : ∀ (H5 : Hp) (v : V) (r : Rw) (o7 o8 o9 o10 : Option V), Fs a L ns H3 H5 → RowT K H5 v r → SgOk l ts.length r.1 → SgOk l ts.length r.2 →
          ∃ (o6' o7' o8' o9' o10' : Option V) (rs' : List Rw), ([some (.ref a), some (.int l), some (.int ts.length), some (.ref pT), some (.int way), some (.ref D), some (.int (0 + (i : Int))), o7, o8, o9, o10] : L2.St) = [some (.ref a), some (.int l), some (.int ts.length), some (.ref pT), some (.int way), some (.ref D), o6', o7', o8', o9', o10'] ∧ Fs a L ns H (upd H5 D (.lst (xD ++ [v]))) ∧ LstR K (RowT K) (upd H5 D (.lst (xD ++ [v]))) D rs' ∧ rs'.length ≤ i + 1 ∧ ∀ r ∈ rs', SgOk l ts.length r.1 ∧ SgOk l ts.length r.2 := fun H5 v r o7 o8 o9 o10 f1 f2 f3 f4 => by
        refine ⟨_, o7, o8, o9, o10, rs ++ [r], rfl, fs_upd S (e4.trans f1) hD0, lst_snoc kR (f1.keep _ _ nD d1) d2 (fun i x z h1 h2 => (df i x z h1 h2).kt f1.kt) f2, by simp; omega, fun z hz => ?_⟩
        rcases List.mem_append.mp hz with h | h
        · exact d4 z h
        · rw [List.mem_singleton.mp h]
          exact ⟨f3, f4⟩
      have len : xD.length < sizeLine := by
        rw [d2]
        exact k1000 (by omega)
      refine ⟨_, rfl, rfl, _, rfl, ite2 (fun c => ?_) (fun c => ?_)⟩
      · refine ⟨_, rfl, .inl ⟨rfl, _, SqL.of d1⟩, _, rfl, _, rfl, _, rfl, a, L, pT, ns, l, ts, rfl, e4.on S, kT e4, nT, l0, l1, t0, t1, tok, fun v H5 r e5 t5 q1 q2 => ?_⟩
        exact ⟨D, _, _, rfl, rfl, e5.keep _ _ nD d1, len, more H5 v r _ _ _ _ e5 t5 q1 q2⟩
      · refine ⟨_, rfl, _, rfl, _, rfl, a, L, ns, l, ts.length, 3, rfl, e4.on S, l0, l1, by omega, by omega, by decide, by decide, fun v5 H5 s5 e5 t5 q5 => ?_⟩
        refine ⟨_, rfl, _, rfl, _, rfl, a, L, ns, l, ts.length, 3, rfl, e5.on (e4.on S), l0, l1, by omega, by omega, by decide, by decide, fun v6 H6 s6 e6 t6 q6 => ?_⟩
        have e56 := e5.trans e6
        refine ⟨fun σ' H' => ∃ (fv : V) (fs : List Int) (o10 : Option V), σ' = [some (.ref a), some (.int l), some (.int ts.length), some (.ref pT), some (.int way), some (.ref D), some (.int (0 + (i : Int))), some v5, some v6, some fv, o10] ∧ Fs a L ns H3 H' ∧ IntsT K H' v5 s5 ∧ IntsT K H' v6 s6 ∧ IntsT K H' fv fs ∧ (∀ s ∈ fs, Stands l ts.length s) ∧ fs.length ≤ 3, ?_, ?_⟩
        · refine ⟨_, rfl, rfl, _, rfl, ite2 (fun _ => ?_) (fun _ => ?_)⟩
          · refine ⟨_, rfl, _, rfl, _, rfl, a, L, ns, l, ts.length, 2, rfl, e56.on (e4.on S), l0, l1, by omega, by omega, by decide, by decide, fun v7 H7 s7 e7 t7 q7 => ?_⟩
            obtain ⟨z1, z2⟩ := sd_sg q7 (by decide)
            exact ⟨v7, s7, _, rfl, e56.trans e7, t5.kt (e6.trans e7).kt, t6.kt e7.kt, t7, z1, z2⟩
          · refine ⟨(by show 0 ≤ sizeLine; decide), fun q hq => ?_⟩
            exact ⟨.ref q, [], _, rfl, e56.trans (fs_same (same_new hq)), t5.kt (e6.kt.trans (KT.new hq)), t6.kt (KT.new hq), ⟨q, rfl, SqT.of upd_same⟩, by simp, by simp⟩
        · rintro σ7 H7 ⟨fv, fs, o10, rfl, e7, t57, t67, tf, f1, f2⟩
          refine ⟨fun σ' H' => ∃ (bv : V) (bs : List Int), σ' = [some (.ref a), some (.int l), some (.int ts.length), some (.ref pT), some (.int way), some (.ref D), some (.int (0 + (i : Int))), some v5, some v6, some fv, some bv] ∧ Fs a L ns H3 H' ∧ IntsT K H' v5 s5 ∧ IntsT K H' v6 s6 ∧ IntsT K H' fv fs ∧ IntsT K H' bv bs ∧ (∀ s ∈ bs, Stands l ts.length s) ∧ bs.length ≤ 3, ?_, ?_⟩
          · refine ⟨_, rfl, rfl, _, rfl, ite2 (fun _ => ?_) (fun _ => ?_)⟩
            · refine ⟨_, rfl, _, rfl, _, rfl, a, L, ns, l, ts.length, 1, rfl, e7.on (e4.on S), l0, l1, by omega, by omega, by decide, by decide, fun v8 H8 s8 e8 t8 q8 => ?_⟩
              obtain ⟨z1, z2⟩ := sd_sg q8 (by decide)
              exact ⟨v8, s8, rfl, e7.trans e8, t57.kt e8.kt, t67.kt e8.kt, tf.kt e8.kt, t8, z1, z2⟩
            · refine ⟨(by show 0 ≤ sizeLine; decide), fun q hq => ?_⟩
              exact ⟨.ref q, [], rfl, e7.trans (fs_same (same_new hq)), t57.kt (KT.new hq), t67.kt (KT.new hq), tf.kt (KT.new hq), ⟨q, rfl, SqT.of upd_same⟩, by simp, by simp⟩
          · rintro σ8 H8 ⟨bv, bs, rfl, e8, ⟨a5, rfl, w5⟩, ⟨a6, rfl, w6⟩, ⟨af, rfl, wf⟩, ⟨ab, rfl, wb⟩, b1, b2⟩
            have z5 := sd_sg q5 (by decide)
            have z6 := sd_sg q6 (by decide)
            have big : sizeLine = 16777216 := by decide
            have y5 := z5.2
            have y6 := z6.2
            have h1 : (fs.map V.int).length + (s5.map V.int).length ≤ sizeLine := by simp only [List.length_map]; omega
            have h2 : (fs.map V.int ++ s5.map V.int).length + (bs.map V.int).length ≤ sizeLine := by simp only [List.length_append, List.length_map]; omega
            have h3 : (fs.map V.int).length + (s6.map V.int).length ≤ sizeLine := by simp only [List.length_map]; omega
            have h4 : (fs.map V.int ++ s6.map V.int).length + (bs.map V.int).length ≤ sizeLine := by simp only [List.length_append, List.length_map]; omega
            refine ⟨_, rfl, .inl ⟨rfl, _, SqL.of (e8.keep _ _ nD d1)⟩, ?_⟩
            refine ⟨_, rfl, _, rfl, rd_cat wf w5 h1 fun c1 G1 g1 u1 => ⟨_, rfl, rd_cat u1 (SqT.same g1 wb) h2 fun c2 G2 g2 u2 => ?_⟩⟩
            have g12 := g1.trans g2
            refine ⟨_, rfl, _, rfl, rd_cat (SqT.same g12 wf) (SqT.same g12 w6) h3 fun c3 G3 g3 u3 => ⟨_, rfl, rd_cat u3 (SqT.same (g12.trans g3) wb) h4 fun c4 G4 g4 u4 => ?_⟩⟩
            refine ⟨(by show 2 ≤ sizeLine; decide), fun p hp => ?_⟩
            have sp := same_new (o := .tup [.ref c2, .ref c4]) hp
            have ge := (fs_same (a := a) (L := L) (ns := ns) (((g12.trans g3).trans g4).trans sp))
            have e9 := e8.trans ge
            rw [← List.map_append, ← List.map_append] at u2 u4
            refine ⟨D, _, _, rfl, rfl, e9.keep _ _ nD d1, len, more _ (.ref p) (fs ++ s5 ++ bs, fs ++ s6 ++ bs) _ _ _ _ e9 ⟨p, _, _, rfl, SqT.of upd_same, ⟨c2, rfl, SqT.same ((g3.trans g4).trans sp) u2⟩, ⟨c4, rfl, SqT.same sp u4⟩⟩ (cat3 ⟨f1, f2⟩ z5 ⟨b1, b2⟩) (cat3 ⟨f1, f2⟩ z6 ⟨b1, b2⟩)⟩
    · obtain ⟨o6, o7, o8, o9, o10, rs, rfl, e4, d1, d3, d4⟩ := p
      exact ⟨_, rfl, k D _ rs e4 hD0 d1 (by omega) d4⟩
end
end My
set_option maxHeartbeats 4000000
/-! enumerate(t), t a tuple -/
namespace En
open PySem PySem.Spec PyProof.Rows L2 Sq
open AutoSeq1 (wpAny_loadPart')
section
variable {prog : Program} {w : World} {A : Around} {E : Value → Shared → Prop} {s : Shared}
/-- one step of the tuple's own walk -/
theorem next_t {it t : Addr} {i : Nat} {items : Array Value} {x : Value} {Q : Value → Shared → Prop} (hit : s.heap.IsTupleIter it t i) (ht : s.heap.IsTuple t items) (hx : items[i]? = some x)
    (hQ : ∀ h', h'.IsTupleIter it t (i + 1) → Heap.SameBut it s.heap h' → Q x { s with heap := h' }) : wpAny (model prog w) A (Builtin.SmallTypes.nextOf (.ref it)) Q E s := by
  obtain ⟨o, ho, hc, hd⟩ := id hit
  obtain ⟨ol, hol, _, nl, hdl⟩ := ht
  unfold Builtin.SmallTypes.nextOf
  refine wpAny_bind (wpAny_callSpecial?_slot (name := Str.ofString "__next__") hit.typeIs F.slot_tuple_iterator_next (wpAny_call_entry F.slot_tuple_iterator_next hit.typeIs F.entry_tuple_iterator_next ?_ (F.args_tuple_iterator_next_1 _)))
  show wpAny _ _ (field (.ref it) 0 >>= _) _ _ s
  refine wpAny_bind (wpAny_field ho hd (x := .ref t) rfl ?_)
  show wpAny _ _ (if (Value.ref t == Value.none) = true then _ else _) _ _ s
  rw [if_neg (show ¬ ((Value.ref t == Value.none) = true) from Bool.false_ne_true)]
  show wpAny _ _ (field (.ref it) 1 >>= _) _ _ s
  refine wpAny_bind (wpAny_field ho hd (x := .int i 0) rfl ?_)
  show wpAny _ _ (seqItems? (.ref t) >>= _) _ _ s
  refine wpAny_bind (wpAny_seqItems hol hdl ?_)
  simp only [Int.toNat_natCast, hx]
  refine wpAny_bind (wpAny_setField ho hd (by simp) (wpAny_pure ⟨x, rfl, wpAny_pure (hQ _ ?_ (Heap.SameBut.update ..))⟩))
  exact ⟨_, Heap.get?_update_self _ ho (Obj.isFreed_of_fields (Obj.data_mapFields hd _)), (Obj.cls_mapFields ..).trans hc, by
    rw [Obj.data_mapFields hd]; simp [rawInt]⟩
theorem next_t_end {it t : Addr} {i : Nat} {items : Array Value} {Q : Value → Shared → Prop} (hh : A.handled = none) (hit : s.heap.IsTupleIter it t i) (ht : s.heap.IsTuple t items) (hx : items[i]? = none)
    (hE : ∀ h' e, Heap.ExtBut it s.heap h' → (∃ o, h'.get? e = some o ∧ o.cls = .type "StopIteration") → E (.ref e) { s with heap := h' }) : wpAny (model prog w) A (Builtin.SmallTypes.nextOf (.ref it)) Q E s := by
  obtain ⟨o, ho, hc, hd⟩ := id hit
  obtain ⟨ol, hol, _, nl, hdl⟩ := ht
  unfold Builtin.SmallTypes.nextOf
  refine wpAny_bind (wpAny_callSpecial?_slot (name := Str.ofString "__next__") hit.typeIs F.slot_tuple_iterator_next (wpAny_call_entry F.slot_tuple_iterator_next hit.typeIs F.entry_tuple_iterator_next ?_ (F.args_tuple_iterator_next_1 _)))
  show wpAny _ _ (field (.ref it) 0 >>= _) _ _ s
  refine wpAny_bind (wpAny_field ho hd (x := .ref t) rfl ?_)
  show wpAny _ _ (if (Value.ref t == Value.none) = true then _ else _) _ _ s
  rw [if_neg (show ¬ ((Value.ref t == Value.none) = true) from Bool.false_ne_true)]
  show wpAny _ _ (field (.ref it) 1 >>= _) _ _ s
  refine wpAny_bind (wpAny_field ho hd (x := .int i 0) rfl ?_)
  show wpAny _ _ (seqItems? (.ref t) >>= _) _ _ s
  refine wpAny_bind (wpAny_seqItems hol hdl ?_)
  simp only [Int.toNat_natCast, hx]
  refine wpAny_bind (wpAny_rule (wpAny_bind (wpAny_setField ho hd (by simp) ?_)))
  show wpAny _ _ (newExc (.type "StopIteration") [] >>= _) _ _ _
  refine wpAny_bind ?_
  simp only [newExc, newTuple]
  refine wpAny_bind (wpAny_newObj_type ?_ (by size_fits))
  refine wpAny_bind (m := firstArgMember _ _) (wpAny_of_eq (a := Value.none) (by first | rfl | (simp only [firstArgMember]; rfl)) ?_)
  refine wpAny_newObj_type ?_ (by size_fits)
  simp only [raiseNew]
  refine wpAny_bind (wpAny_handled ?_)
  first | rw [show A.in1.handled = none from hh] | rw [hh]
  refine wpAny_bind (wpAny_pure (wpAny_throw ?_))
  exact hE _ _ (((Heap.SameBut.update ..).extBut.push _).push _) ⟨_, Heap.get?_push_size _ rfl, rfl⟩
/-- one step of the enumeration, whatever is walked within: N gives its item and keeps P, a fact that other records don't touch -/
theorem enum_step {e it : Addr} {i : Nat} {x old : Value} {P : Heap → Prop} {Q : Value → Shared → Prop} (he : IsEnum s.heap e it i old) (hne : e ≠ it) (pk : ∀ h h', (∀ o, h.get? it = some o → h'.get? it = some o) → P h → P h')
    (N : ∀ (A : Around) (Q : Value → Shared → Prop), (∀ h', P h' → Heap.SameBut it s.heap h' → Q x { s with heap := h' }) → wpAny (model prog w) A (Builtin.SmallTypes.nextOf (.ref it)) Q E s)
    (hQ : ∀ h', IsEnumOut h' e it ((i : Int) + 1) x s.heap.objs.size → P h' → h'.get? s.heap.objs.size = some { cls := .type "tuple", data := .seq #[.int i s.toks, x] } → h'.objs.size = s.heap.objs.size + 1 →
      (∀ b o, b ≠ e → b ≠ it → s.heap.get? b = some o → h'.get? b = some o) → Q (.ref s.heap.objs.size) { s with heap := h', toks := s.toks + 1 }) :
    wpAny (model prog w) A (Builtin.«enumerate.__next__» ⟨[.ref e], []⟩) (fun fin s' => ∃ v, fin = .done (.ret v) ∧ Q v s') E s := by
  obtain ⟨hp, g, d, tk, os⟩ := s
  have apart : ∀ {h h' : Heap}, Heap.SameBut e h h' → P h → P h' := fun sb p => pk _ _ (fun o q => (sb.2 it (Ne.symm hne)).trans q) p
  have el := Heap.lt_size he
  show wpAny _ _ (field (.ref e) 2 >>= _) _ _ _
  refine wpAny_bind (wpAny_field he rfl (x := .ref it) rfl (wpAny_bind (N _ _ fun h1 p1 sb1 => ?_)))
  have e1 : IsEnum h1 e it i old := (sb1.2 e hne).trans he
  show wpAny _ _ (field (.ref e) 3 >>= _) _ _ ⟨h1, g, d, tk, os⟩
  refine wpAny_bind (wpAny_field e1 rfl (x := rawInt i) rfl ?_)
  show wpAny _ _ (field (.ref e) 4 >>= _) _ _ ⟨h1, g, d, tk, os⟩
  refine wpAny_bind (wpAny_field e1 rfl (x := .none) rfl ?_)
  show wpAny _ _ (mkInt i >>= _) _ _ ⟨h1, g, d, tk, os⟩
  refine wpAny_bind (wpAny_mkInt ?_)
  show wpAny _ _ (setField (.ref e) 3 (rawInt ((i : Int) + 1)) >>= _) _ _ ⟨h1, g, d, tk + 1, os⟩
  refine wpAny_bind (wpAny_setField_rec e1 (by simp) fun h2 e2 sb2 => ?_)
  replace e2 : IsEnum h2 e it ((i : Int) + 1) old := e2
  show wpAny _ _ (setField (.ref e) 4 .none >>= _) _ _ ⟨h2, g, d, tk + 1, os⟩
  refine wpAny_bind (wpAny_setField_rec e2 (by simp) fun h3 e3 sb3 => ?_)
  replace e3 : IsEnum h3 e it ((i : Int) + 1) old := e3
  replace sb1 : Heap.SameBut it hp h1 := sb1
  replace sb2 : Heap.SameBut e h1 h2 := sb2
  replace sb3 : Heap.SameBut e h2 h3 := sb3
  have z : h3.objs.size = hp.objs.size := by rw [sb3.1, sb2.1, sb1.1]
  show wpAny _ _ (newTuple [.int i tk, x] >>= _) _ _ ⟨h3, g, d, tk + 1, os⟩
  refine wpAny_bind (wpAny_newTuple ?_)
  have p4 : P (h3.push { cls := .type "tuple", data := .seq #[.int i tk, x] }) := pk _ _ (fun o q => Heap.get?_push_of_some _ q) (apart sb3 (apart sb2 p1))
  have e4 : IsEnum (h3.push { cls := .type "tuple", data := .seq #[.int i tk, x] }) e it ((i : Int) + 1) old := Heap.get?_push_of_some _ e3
  have t4 : (h3.push { cls := .type "tuple", data := .seq #[.int i tk, x] }).get? hp.objs.size = some { cls := .type "tuple", data := .seq #[.int i tk, x] } := by rw [← z]; exact Heap.get?_push_size _ rfl
  have z4 : (h3.push { cls := .type "tuple", data := .seq #[.int i tk, x] }).objs.size = hp.objs.size + 1 := by rw [Heap.size_push, z]
  have k4 : ∀ b o, b ≠ e → b ≠ it → hp.get? b = some o → (h3.push { cls := .type "tuple", data := .seq #[.int i tk, x] }).get? b = some o := fun b o be bi q => Heap.get?_push_of_some _ (sb3.extBut b o be (sb2.extBut b o be (sb1.extBut b o bi q)))
  generalize h3.push { cls := .type "tuple", data := .seq #[.int i tk, x] } = h4 at p4 e4 t4 z4 k4
  rw [z]
  clear z sb1 sb2 sb3 e1 e2 e3 p1
  show wpAny _ _ (Builtin.SmallTypes.ownedTupleIsFree (.ref e) >>= _) _ _ ⟨h4, g, d, tk + 1, os⟩
  refine wpAny_bind ?_
  unfold Builtin.SmallTypes.ownedTupleIsFree
  refine wpAny_bind (wpAny_field e4 rfl (x := .none) rfl (wpAny_pure ?_))
  simp only [if_true]
  refine wpAny_bind (wpAny_rule (wpAny_bind (wpAny_field e4 rfl (x := old) rfl (wpAny_bind (wpAny_setField_rec e4 (by simp) fun h5 e5 sb5 => ?_)))))
  replace e5 : IsEnum h5 e it ((i : Int) + 1) x := e5
  show wpAny _ _ (Builtin.SmallTypes.ownedTupleHandOut (.ref e) (.ref hp.objs.size) >>= _) _ _ ⟨h5, g, d, tk + 1, os⟩
  refine wpAny_bind ?_
  unfold Builtin.SmallTypes.ownedTupleHandOut
  refine wpAny_bind (wpAny_setField_rec e5 (by simp) fun h6 e6 sb6 => ?_)
  replace e6 : IsEnumOut h6 e it ((i : Int) + 1) x hp.objs.size := e6
  refine wpAny_setField_rec e6 (by simp) fun h7 e7 sb7 => ?_
  replace e7 : IsEnumOut h7 e it ((i : Int) + 1) x hp.objs.size := e7
  replace sb5 : Heap.SameBut e h4 h5 := sb5
  replace sb6 : Heap.SameBut e h5 h6 := sb6
  replace sb7 : Heap.SameBut e h6 h7 := sb7
  have ne4 : hp.objs.size ≠ e := Nat.ne_of_gt el
  refine wpAny_bind (wpAny_letGo (wpAny_pure ⟨_, rfl, hQ h7 e7 (apart sb7 (apart sb6 (apart sb5 p4))) (sb7.extBut _ _ ne4 (sb6.extBut _ _ ne4 (sb5.extBut _ _ ne4 t4))) ?_ fun b o be bi q => sb7.extBut b o be (sb6.extBut b o be (sb5.extBut b o be (k4 b o be bi q)))⟩))
  rw [sb7.1, sb6.1, sb5.1, z4]
theorem enum_t_item {e it t : Addr} {i : Nat} {items : Array Value} {x old : Value} {Q : Option Value → Shared → Prop} (he : IsEnum s.heap e it i old) (hit : s.heap.IsTupleIter it t i) (ht : s.heap.IsTuple t items) (hx : items[i]? = some x) (hne : e ≠ it)
    (hQ : ∀ h', IsEnumOut h' e it ((i : Int) + 1) x s.heap.objs.size → h'.IsTupleIter it t (i + 1) → h'.get? s.heap.objs.size = some { cls := .type "tuple", data := .seq #[.int i s.toks, x] } → h'.objs.size = s.heap.objs.size + 1 →
      (∀ b o, b ≠ e → b ≠ it → s.heap.get? b = some o → h'.get? b = some o) → Q (some (.ref s.heap.objs.size)) { s with heap := h', toks := s.toks + 1 }) : wpAny (model prog w) A (pyNext (.ref e)) Q E s := by
  have hT : s.TypeIs (.ref e) "enumerate" := ⟨_, he, rfl⟩
  unfold pyNext
  refine wpAny_bind (wpAny_attempt (wpAny_callSpecial?_slot (name := Str.ofString "__next__") hT F.slot_enumerate_next (wpAny_call_entry F.slot_enumerate_next hT F.entry_enumerate_next ?_ (F.args_enumerate_next_1 _))))
  refine enum_step (P := fun h => h.IsTupleIter it t (i + 1)) he hne (fun h h' k p => ?_) (fun A Q q => next_t hit ht hx q) fun h' a b c d k => wpAny_pure (hQ h' a b c d k)
  obtain ⟨o, ho, r⟩ := p
  exact ⟨o, k o ho, r⟩
theorem enum_t_end {e it t : Addr} {i : Nat} {items : Array Value} {old : Value} {Q : Option Value → Shared → Prop} (hh : A.handled = none) (he : IsEnum s.heap e it i old) (hit : s.heap.IsTupleIter it t i) (ht : s.heap.IsTuple t items) (hx : items[i]? = none)
    (hQ : ∀ h', Heap.ExtBut it s.heap h' → Q none { s with heap := h' }) : wpAny (model prog w) A (pyNext (.ref e)) Q E s := by
  have hT : s.TypeIs (.ref e) "enumerate" := ⟨_, he, rfl⟩
  unfold pyNext
  refine wpAny_bind (wpAny_attempt (wpAny_callSpecial?_slot (name := Str.ofString "__next__") hT F.slot_enumerate_next (wpAny_call_entry F.slot_enumerate_next hT F.entry_enumerate_next ?_ (F.args_enumerate_next_1 _))))
  show wpAny _ _ (field (.ref e) 2 >>= _) _ _ _
  refine wpAny_bind (wpAny_field he rfl (x := .ref it) rfl (wpAny_bind (next_t_end hh hit ht hx fun h' x he' hx' => ?_)))
  obtain ⟨o, ho, hc⟩ := hx'
  exact wpAny_bind (wpAny_isInstance (T := "StopIteration") (b := true) ⟨o, ho, hc⟩ isSubtype_stop (wpAny_pure (hQ _ he')))
end
theorem new_t (t : Addr) (items : Array Value) (n : Nat) (dct : Option Addr) (sl : Array (Option Value)) :
    Meets (Builtin.«enumerate.__new__» ⟨[.type "enumerate", .ref t], []⟩) (fun _ R s => s.heap.get? t = some ⟨.type "tuple", dct, .seq items n, sl⟩ ∧
      R (.ok (.ret (.ref (s.heap.push { cls := .type "tuple_iterator", data := .fields #[.ref t, .int 0 0] }).objs.size)))
        { s with heap := (s.heap.push { cls := .type "tuple_iterator", data := .fields #[.ref t, .int 0 0] }).push { cls := .type "enumerate", data := .fields #[.none, .bool false, .ref s.heap.objs.size, rawInt 0, .none, .none] } }) :=
  .of_wp fun prog w A R s h => by
    obtain ⟨hp, g, d, tk, os⟩ := s
    obtain ⟨hl, h⟩ := h
    have hsub := sub_enumerate
    have hL : Heap.IsTuple (Shared.heap ⟨hp, g, d, tk, os⟩) t items := ⟨_, hl, rfl, n, rfl⟩
    wp_walk using wpAny_loadPart' hl
    refine wpAny_stack_any fun st => wpAny_pure ?_
    split
    · rename_i c _ _ _ _ _
      cases (c == Value.type "enumerate") <;> (wp_walk using wpAny_loadPart' hl, wpAny_pyIter_tuple hL; exact ⟨_, rfl, h⟩)
    · wp_walk using wpAny_loadPart' hl, wpAny_pyIter_tuple hL
      exact ⟨_, rfl, h⟩
section
variable {prog : Program} {w : World} {A : Around} {E : Value → Shared → Prop} {s : Shared}
theorem call_enumT {t : Addr} {items : Array Value} {Q : Value → Shared → Prop} (hL : s.heap.IsTuple t items)
    (h : ∀ h', IsEnum h' (s.heap.objs.size + 1) s.heap.objs.size 0 .none → h'.IsTupleIter s.heap.objs.size t 0 → (∀ b o, s.heap.get? b = some o → h'.get? b = some o) → Q (.ref (s.heap.objs.size + 1)) { s with heap := h' }) : wpAny (model prog w) A (call (.type "enumerate") [.ref t]) Q E s := by
  obtain ⟨⟨c, dct, dt, sl⟩, hl, hc, n, hd⟩ := hL
  dsimp only at hc hd
  subst hc hd
  refine callType_new F.called_enumerate (by decide) (F.typeCall_enumerate_1 _) (F.newCall_enumerate_1 _) (fun obj => F.args_object_init_2 obj _) F.entry_enumerate_new (new_t t items n dct sl) ⟨hl, ?_⟩
  have z : (s.heap.push { cls := .type "tuple_iterator", data := .fields #[.ref t, .int 0 0] }).objs.size = s.heap.objs.size + 1 := Heap.size_push ..
  show _ ∧ _
  rw [z]
  have he : IsEnum ((s.heap.push { cls := .type "tuple_iterator", data := .fields #[.ref t, .int 0 0] }).push { cls := .type "enumerate", data := .fields #[.none, .bool false, .ref s.heap.objs.size, rawInt 0, .none, .none] }) (s.heap.objs.size + 1) s.heap.objs.size 0 .none := by
    rw [← z]
    exact Heap.get?_push_size _ rfl
  exact ⟨⟨_, he, rfl⟩, h _ he ⟨_, Heap.get?_push_of_some _ (Heap.get?_push_size _ rfl), rfl, rfl⟩ fun b o x => Heap.get?_push_of_some _ (Heap.get?_push_of_some _ x)⟩
end
/-- the tuple at a, each item in a new pair with its number -/
def IteT (K : PySem.W.Frag) (a : Addr) : It :=
  ⟨fun i H => ∃ (xs : List V) (x : V), SqT K H a xs ∧ xs[i]? = some x, fun i H v H' => ∃ T x, v = .ref T ∧ H T = none ∧ H' = upd H T (.tup [.int (i : Nat), x]) ∧ ∀ xs, SqT K H a xs → xs[i]? = some x, fun i H => ∃ xs : List V, SqT K H a xs ∧ xs.length ≤ i⟩
theorem turn_enumT {P : Program} {w : World} {K : PySem.W.Frag} {elts : List Expr} {kk : Nat} {tpos : Pos} (a e it : Addr) :
    Turn P w K (.Tuple elts kk tpos) (IteT K a) [e, it] e (fun i h => (∃ old, IsEnum h e it ((i : Nat) : Int) old) ∧ h.IsTupleIter it a i ∧ e ≠ it) where
  mem := by simp
  obj := fun i h st b hb => by
    obtain ⟨⟨old, he⟩, ⟨o, ho, hc, hd⟩, _⟩ := st
    rcases (by simpa using hb : b = e ∨ b = it) with z | z
    · rw [z]; exact ⟨_, he, fun v q => nomatch q⟩
    · rw [z]; exact ⟨o, ho, fun v q => by rw [hd] at q; cases q⟩
  keep := fun i h h' st k => by
    obtain ⟨⟨old, he⟩, ⟨o, ho, r⟩, hne⟩ := st
    exact ⟨⟨old, k e (by simp) _ he⟩, ⟨o, k it (by simp) o ho, r⟩, hne⟩
  item := by
    intro X hP hw hK hc i pins s σ H E I hf st hg
    subst hP hw hK
    obtain ⟨⟨old, he⟩, hit, hne⟩ := st
    obtain ⟨xs, x, hq, hx⟩ := hg
    obtain ⟨its, rv, p, hz⟩ := I.tuple hq
    obtain ⟨u, hu, ru⟩ := rv.get hx
    have el := Heap.lt_size he
    have il : it < s.heap.objs.size := by
      obtain ⟨_, q, _⟩ := hit
      exact Heap.lt_size q
    refine enum_t_item he hit (show s.heap.IsTuple a its.toArray from p) (x := u) (by simpa using hu) hne fun h' ho hit' hT hsz hk => ?_
    refine ⟨_, rfl, wpAny_letOwnedTupleGo_enum (s := { s with heap := h', toks := s.toks + 1 }) ho fun h'' he' sb => ?_⟩
    have hT2 : h''.get? s.heap.objs.size = some { cls := .type "tuple", data := .seq #[.int i s.toks, u] } := (sb.2 _ (Nat.ne_of_gt el)).trans hT
    have I1 : Inv X pins σ (upd H s.heap.objs.size (.tup [.int (i : Nat), x])) { s with heap := h'', toks := s.toks + 1 } :=
      I.turnedNew (ch := [e, it]) (fun b ob hb q => (sb.2 b (fun z => hb (by simp [z]))).trans (hk b ob (fun z => hb (by simp [z])) (fun z => hb (by simp [z])) q)) hf (Nat.le_refl _) ⟨by show 2 ≤ sizeLine; decide, [.int i s.toks, u], .cons ⟨_, rfl⟩ (.cons ru .nil), ⟨_, hT2, rfl, _, rfl⟩⟩
    refine ⟨.ref s.heap.objs.size, _, I1, rfl, ⟨_, x, rfl, I.hok.fresh (Nat.le_refl _), rfl, fun ys hy => by rw [I.tuple_inj hy hq]; exact hx⟩, ⟨⟨u, ?_⟩, ?_, hne⟩, fun b hb => ?_⟩
    · rw [show ((i + 1 : Nat) : Int) = (i : Int) + 1 by omega]
      exact he'
    · obtain ⟨o, ho, r⟩ := hit'
      exact ⟨o, (sb.2 it (Ne.symm hne)).trans ho, r⟩
    · have lt : b < s.heap.objs.size := by
        rcases (by simpa using hb : b = e ∨ b = it) with z | z
        · rw [z]; exact el
        · rw [z]; exact il
      rw [upd_ne (Nat.ne_of_lt lt)]
      exact (hf b hb).1
  done := by
    intro X hP hw hK hc i pins s σ H E I hf st hg
    subst hP hw hK
    obtain ⟨⟨old, he⟩, hit, hne⟩ := st
    obtain ⟨xs, hq, hx⟩ := hg
    obtain ⟨its, rv, p, hz⟩ := I.tuple hq
    obtain ⟨f0, f1, f2, f3, f4, f5⟩ := hf it (by simp)
    have hl := rv.length
    exact enum_t_end (I.ok.hd hc) he hit (show s.heap.IsTuple a its.toArray from p) (by simp; omega) fun h' eb => ⟨rfl, I.turned (t' := s.toks) (fun b o hb q => eb b o hb q) f0 f1 f3 f4 f5⟩
  self := fun A i s Q E st h => by
    obtain ⟨⟨_, he⟩, _⟩ := st
    exact wpAny_pyIter_enum he h
@[irreducible] def iEnumT (K : PySem.W.Frag) (ta : TA) : TI := fun σ H R => ta σ H fun vs H1 => ∃ a xs, vs = [.ref a] ∧ SqT K H1 a xs ∧ R (IteT K a) H1
theorem pi_enumT {X : Cx} {e : Expr} {ta : TA} {p pos tpos : Pos} {elts : List Expr} {kk : Nat} (hg : Gl X "enumerate") (hm : X.mg "enumerate" = none) (ha : PA X [e] ta) (hs : starEach [e] X.env = [(false, eval e X.env)] := by rfl) :
    PI X (.Tuple elts kk tpos) (.Call (.Name "enumerate" p) [e] [] pos) (iEnumT X.K ta) := by
  refine ⟨fun pins s σ H R I h => ?_⟩
  unfold iEnumT at h
  refine Call_ (ld_blt I hg hm boot_enumerate (PyProof.Rows.callWith_type1 (thn (ha.run pos pins s σ H _ I h) fun us s1 ⟨vs, H1, I1, r1, a, xs, ex, hq, q⟩ => ?_) hs rfl))
  subst ex
  cases r1 with
  | cons r rr =>
    cases rr
    cases r
    obtain ⟨its, rv, p', hz⟩ := I1.tuple hq
    refine call_enumT (show s1.heap.IsTuple a its.toArray from p') fun h' he hit hk => wpAny_pyIter_enum he ?_
    refine ⟨s1.heap.objs.size + 1, [s1.heap.objs.size + 1, s1.heap.objs.size], _, _, H1, rfl, I1.kept (t' := s1.toks) hk, turn_enumT a (s1.heap.objs.size + 1) s1.heap.objs.size, ⟨⟨.none, he⟩, hit, Nat.succ_ne_self _⟩, fun b hb => ?_, q⟩
    have hle : s1.heap.objs.size ≤ b := by
      rcases (by simpa using hb : b = s1.heap.objs.size + 1 ∨ b = s1.heap.objs.size) with z | z
      · rw [z]; exact Nat.le_add_right _ _
      · rw [z]; exact Nat.le_refl _
    exact I1.fpOk hle (I1.hok.fresh hle)
theorem walk_enumT {K : PySem.W.Frag} {a : Addr} {xs : List V} : Walk (IteT K a) xs.length (fun H => SqT K H a xs) (fun i H v H' => ∃ T x, v = .ref T ∧ H T = none ∧ H' = upd H T (.tup [.int (i : Nat), x]) ∧ xs[i]? = some x) :=
  ⟨fun i H hi h => ⟨xs, xs[i], h, by simp [hi]⟩, fun H h => ⟨xs, h, Nat.le_refl _⟩, fun i H x H' hi h y => by
    obtain ⟨T, z, h1, h2, h3, h4⟩ := y
    exact ⟨T, z, h1, h2, h3, h4 xs h⟩⟩
end En
set_option maxHeartbeats 4000000
namespace My
open PySem PySem.Spec PyProof.Rows L2 Lcn Sq
/-! ### the program's own stripping -/
def wV : Option Str → V
  | none => .non
  | some w => .str w
def sp_clash_word (K : PySem.W.Frag) : Sp := fun vs H Q _ => ∃ (lv rv : V) (l r : List Int), vs = [lv, rv] ∧ IntsT K H lv l ∧ IntsT K H rv r ∧ ∀ H', Same H H' → Q (wV (clashW l r)) H'
theorem atN {l : List Int} {b : Nat} (h : b < l.length) : atI (l.map V.int) (-1 - (b : Int)) = some (.int l[l.length - 1 - b]) := by
  have e : ixN (l.map V.int).length (-1 - (b : Int)) = some (l.length - 1 - b) := by
    unfold ixN
    rw [List.length_map, if_neg (by omega), if_pos (by omega)]
    congr 1
    omega
  unfold atI
  rw [e]
  have : l.length - 1 - b < l.length := by omega
  simp [List.getElem?_map, this]
theorem last_neg {l : List Int} (h : l ≠ []) : ∃ a, atI (l.map V.int) (-1) = some (.int a) ∧ l.getLastD 0 = a := by
  obtain ⟨i, a, rfl⟩ := snoc_of h
  refine ⟨a, ?_, getLastD_snoc⟩
  rw [List.map_append]
  exact atI_last _ _
theorem emp_t {l : List Int} (h : l = []) : (!(l.map V.int).isEmpty) = false := by subst h; rfl
theorem emp_f {l : List Int} (h : l ≠ []) : (!(l.map V.int).isEmpty) = true := by
  cases l with
  | nil => exact absurd rfl h
  | cons a t => rfl
theorem tru_t {K : PySem.W.Frag} {H : Hp} {a : Addr} {l : List Int} (s : SqT K H a (l.map V.int)) (h : l ≠ []) : TruV K (.ref a) H true := .inr (.inl ⟨_, s, (emp_f h).symm⟩)
theorem tru_f {K : PySem.W.Frag} {H : Hp} {a : Addr} {l : List Int} (s : SqT K H a (l.map V.int)) (h : l = []) : TruV K (.ref a) H false := .inr (.inl ⟨_, s, (emp_t h).symm⟩)
theorem sc_clash_word : FnScope ["left", "right"] ["left", "right"] (defScope s_clash_word) := ⟨rfl, rfl, rfl, by decide +kernel, rfl, by decide +kernel, by decide +kernel⟩
section
variable {P : Program} {w : World} {K : PySem.W.Frag} {mg : Str → Option Value} {base : Heap}
theorem ok_clash_word (D_clash_word : Dn K mg "clash_word" s_clash_word ["left", "right"]) (T : TB mg) : FnOk P w K mg base CX0 1 D_clash_word.f D_clash_word.fd ["left", "right"] (sp_clash_word K) := by
  refine ok0 D_clash_word.F sc_clash_word (fun vs H Q E h => ?_) (fun cdv A outer s H vs Q E hr h => ?_)
  · obtain ⟨lv, rv, l, r, rfl, hl, hr1, k⟩ := h
    rfl
  · obtain ⟨lv, rv, l, r, rfl, hl, hr1, k⟩ := h
    refine ⟨_, (pss_cons (ps_if (PW.pt (pw_and (pt_not (pt_truth (pv 0) (by intro _; rfl))) (pw_and1 (pt_not (pt_truth (pv 1) (by intro _; rfl)))))) (pss_one (ps_ret pe_non)) pss_nil)
  (pss_cons (ps_if (PW.pt (pw_or (pt_not (pt_truth (pv 0) (by intro _; rfl))) (pw_or1 (pt_not (pt_truth (pv 1) (by intro _; rfl)))))) (pss_one (ps_ret pe_str)) pss_nil)
  (C8.pss_cut (ps_if (PW.pt (pw_and (pt_cmpR op_ge (pe_ix ix_tup (pv 0) pe_int (fun _ _ => rfl)) pe_int (nomark _)) (pw_and1 (pt_cmpR op_ge (pe_ix ix_tup (pv 1) pe_int (fun _ _ => rfl)) pe_int (nomark _))))) (pss_one (ps_ret pe_str)) pss_nil)
  (C8.pss_cut (ps_if (PW.pt (pw_and (pt_cmpR op_ge (pe_ix ix_tup (pv 0) (pe_un un_neg pe_int) (fun _ _ => rfl)) pe_int (nomark _)) (pw_and1 (pt_cmpR op_ge (pe_ix ix_tup (pv 1) (pe_un un_neg pe_int) (fun _ _ => rfl)) pe_int (nomark _))))) (pss_one (ps_ret pe_str)) pss_nil)
  (pss_one (ps_ret pe_non)))))), ?_⟩
    obtain ⟨a, rfl, sx⟩ := hl
    obtain ⟨b, rfl, sy⟩ := hr1
    by_cases nl : l = []
    · by_cases nr : r = []
      · refine ⟨_, rfl, false, tru_f sx nl, iteT ?_⟩
        refine ⟨_, rfl, false, tru_f sy nr, iteT ?_⟩
        have q := k H (Same.refl H)
        rw [nl, nr] at q
        exact q
      · refine ⟨_, rfl, false, tru_f sx nl, iteT ?_⟩
        refine ⟨_, rfl, true, tru_t sy nr, iteF ?_⟩
        refine ⟨_, rfl, false, tru_f sx nl, iteT ?_⟩
        have q := k H (Same.refl H)
        rw [cw1 nl nr] at q
        exact q
    · refine ⟨_, rfl, true, tru_t sx nl, iteF ?_⟩
      refine ⟨_, rfl, true, tru_t sx nl, iteF ?_⟩
      by_cases nr : r = []
      · refine ⟨_, rfl, false, tru_f sy nr, iteT ?_⟩
        have q := k H (Same.refl H)
        rw [cw2 nl nr] at q
        exact q
      · refine ⟨_, rfl, true, tru_t sy nr, iteF ?_⟩
        obtain ⟨ha, ha1, ha2⟩ := head_at nl
        obtain ⟨hb, hb1, hb2⟩ := head_at nr
        obtain ⟨la, la1, la2⟩ := last_neg nl
        obtain ⟨lb, lb1, lb2⟩ := last_neg nr
        refine ⟨fun σ' H' => ¬ (0 ≤ l.headD 0 ∧ 0 ≤ r.headD 0) ∧ σ' = [some (.ref a), some (.ref b)] ∧ H' = H, ?_, ?_⟩
        · refine ⟨_, rfl, a, _, 0, _, rfl, rfl, sx, ha1, _, _, rfl, rfl, _, rfl, ite2 (fun z1 => ?_) (fun z1 => ?_)⟩
          · refine ⟨_, rfl, b, _, 0, _, rfl, rfl, sy, hb1, _, _, rfl, rfl, _, rfl, ite2 (fun z2 => ?_) (fun z2 => ?_)⟩
            · have q := k H (Same.refl H)
              rw [cw3 nl nr (by rw [ha2]; exact of_decide_eq_true z1) (by rw [hb2]; exact of_decide_eq_true z2)] at q
              exact q
            · exact ⟨fun n => z2 (decide_eq_true (by rw [← hb2]; exact n.2)), rfl, rfl⟩
          · exact ⟨fun n => z1 (decide_eq_true (by rw [← ha2]; exact n.1)), rfl, rfl⟩
        · rintro σ4 H4 ⟨n1, rfl, rfl⟩
          refine ⟨fun σ' H' => ¬ (0 ≤ l.getLastD 0 ∧ 0 ≤ r.getLastD 0) ∧ σ' = [some (.ref a), some (.ref b)] ∧ H' = H4, ?_, ?_⟩
          · refine ⟨_, rfl, _, rfl, a, _, _, _, rfl, rfl, sx, la1, _, _, rfl, rfl, _, rfl, ite2 (fun z1 => ?_) (fun z1 => ?_)⟩
            · refine ⟨_, rfl, _, rfl, b, _, _, _, rfl, rfl, sy, lb1, _, _, rfl, rfl, _, rfl, ite2 (fun z2 => ?_) (fun z2 => ?_)⟩
              · have q := k H4 (Same.refl _)
                rw [cw4 nl nr n1 (by rw [la2]; exact of_decide_eq_true z1) (by rw [lb2]; exact of_decide_eq_true z2)] at q
                exact q
              · exact ⟨fun n => z2 (decide_eq_true (by rw [← lb2]; exact n.2)), rfl, rfl⟩
            · exact ⟨fun n => z1 (decide_eq_true (by rw [← la2]; exact n.1)), rfl, rfl⟩
          · rintro σ5 H5 ⟨n2, rfl, rfl⟩
            have q := k H5 (Same.refl _)
            rw [cw5 nl nr n1 n2] at q
            exact q
end
def sp_stripped (K : PySem.W.Frag) : Sp := fun vs H Q _ => ∃ (v : V) (r : Rw), vs = [v] ∧ RowT K H v r ∧ ∀ (v' : V) (H' : Hp), Same H H' → RowT K H' v' (strip r.1 r.2) → Q v' H'
theorem sf_drop {l r : List Int} {f : Nat} (h1 : f < l.length) (h2 : f < r.length) (e : l[f] = r[f]) : sf (l.drop f) (r.drop f) = sf (l.drop (f + 1)) (r.drop (f + 1)) := by
  rw [List.drop_eq_getElem_cons h1, List.drop_eq_getElem_cons h2, e, sf_eq]
theorem sf_stop {l r : List Int} {f : Nat} (h1 : f < l.length) (h2 : f < r.length) (e : l[f] ≠ r[f]) : sf (l.drop f) (r.drop f) = (l.drop f, r.drop f) := by
  rw [List.drop_eq_getElem_cons h1, List.drop_eq_getElem_cons h2, sf_ne e]
theorem take_last {x : List Int} {b : Nat} (h : b < x.length) : x.take (x.length - b) = x.take (x.length - (b + 1)) ++ [x[x.length - 1 - b]] := by
  have p : x.length - 1 - b < x.length := by omega
  have e : x.length - b = (x.length - 1 - b) + 1 := by omega
  rw [e, List.take_succ_eq_append_getElem p]
  congr 2
  omega
theorem get_drop {l : List Int} {f b : Nat} (h : b < (l.drop f).length) : (l.drop f)[(l.drop f).length - 1 - b]'(by omega) = l[l.length - 1 - b]'(by rw [List.length_drop] at h; omega) := by
  rw [List.getElem_drop]
  congr 1
  rw [List.length_drop] at h ⊢
  omega
theorem sc_stripped : FnScope ["row", "least", "front", "behind", "left", "right"] ["row"] (defScope s_stripped) := ⟨rfl, rfl, rfl, by decide +kernel, rfl, by decide +kernel, by decide +kernel⟩
section
variable {P : Program} {w : World} {K : PySem.W.Frag} {mg : Str → Option Value} {base : Heap}
theorem ok_stripped (D_stripped : Dn K mg "stripped" s_stripped ["row"]) (T : TB mg) : FnOk P w K mg base CX0 1 D_stripped.f D_stripped.fd ["row"] (sp_stripped K) := by
  refine ok0 D_stripped.F sc_stripped (fun vs H Q E h => ?_) (fun cdv A outer s H vs Q E hr h => ?_)
  · obtain ⟨v, r, rfl, hv, k⟩ := h
    rfl
  · obtain ⟨v, r, rfl, hv, k⟩ := h
    refine ⟨_, (pss_cons (ps_asg (pv 0) (pg_tup (n := 2) rfl (pgs_cons (pg_name (i := 4) sc_stripped.nd rfl (by first | exact Or.inl rfl | exact Or.inr rfl)) (pgs_cons (pg_name (i := 5) sc_stripped.nd rfl (by first | exact Or.inl rfl | exact Or.inr rfl)) pgs_nil))))
  (pss_cons (ps_set (i := 1) sc_stripped.nd rfl (by first | exact Or.inl rfl | exact Or.inr rfl) (pe_callB (call_min2 rfl) (by rfl) T.min_ (by decide +kernel) (pa_cons (pe_callB call_len_seq (by rfl) T.len PySem.boot_len (pa_cons (pv 4) pa_nil)) (pa_cons (pe_callB call_len_seq (by rfl) T.len PySem.boot_len (pa_cons (pv 5) pa_nil)) pa_nil))))
  (pss_cons (ps_set (i := 2) sc_stripped.nd rfl (by first | exact Or.inl rfl | exact Or.inr rfl) pe_int)
  (C8.pss_cut (ps_while PassesOwn.never (PW.pt (pw_and (pt_cmpR op_lt (pv 2) (pv 1) (nomark _)) (pw_and1 (pt_cmpR op_eq (pe_ix ix_tup (pv 4) (pv 2) (fun _ _ => rfl)) (pe_ix ix_tup (pv 5) (pv 2) (fun _ _ => rfl)) (nomark _))))) (pss_one (ps_aug (i := 2) sc_stripped.nd rfl (by first | exact Or.inl rfl | exact Or.inr rfl) pe_int ip_add)))
  (pss_cons (ps_set (i := 3) sc_stripped.nd rfl (by first | exact Or.inl rfl | exact Or.inr rfl) pe_int)
  (C8.pss_cut (ps_while PassesOwn.never (PW.pt (pw_and (pt_cmpR op_lt (pv 3) (pe_op op_sub (pv 1) (pv 2)) (nomark _)) (pw_and1 (pt_cmpR op_eq (pe_ix ix_tup (pv 4) (pe_op op_sub (pe_un un_neg pe_int) (pv 3)) (fun _ _ => rfl)) (pe_ix ix_tup (pv 5) (pe_op op_sub (pe_un un_neg pe_int) (pv 3)) (fun _ _ => rfl)) (nomark _))))) (pss_one (ps_aug (i := 3) sc_stripped.nd rfl (by first | exact Or.inl rfl | exact Or.inr rfl) pe_int ip_add)))
  (pss_one (ps_ret (pe_tup (pa_cons (pe_slice sl_tupR (pv 4) (po_some (pv 2)) (po_some (pe_op op_sub (pe_callB call_len_seq (by rfl) T.len PySem.boot_len (pa_cons (pv 4) pa_nil)) (pv 3)))) (pa_cons (pe_slice sl_tupR (pv 5) (po_some (pv 2)) (po_some (pe_op op_sub (pe_callB call_len_seq (by rfl) T.len PySem.boot_len (pa_cons (pv 5) pa_nil)) (pv 3)))) pa_nil))))))))))), ?_⟩
    obtain ⟨l, rr⟩ := r
    obtain ⟨av, x1, y1, rfl, sv, ⟨a, rfl, sx⟩, ⟨b, rfl, sy⟩⟩ := hv
    refine ⟨_, rfl, av, _, rfl, sv, rfl, _, _, rfl, _, _, rfl, rfl, ?_⟩
    refine ⟨_, rfl, a, _, rfl, .inr sx, _, rfl, b, _, rfl, .inr sy, _, _, rfl, ?_⟩
    have lm : (if (((rr.map V.int).length : Nat) : Int) < (((l.map V.int).length : Nat) : Int) then (((rr.map V.int).length : Nat) : Int) else (((l.map V.int).length : Nat) : Int)) = ((min l.length rr.length : Nat) : Int) := by
      rw [List.length_map, List.length_map]
      split <;> omega
    rw [lm]
    refine ⟨fun σ H' => ∃ f : Nat, σ = [some (.ref av), some (.int (min l.length rr.length : Nat)), some (.int f), none, some (.ref a), some (.ref b)] ∧ H' = H ∧ f ≤ min l.length rr.length ∧ sf l rr = (l.drop f, rr.drop f), ?_, ?_⟩
    · refine ⟨fun m σ H' => ∃ f : Nat, σ = [some (.ref av), some (.int (min l.length rr.length : Nat)), some (.int f), none, some (.ref a), some (.ref b)] ∧ H' = H ∧ f ≤ min l.length rr.length ∧ m = min l.length rr.length - f ∧ sf l rr = sf (l.drop f) (rr.drop f), ⟨_, 0, rfl, rfl, Nat.zero_le _, rfl, rfl⟩, fun m σ H1 p => ?_⟩
      obtain ⟨f, rfl, rfl, f1, rfl, e⟩ := p
      refine ⟨_, rfl, _, rfl, _, _, rfl, rfl, _, rfl, ite2 (fun c => ?_) (fun c => ?_)⟩
      · have c := of_decide_eq_true c
        have h1 : f < l.length := by omega
        have h2 : f < rr.length := by omega
        refine ⟨_, rfl, _, rfl, a, _, _, _, rfl, rfl, sx, atI_nat (v := .int l[f]) (by simp [List.getElem?_map, h1]), _, rfl, _, rfl, b, _, _, _, rfl, rfl, sy, atI_nat (v := .int rr[f]) (by simp [List.getElem?_map, h2]), rfl, _, rfl, ite2 (fun c2 => ?_) (fun c2 => ?_)⟩
        · refine ⟨_, fun σ' H' h => h, _, rfl, _, _, rfl, rfl, ?_⟩
          exact ⟨min l.length rr.length - (f + 1), by omega, f + 1, rfl, rfl, by omega, rfl, by rw [e, sf_drop h1 h2 (int_eq c2)]⟩
        · exact ⟨f, rfl, rfl, f1, by rw [e, sf_stop h1 h2 (int_ne c2)]⟩
      · have c : ¬ ((f : Int) < ((min l.length rr.length : Nat) : Int)) := fun h => c (decide_eq_true h)
        refine ⟨f, rfl, rfl, f1, ?_⟩
        rw [e, sf_nil]
        rcases Nat.le_total l.length rr.length with h | h
        · exact .inl (List.drop_of_length_le (by omega))
        · exact .inr (List.drop_of_length_le (by omega))
    · rintro σ1 H1 ⟨f, rfl, rfl, f1, e1⟩
      have m1 : (l.drop f).length = l.length - f := List.length_drop
      have m2 : (rr.drop f).length = rr.length - f := List.length_drop
      refine ⟨fun σ H' => ∃ b' : Nat, σ = [some (.ref av), some (.int (min l.length rr.length : Nat)), some (.int f), some (.int b'), some (.ref a), some (.ref b)] ∧ H' = H1 ∧ b' ≤ min l.length rr.length - f ∧ sb (l.drop f) (rr.drop f) = ((l.drop f).take ((l.drop f).length - b'), (rr.drop f).take ((rr.drop f).length - b')), ?_, ?_⟩
      · refine ⟨fun m σ H' => ∃ b' : Nat, σ = [some (.ref av), some (.int (min l.length rr.length : Nat)), some (.int f), some (.int b'), some (.ref a), some (.ref b)] ∧ H' = H1 ∧ b' ≤ min l.length rr.length - f ∧ m = min l.length rr.length - b' ∧ sb (l.drop f) (rr.drop f) = sb ((l.drop f).take ((l.drop f).length - b')) ((rr.drop f).take ((rr.drop f).length - b')), ⟨_, 0, rfl, rfl, Nat.zero_le _, rfl, ?_⟩, fun m σ H2 p => ?_⟩
        · rw [Nat.sub_zero, Nat.sub_zero, List.take_length, List.take_length]
        · obtain ⟨b', rfl, rfl, b1, rfl, e⟩ := p
          refine ⟨_, rfl, _, rfl, _, rfl, _, _, rfl, rfl, _, _, rfl, rfl, _, rfl, ite2 (fun c => ?_) (fun c => ?_)⟩
          · have c := of_decide_eq_true c
            have hb1 : b' < (l.drop f).length := by omega
            have hb2 : b' < (rr.drop f).length := by omega
            have hl1 : b' < l.length := by omega
            have hl2 : b' < rr.length := by omega
            refine ⟨_, rfl, _, rfl, _, rfl, _, _, rfl, rfl, a, _, _, _, rfl, rfl, sx, atN hl1, _, rfl, _, rfl, _, rfl, _, _, rfl, rfl, b, _, _, _, rfl, rfl, sy, atN hl2, rfl, _, rfl, ite2 (fun c2 => ?_) (fun c2 => ?_)⟩
            · refine ⟨_, fun σ' H' h => h, _, rfl, _, _, rfl, rfl, ?_⟩
              refine ⟨min l.length rr.length - (b' + 1), by omega, b' + 1, rfl, rfl, by omega, rfl, ?_⟩
              have ee := int_eq c2
              rw [← get_drop hb1, ← get_drop hb2] at ee
              rw [e, take_last hb1, take_last hb2, ee, sb_eq]
            · refine ⟨b', rfl, rfl, b1, ?_⟩
              have ee := int_ne c2
              rw [← get_drop hb1, ← get_drop hb2] at ee
              rw [e, take_last hb1, take_last hb2, sb_ne ee]
          · have c : ¬ ((b' : Int) < ((min l.length rr.length : Nat) : Int) - (f : Int)) := fun h => c (decide_eq_true h)
            refine ⟨b', rfl, rfl, b1, ?_⟩
            rw [e, sb_nil]
            rcases Nat.le_total l.length rr.length with h | h
            · refine .inl ?_
              rw [show (l.drop f).length - b' = 0 by omega]
              rfl
            · refine .inr ?_
              rw [show (rr.drop f).length - b' = 0 by omega]
              rfl
      · rintro σ2 H2 ⟨b', rfl, rfl, b1, e2⟩
        have p1 : ((l.map V.int).length : Int) - (b' : Int) = ((l.length - b' : Nat) : Int) := by rw [List.length_map]; omega
        have p2 : ((rr.map V.int).length : Int) - (b' : Int) = ((rr.length - b' : Nat) : Int) := by rw [List.length_map]; omega
        have cut : ∀ x : List Int, b' ≤ x.length - f → f ≤ x.length → cutV (x.map V.int) (some (f : Int)) (some ((x.length - b' : Nat) : Int)) = ((x.drop f).take ((x.drop f).length - b')).map V.int := fun x hb hf => by
          rw [cut_mid (by rw [List.length_map]; omega) (by omega), List.map_take, List.map_drop, List.length_drop]
          congr 1
          omega
        refine ⟨_, rfl, _, rfl, _, rfl, _, rfl, a, _, rfl, .inr sx, _, rfl, _, _, rfl, rfl, _, rfl, rd_sl sx fun c H3 s3 t3 => ?_⟩
        refine ⟨_, rfl, _, rfl, _, rfl, _, rfl, b, _, rfl, .inr (SqT.same s3 sy), _, rfl, _, _, rfl, rfl, _, rfl, rd_sl (SqT.same s3 sy) fun d H4 s4 t4 => ⟨(by show 2 ≤ sizeLine; decide), fun p hp => ?_⟩⟩
        rw [p1, cut l (by omega) (by omega)] at t3
        rw [p2, cut rr (by omega) (by omega)] at t4
        have sp := same_new (o := .tup [.ref c, .ref d]) hp
        refine k _ _ ((s3.trans s4).trans sp) ?_
        have es : strip l rr = ((l.drop f).take ((l.drop f).length - b'), (rr.drop f).take ((rr.drop f).length - b')) := by
          unfold strip
          rw [e1]
          exact e2
        show RowT K _ _ (strip l rr)
        rw [es]
        exact ⟨p, _, _, rfl, SqT.of upd_same, ⟨c, rfl, SqT.same (s4.trans sp) t3⟩, ⟨d, rfl, SqT.same sp t4⟩⟩
end
end My
set_option maxHeartbeats 4000000
namespace My
open PySem PySem.Spec PyProof.Rows L2 Lcn Sq
open En
structure ClashC (K : PySem.W.Frag) (mg : Str → Option Value) where
  C : Addr
  f : Addr
  fd : FuncData
  F : FunD K "__init__" "Clash.__init__" (defArgs s_Clash_init) (defBody s_Clash_init) (defScope s_Clash_init) [] [] f fd
  m : mg "Clash" = some (.ref C)
  M : Mk K C f
  cl : Cls K C
  b : Binds K fd ["self", "why", "at"] []
  n1 : NoAttr K C "why"
  n2 : NoAttr K C "at"
def clashF (w k : V) : List (Str × V) := [("why", w), ("at", k)]
def sp_Clash_init (K : PySem.W.Frag) (C : Addr) : Sp := fun vs H Q _ => ∃ (self : Addr) (w k : V) (dx : Addr), vs = [.ref self, w, k] ∧ H self = some (.ins C dx []) ∧ ∀ (H' : Hp), Bt self H H' → H' self = some (.ins C dx (clashF w k)) → Q .non H'
theorem sc_Clash_init : FnScope ["self", "why", "at"] ["self", "why", "at"] (defScope s_Clash_init) := ⟨rfl, rfl, rfl, by decide +kernel, rfl, by decide +kernel, by decide +kernel⟩
section
variable {P : Program} {w : World} {K : PySem.W.Frag} {mg : Str → Option Value} {base : Heap}
theorem ok_Clash_init (C_Clash : ClashC K mg) : FnOk P w K mg base CX0 1 C_Clash.f C_Clash.fd ["self", "why", "at"] (sp_Clash_init K C_Clash.C) := by
  refine ok0 C_Clash.F sc_Clash_init (fun vs H Q E h => ?_) (fun cdv A outer s H vs Q E hr h => ?_)
  · obtain ⟨self, w, k, dx, rfl, _⟩ := h
    rfl
  · obtain ⟨self, w, k, dx, rfl, hS, k'⟩ := h
    refine ⟨_, (pss_cons (ps_fld (pv 0) (pv 1) rfl) (pss_one (ps_fld (pv 0) (pv 2) rfl))), ?_⟩
    refine ⟨_, rfl, _, rfl, self, C_Clash.C, dx, _, rfl, hS, C_Clash.cl, C_Clash.n1, (by decide), ?_⟩
    refine ⟨_, rfl, _, rfl, self, C_Clash.C, dx, _, rfl, upd_same, C_Clash.cl, C_Clash.n2, (by show 1 < 1000; decide), ?_⟩
    exact k' _ (fun b o nb h => by rw [upd_ne nb, upd_ne nb]; exact h) upd_same
end
/-! ### tidy -/
theorem sf_sub : ∀ (l r : List Int), (∀ s ∈ (sf l r).1, s ∈ l) ∧ (∀ s ∈ (sf l r).2, s ∈ r) ∧ (sf l r).1.length ≤ l.length ∧ (sf l r).2.length ≤ r.length
  | [], r => by rw [sf_nil (.inl rfl)]; simp
  | a :: l, [] => by rw [sf_nil (.inr rfl)]; simp
  | a :: l, b :: r => by
    by_cases h : a = b
    · subst h
      rw [sf_eq]
      obtain ⟨h1, h2, h3, h4⟩ := sf_sub l r
      exact ⟨fun s hs => List.mem_cons_of_mem _ (h1 s hs), fun s hs => List.mem_cons_of_mem _ (h2 s hs), Nat.le_succ_of_le h3, Nat.le_succ_of_le h4⟩
    · rw [sf_ne h]
      simp
theorem strip_sub (l r : List Int) : (∀ s ∈ (strip l r).1, s ∈ l) ∧ (∀ s ∈ (strip l r).2, s ∈ r) ∧ (strip l r).1.length ≤ l.length ∧ (strip l r).2.length ≤ r.length := by
  obtain ⟨h1, h2, h3, h4⟩ := sf_sub l r
  obtain ⟨g1, g2, g3, g4⟩ := sf_sub (sf l r).1.reverse (sf l r).2.reverse
  unfold strip sb
  refine ⟨fun s hs => h1 s (by simpa using g1 s (by simpa using hs)), fun s hs => h2 s (by simpa using g2 s (by simpa using hs)), ?_, ?_⟩
  · rw [List.length_reverse]
    rw [List.length_reverse] at g3
    omega
  · rw [List.length_reverse]
    rw [List.length_reverse] at g4
    omega
/-- what tidying keeps are stripped rows -/
theorem tid_all {rs : List Rw} : ∀ (l : List Rw) (k : Nat) (acc ts : List Rw), (∀ r ∈ acc, ∃ r0 ∈ rs, r = strip r0.1 r0.2) → (∀ r ∈ l, r ∈ rs) → tidF l k acc = .inl ts → (∀ r ∈ ts, ∃ r0 ∈ rs, r = strip r0.1 r0.2) ∧ ts.length ≤ acc.length + l.length
  | [], k, acc, ts, ha, _, h => by
    cases h
    exact ⟨ha, Nat.le_refl _⟩
  | r :: l, k, acc, ts, ha, hl, h => by
    unfold tidF at h
    split at h
    · cases h
    · have hl' : ∀ r ∈ l, r ∈ rs := fun x hx => hl x (List.mem_cons_of_mem _ hx)
      split at h
      · obtain ⟨a, b⟩ := tid_all l (k + 1) acc ts ha hl' h
        exact ⟨a, by rw [List.length_cons]; omega⟩
      · obtain ⟨a, b⟩ := tid_all l (k + 1) (acc ++ [strip r.1 r.2]) ts (fun x hx => by
          rcases List.mem_append.mp hx with h | h
          · exact ha x h
          · rw [List.mem_singleton.mp h]
            exact ⟨r, hl r (List.mem_cons_self ..), rfl⟩) hl' h
        refine ⟨a, ?_⟩
        rw [List.length_append] at b
        rw [List.length_cons]
        have b : ts.length ≤ acc.length + 1 + l.length := b
        omega
theorem ok_tid {R ts : List Rw} {D : List (List Int)} {E : List (Int × List Int)} {n : Int} (ok : BookOk R D E n) (h : tidF R 0 [] = .inl ts) : BookOk ts D E n := by
  obtain ⟨h1, h2⟩ := tid_all (rs := R) R 0 [] ts (by simp) (fun r h => h) h
  refine ⟨ok.n1, ok.d, ok.e, fun r hr => ?_, ?_, ok.dl, ok.el⟩
  · obtain ⟨r0, hr0, rfl⟩ := h1 r hr
    obtain ⟨a, b, c, d⟩ := ok.r r0 hr0
    obtain ⟨p, q, u, v⟩ := strip_sub r0.1 r0.2
    exact ⟨by omega, by omega, fun s hs => c s (p s hs), fun s hs => d s (q s hs)⟩
  · have h2 : ts.length ≤ 0 + R.length := h2
    have := ok.rl
    omega
theorem enumT_rd {K : PySem.W.Frag} {ta : TA} {σ : L2.St} {H H1 : Hp} {R : It → Hp → Prop} {a : Addr} {xs : List V} (hs : SqT K H1 a xs) (q : R (IteT K a) H1) (hl : ∀ Q : List V → Hp → Prop, Q [.ref a] H1 → ta σ H Q) : iEnumT K ta σ H R := by
  unfold iEnumT
  exact hl _ ⟨a, xs, rfl, hs, q⟩
def sp_tidy_rows (K : PySem.W.Frag) (CC : Addr) : Sp := fun vs H Q _ => ∃ (v : V) (R : List Rw), vs = [v] ∧ SeqT K (RowT K) H v R ∧ R.length < 1000 ∧
  (∀ (L : Addr) (H' : Hp) (ts : List Rw), Same H H' → tidF R 0 [] = .inl ts → LstR K (RowT K) H' L ts → Q (.ref L) H') ∧
  (∀ (q dx' : Addr) (H' : Hp) (w : Str) (k : Nat), Same H H' → tidF R 0 [] = .inr (w, k) → H' q = some (.ins CC dx' (clashF (.str w) (.int (k : Nat)))) → Q (.ref q) H')
def sp_tidy (K : PySem.W.Frag) (CB CC : Addr) : Sp := fun vs H Q _ => ∃ (b dx : Addr) (r d e : V) (n : Int) (R : List Rw) (D : List (List Int)) (E : List (Int × List Int)), vs = [.ref b] ∧ H b = some (.ins CB dx (bookF r d e n)) ∧ BookAt K H R D E r d e ∧ BookOk R D E n ∧
  (∀ (q dx' : Addr) (H' : Hp) (ts : List Rw) (r' d' e' : V), Same H H' → tidF R 0 [] = .inl ts → H' q = some (.ins CB dx' (bookF r' d' e' n)) → BookAt K H' ts D E r' d' e' → Q (.ref q) H') ∧
  (∀ (q dx' : Addr) (H' : Hp) (w : Str) (k : Nat), Same H H' → tidF R 0 [] = .inr (w, k) → H' q = some (.ins CC dx' (clashF (.str w) (.int (k : Nat)))) → Q (.ref q) H')
theorem same_make {H H' : Hp} {x dx : Addr} {o o' : HO} (hx : H x = none) (hdx : H dx = none) (e : Bt x (upd (upd H dx o) x o') H') : Same H H' := fun b u h => by
  have n1 : b ≠ x := ne_of_none h hx
  refine e b u n1 ?_
  rw [upd_ne n1, upd_ne (ne_of_none h hdx)]
  exact h
theorem sc_tidy_rows : FnScope ["rows", "kept", "at", "row", "why", "left", "right"] ["rows"] (defScope s_tidy_rows) := ⟨rfl, rfl, rfl, by decide +kernel, rfl, by decide +kernel, by decide +kernel⟩
section
variable {P : Program} {w : World} {K : PySem.W.Frag} {mg : Str → Option Value} {base : Heap}
theorem ok_tidy_rows (D_tidy_rows : Dn K mg "tidy_rows" s_tidy_rows ["rows"]) (C_Clash : ClashC K mg) (G_Clash : FnOk P w K mg base CX0 1 C_Clash.f C_Clash.fd ["self", "why", "at"] (sp_Clash_init K C_Clash.C)) (D_clash_word : Dn K mg "clash_word" s_clash_word ["left", "right"]) (G_clash_word : FnOk P w K mg base CX0 1 D_clash_word.f D_clash_word.fd ["left", "right"] (sp_clash_word K)) (D_stripped : Dn K mg "stripped" s_stripped ["row"]) (G_stripped : FnOk P w K mg base CX0 1 D_stripped.f D_stripped.fd ["row"] (sp_stripped K)) (T : TB mg) : FnOk P w K mg base CX0 3 D_tidy_rows.f D_tidy_rows.fd ["rows"] (sp_tidy_rows K C_Clash.C) := by
  refine ok0 D_tidy_rows.F sc_tidy_rows (fun vs H Q E h => ?_) (fun cdv A outer s H vs Q E hr h => ?_)
  · obtain ⟨v0, R, rfl, hA, okl, k1, k2⟩ := h
    rfl
  · obtain ⟨v0, R, rfl, hA, okl, k1, k2⟩ := h
    refine ⟨_, (pss_cons (ps_set (i := 1) sc_tidy_rows.nd rfl (by first | exact Or.inl rfl | exact Or.inr rfl) (pe_lst pa_nil))
  (pss_cons (ps_for PassesOwn.never rfl (pi_enumT (by rfl) T.enumerate (pa_cons (pv 0) pa_nil)) (pg_tup (n := 2) rfl (pgs_cons (pg_name (i := 2) sc_tidy_rows.nd rfl (by first | exact Or.inl rfl | exact Or.inr rfl)) (pgs_cons (pg_name (i := 3) sc_tidy_rows.nd rfl (by first | exact Or.inl rfl | exact Or.inr rfl)) pgs_nil))) (pss_cons (ps_asg (pe_call G_stripped (hr.mono (by decide)) (by rfl) D_stripped.m D_stripped.F.kp D_stripped.b .nil pass0 (pa_cons (pv 3) pa_nil)) (pg_tup (n := 2) rfl (pgs_cons (pg_name (i := 5) sc_tidy_rows.nd rfl (by first | exact Or.inl rfl | exact Or.inr rfl)) (pgs_cons (pg_name (i := 6) sc_tidy_rows.nd rfl (by first | exact Or.inl rfl | exact Or.inr rfl)) pgs_nil))))
  (pss_cons (ps_set (i := 4) sc_tidy_rows.nd rfl (by first | exact Or.inl rfl | exact Or.inr rfl) (pe_call G_clash_word (hr.mono (by decide)) (by rfl) D_clash_word.m D_clash_word.F.kp D_clash_word.b .nil pass0 (pa_cons (pv 5) (pa_cons (pv 6) pa_nil))))
  (pss_cons (ps_if (pt_cmpR op_notN (pv 4) pe_non (nomark _)) (pss_one (ps_ret (pe_make C_Clash.M G_Clash (hr.mono (by decide)) (by rfl) C_Clash.m C_Clash.b .nil pass0 (pa_cons (pv 4) (pa_cons (pv 2) pa_nil))))) pss_nil)
  (pss_one (ps_if (pt_truth (pv 5) (by intro _; rfl)) (pss_one (ps_expr (pe_bm PySem.F.plainAttrs_list PySem.F.slot_list_append PySem.F.type_list_append mt_append (pv 1) (pa_cons (pe_tup (pa_cons (pv 5) (pa_cons (pv 6) pa_nil))) pa_nil)))) pss_nil))))))
  (pss_one (ps_ret (pv 1))))), ?_⟩
    obtain ⟨aR, xs, rfl, sR, lR, fR⟩ := hA
    refine ⟨(by show 0 ≤ sizeLine; decide), fun L hL => ?_⟩
    have sL : Same H (upd H L (.lst [])) := same_new hL
    refine enumT_rd (SqT.same sL sR) ?_ fun Q q => ⟨_, rfl, q⟩
    refine for_it walk_enumT (fun i σ H' => ∃ (o2 o3 o4 o5 o6 : Option V) (acc : List Rw), σ = [some (.ref aR), some (.ref L), o2, o3, o4, o5, o6] ∧ Same H H' ∧ LstR K (RowT K) H' L acc ∧ acc.length ≤ i ∧ tidF R 0 [] = tidF (R.drop i) i acc) ⟨_, _, _, _, _, [], rfl, sL, lst_nil, Nat.le_refl _, rfl⟩ (fun i σ H' _ p => by
      obtain ⟨_, _, _, _, _, _, _, s, _⟩ := p
      exact SqT.same s sR) (fun i x σ H2 H3 hi p y => ?_) (fun σ H2 p => ?_)
    · obtain ⟨T', z, rfl, hT, rfl, hz⟩ := y
      obtain ⟨o2, o3, o4, o5, o6, acc, rfl, s2, ⟨xL, d1, d2, df⟩, d3, d4⟩ := p
      obtain ⟨rw', hrw⟩ := seq_at lR hz
      have sT := same_new (o := .tup [.int (i : Nat), z]) hT
      have hrow := (fR i z rw' hz hrw).kt (KT.of (s2.trans sT))
      rw [tid_step hrw] at d4
      refine ⟨T', _, rfl, SqT.of upd_same, rfl, _, _, rfl, _, _, rfl, rfl, ?_⟩
      refine ⟨_, rfl, z, rw', rfl, hrow, fun v H4 s4 t4 => ?_⟩
      obtain ⟨al, v1, u1, rfl, sal, hx1, hy1⟩ := t4
      refine ⟨al, _, rfl, sal, rfl, _, _, rfl, _, _, rfl, rfl, ?_⟩
      refine ⟨_, rfl, _, rfl, v1, u1, _, _, rfl, hx1, hy1, fun H5 s5 => ?_⟩
      have s25 := sT.trans (s4.trans s5)
      have hx5 := hx1.same s5
      have hy5 := hy1.same s5
      obtain ⟨a, rfl, sx⟩ := hx5
      obtain ⟨b', rfl, sy⟩ := hy5
      cases hc : clashW (strip rw'.1 rw'.2).1 (strip rw'.1 rw'.2).2 with
      | some wd =>
        rw [hc] at d4
        refine ⟨_, rfl, rfl, _, rfl, iteT ?_⟩
        refine ⟨_, rfl, _, rfl, fun q dq hq hdq ndq => ?_⟩
        refine ⟨q, _, _, dq, rfl, upd_same, fun H6 bt hs => ⟨rfl, ?_⟩⟩
        exact k2 q dq H6 wd i ((s2.trans s25).trans (same_make hq hdq bt)) d4 hs
      | none =>
        rw [hc] at d4
        refine ⟨_, rfl, rfl, _, rfl, iteF ?_⟩
        have dl5 := s25 _ _ d1
        by_cases nl : (strip rw'.1 rw'.2).1 = []
        · refine ⟨_, rfl, false, tru_f sx nl, iteF ?_⟩
          simp only [nl, if_true] at d4
          exact ⟨_, _, _, _, _, acc, rfl, s2.trans s25, ⟨xL, dl5, d2, fun i x z h1 h2 => (df i x z h1 h2).kt (KT.of s25)⟩, by omega, d4⟩
        · refine ⟨_, rfl, true, tru_t sx nl, iteT ?_⟩
          simp only [nl, if_false] at d4
          refine ⟨_, rfl, .inl ⟨rfl, _, SqL.of dl5⟩, _, rfl, _, rfl, (by show 2 ≤ sizeLine; decide), fun q hq => ?_⟩
          have sn : Same H5 (upd H5 q (.tup [.ref a, .ref b'])) := same_new hq
          have dq := sn _ _ dl5
          refine ⟨L, _, _, rfl, rfl, dq, by rw [d2]; exact k1000 (by omega), ?_⟩
          exact ⟨_, _, _, _, _, acc ++ [strip rw'.1 rw'.2], rfl, same_upd ((s2.trans s25).trans sn) hL, lst_snoc kRK dq d2 (fun i x z h1 h2 => (df i x z h1 h2).kt (KT.of (s25.trans sn))) ⟨q, _, _, rfl, SqT.of upd_same, ⟨a, rfl, SqT.same sn sx⟩, ⟨b', rfl, SqT.same sn sy⟩⟩, by simp; omega, d4⟩
    · obtain ⟨o2, o3, o4, o5, o6, acc, rfl, s2, ⟨xL, d1, d2, df⟩, d3, d4⟩ := p
      have e0 : R.drop xs.length = [] := by
        rw [lR]
        exact List.drop_length
      rw [e0] at d4
      have d4 : tidF R 0 [] = .inl acc := d4
      exact ⟨_, rfl, k1 L H2 acc s2 d4 ⟨xL, d1, d2, df⟩⟩
end
theorem sc_tidy : FnScope ["book", "rows"] ["book"] (defScope s_tidy) := ⟨rfl, rfl, rfl, by decide +kernel, rfl, by decide +kernel, by decide +kernel⟩
section
variable {P : Program} {w : World} {K : PySem.W.Frag} {mg : Str → Option Value} {base : Heap}
theorem ok_tidy (C_Clash : ClashC K mg) (D_tidy : Dn K mg "tidy" s_tidy ["book"]) (C_Book : BookC K mg) (G_Book : FnOk P w K mg base CX0 5 C_Book.f C_Book.fd ["self", "rows", "deeds", "ends", "states"] (sp_Book_init K C_Book.C)) (D_tidy_rows : Dn K mg "tidy_rows" s_tidy_rows ["rows"]) (G_tidy_rows : FnOk P w K mg base CX0 3 D_tidy_rows.f D_tidy_rows.fd ["rows"] (sp_tidy_rows K C_Clash.C)) (T : TB mg) (I_Clash : C8.InsC K C_Clash.C) (L_Clash : PySem.W.kitOne K (.type "list") (.ref C_Clash.C) = some false) : FnOk P w K mg base CX0 7 D_tidy.f D_tidy.fd ["book"] (sp_tidy K C_Book.C C_Clash.C) := by
  refine ok0 D_tidy.F sc_tidy (fun vs H Q E h => ?_) (fun cdv A outer s H vs Q E hr h => ?_)
  · obtain ⟨b, dx, r, d, e, n, R, D, E', rfl, hB, hA, ok, k1, k2⟩ := h
    rfl
  · obtain ⟨b, dx, r, d, e, n, R, D, E', rfl, hB, hA, ok, k1, k2⟩ := h
    refine ⟨_, (pss_cons (ps_set (i := 1) sc_tidy.nd rfl (by first | exact Or.inl rfl | exact Or.inr rfl) (pe_call G_tidy_rows (hr.mono (by decide)) (by rfl) D_tidy_rows.m D_tidy_rows.F.kp D_tidy_rows.b .nil pass0 (pa_cons (pe_fld (pv 0) rfl) pa_nil)))
  (pss_one (ps_ret (pe_ifExp (pt_val (pe_callB call_isi (by rfl) T.isinstance (by decide +kernel) (pa_cons (pv 1) (pa_cons (pe_glob (v := .ref C_Clash.C) (by rfl) C_Clash.m rfl) pa_nil)))) (pv 1) (pe_make C_Book.M G_Book (hr.mono (by decide)) (by rfl) C_Book.m C_Book.b .nil pass0 (pa_cons (pv 1) (pa_cons (pe_fld (pv 0) rfl) (pa_cons (pe_fld (pv 0) rfl) (pa_cons (pe_fld (pv 0) rfl) pa_nil))))))))), ?_⟩
    refine ⟨_, rfl, b, C_Book.C, dx, _, _, rfl, hB, C_Book.cl, C_Book.n1, rfl, r, R, rfl, hA.r, ok.rl, fun L H2 acc s2 d4 hL => ?_, fun q dx2 H2 w k s2 d4 hq => ?_⟩
    · obtain ⟨xL, d1, d2, df⟩ := hL
      have hD' := hA.d
      have hE' := hA.e
      have hB2 := s2 _ _ hB
      refine ⟨_, rfl, _, _, _, _, false, rfl, .own _, .base (TyOf.lst d1), L_Clash, _, rfl, iteF ?_⟩
      refine ⟨_, rfl, _, rfl, b, C_Book.C, dx, _, _, rfl, hB2, C_Book.cl, C_Book.n2, rfl, _, rfl, b, C_Book.C, dx, _, _, rfl, hB2, C_Book.cl, C_Book.n3, rfl, _, rfl, b, C_Book.C, dx, _, _, rfl, hB2, C_Book.cl, C_Book.n4, rfl, fun q dq hq hdq ndq => ?_⟩
      have sM : Same H2 (upd (upd H2 dq (.own q)) q (.ins C_Book.C dq [])) := fun b u h => by
        rw [upd_ne (ne_of_none h hq), upd_ne (ne_of_none h hdq)]
        exact h
      refine ⟨q, _, _, _, n, dq, acc, D, E', rfl, upd_same, ⟨L, xL, rfl, .inl (SqL.of (sM _ _ d1)), d2, fun i x z h1 h2 => ((df i x z h1 h2).kt (KT.of sM)).p⟩, ?_, ?_, ok_tid ok d4, fun r' d' e' H6 bt hs hA' => ⟨rfl, ?_⟩⟩
      · exact (hD'.kt (fun _ _ h => h.kt (KT.of (s2.trans sM))) (KT.of (s2.trans sM))).s fun _ _ h => h.s
      · exact (hE'.kt (fun _ _ h => h.kt (KT.of (s2.trans sM))) (KT.of (s2.trans sM))).s fun _ _ h => h.p
      · exact k1 q dq H6 acc r' d' e' (s2.trans (same_make hq hdq bt)) d4 hs hA'
    · refine ⟨_, rfl, _, _, _, _, true, rfl, .own _, .base (TyOf.ins hq I_Clash.cl I_Clash.ha I_Clash.hn I_Clash.htk I_Clash.hm), I_Clash.me, _, rfl, iteT ?_⟩
      exact ⟨_, rfl, k2 q dx2 H2 w k s2 d4 hq⟩
end
end My
set_option maxHeartbeats 4000000
namespace My
open PySem PySem.Spec PyProof.Rows L2 Lcn Sq
open En
/-! ### data: equal to itself, at any small depth -/
def Flt (n : Nat) (d : PyData) : Prop := PyData.canLay0 d = true ∧ PyData.depth d ≤ n
theorem Flt.mono {n m : Nat} {d : PyData} (h : Flt n d) (e : n ≤ m) : Flt m d := ⟨h.1, Nat.le_trans h.2 e⟩
theorem Flt.sh {n : Nat} {d : PyData} (h : Flt n d) (e : n ≤ 64) : SeqAt.shaped d = true := by
  unfold SeqAt.shaped
  rw [h.1, decide_eq_true (Nat.le_trans h.2 e)]
  rfl
theorem Flt.eqv {n : Nat} {d : PyData} (h : Flt n d) : PyData.eqv d d = true := PySem.SeqAt.eqv_refl d h.1
def FltA (n : Nat) (ds : List PyData) : Prop := PyData.canLayAll0 ds = true ∧ PyData.depthAll ds ≤ n
theorem flta_nil {n : Nat} : FltA n [] := ⟨rfl, Nat.zero_le _⟩
theorem flta_cons {n : Nat} {d : PyData} {ds : List PyData} (h : Flt n d) (t : FltA n ds) : FltA n (d :: ds) := by
  refine ⟨?_, ?_⟩
  · rw [PyData.canLayAll0, h.1, t.1]
    rfl
  · rw [PyData.depthAll]
    exact Nat.max_le.mpr ⟨h.2, t.2⟩
theorem flta_map {α : Type} {n : Nat} {f : α → PyData} (h : ∀ z, Flt n (f z)) : ∀ zs : List α, FltA n (zs.map f)
  | [] => flta_nil
  | z :: r => flta_cons (h z) (flta_map h r)
theorem flt_tup {n : Nat} {ds : List PyData} (h : FltA n ds) : Flt (n + 1) (.tuple ds) := by
  refine ⟨?_, ?_⟩
  · rw [PyData.canLay0]
    exact h.1
  · rw [PyData.depth]
    exact Nat.succ_le_succ h.2
theorem flt_lst {n : Nat} {ds : List PyData} (h : FltA n ds) : Flt (n + 1) (.list ds) := by
  refine ⟨?_, ?_⟩
  · rw [PyData.canLay0]
    exact h.1
  · rw [PyData.depth]
    exact Nat.succ_le_succ h.2
theorem flt_int {n : Nat} (i : Int) : Flt n (.int i) := ⟨by rw [PyData.canLay0], by rw [PyData.depth]; exact Nat.zero_le _⟩
theorem flt_iD (ns : List Int) : Flt 1 (iD ns) := flt_tup (flta_map (fun i => flt_int i) ns)
def rwD (r : Rw) : PyData := .tuple [iD r.1, iD r.2]
def enD (e : Int × List Int) : PyData := .tuple [.int e.1, iD e.2]
def sqD {α : Type} (f : α → PyData) (zs : List α) : PyData := .tuple (zs.map f)
def lsD {α : Type} (f : α → PyData) (zs : List α) : PyData := .list (zs.map f)
theorem flt_rw (r : Rw) : Flt 2 (rwD r) := flt_tup (flta_cons (flt_iD _) (flta_cons (flt_iD _) flta_nil))
theorem flt_en (e : Int × List Int) : Flt 2 (enD e) := flt_tup (flta_cons (flt_int _) (flta_cons (flt_iD _) flta_nil))
theorem flt_sq {α : Type} {n : Nat} {f : α → PyData} (h : ∀ z, Flt n (f z)) (zs : List α) : Flt (n + 1) (sqD f zs) := flt_tup (flta_map h zs)
theorem flt_ls {α : Type} {n : Nat} {f : α → PyData} (h : ∀ z, Flt n (f z)) (zs : List α) : Flt (n + 1) (lsD f zs) := flt_lst (flta_map h zs)
theorem dpA_of {K : PySem.W.Frag} {H : Hp} {α : Type} {R : Hp → V → α → Prop} {f : α → PyData} (m : ∀ v z, R H v z → Dp K H v (f z)) : ∀ (xs : List V) (zs : List α), xs.length = zs.length → (∀ (i : Nat) (x : V) (z : α), xs[i]? = some x → zs[i]? = some z → R H x z) → DpAll K H xs (zs.map f)
  | [], [], _, _ => .nil
  | [], _ :: _, h, _ => by cases h
  | _ :: _, [], h, _ => by cases h
  | x :: xs, z :: zs, h, k => .cons (m _ _ (k 0 x z rfl rfl)) (dpA_of m xs zs (Nat.succ.inj h) fun i x z h1 h2 => k (i + 1) x z h1 h2)
theorem dp_row {K : PySem.W.Frag} {H : Hp} {v : V} {r : Rw} (h : RowT K H v r) : Dp K H v (rwD r) := by
  obtain ⟨a, x, y, rfl, h1, h2, h3⟩ := h
  exact .tup h1 (.cons (dp_ints h2) (.cons (dp_ints h3) .nil))
theorem dp_end {K : PySem.W.Frag} {H : Hp} {v : V} {e : Int × List Int} (h : EndT K H v e) : Dp K H v (enD e) := by
  obtain ⟨a, y, rfl, h1, h2⟩ := h
  exact .tup h1 (.cons (.int _) (.cons (dp_ints h2) .nil))
theorem dp_seq {K : PySem.W.Frag} {H : Hp} {α : Type} {R : Hp → V → α → Prop} {f : α → PyData} (m : ∀ v z, R H v z → Dp K H v (f z)) {v : V} {zs : List α} (h : SeqT K R H v zs) : Dp K H v (sqD f zs) := by
  obtain ⟨a, xs, rfl, h1, h2, h3⟩ := h
  exact .tup h1 (dpA_of m xs zs h2 h3)
theorem dp_lst {K : PySem.W.Frag} {H : Hp} {α : Type} {R : Hp → V → α → Prop} {f : α → PyData} (m : ∀ v z, R H v z → Dp K H v (f z)) {p : Addr} {zs : List α} (h : LstR K R H p zs) : Dp K H (.ref p) (lsD f zs) := by
  obtain ⟨xs, h1, h2, h3⟩ := h
  exact .lst (SqL.of h1) (dpA_of m xs zs h2 h3)
theorem dp_rows {K : PySem.W.Frag} {H : Hp} {v : V} {zs : List Rw} (h : SeqT K (RowT K) H v zs) : Dp K H v (sqD rwD zs) := dp_seq (fun _ _ h => dp_row h) h
theorem dp_deeds {K : PySem.W.Frag} {H : Hp} {v : V} {zs : List (List Int)} (h : SeqT K (IntsT K) H v zs) : Dp K H v (sqD iD zs) := dp_seq (fun _ _ h => dp_ints h) h
theorem dp_ends {K : PySem.W.Frag} {H : Hp} {v : V} {zs : List (Int × List Int)} (h : SeqT K (EndT K) H v zs) : Dp K H v (sqD enD zs) := dp_seq (fun _ _ h => dp_end h) h
/-- == of data that is the same -/
theorem rd_eqD {K : PySem.W.Frag} {x y : V} {H : Hp} {Q : VK} {n : Nat} {d : PyData} (h : Flt n d) (e : n ≤ 64) (h1 : Dp K H x d) (h2 : Dp K H y d) (q : Q (.bl true) H) : rEqD K x y H Q := ⟨d, d, h1, h2, h.sh e, h.sh e, by rw [h.eqv]; exact q⟩
theorem rd_neD {K : PySem.W.Frag} {x y : V} {H : Hp} {Q : VK} {n : Nat} {d : PyData} (h : Flt n d) (e : n ≤ 64) (h1 : Dp K H x d) (h2 : Dp K H y d) (q : Q (.bl false) H) : rNeD K x y H Q := ⟨d, d, h1, h2, h.sh e, h.sh e, by rw [h.eqv]; exact q⟩
/-! ### own == -/
/-- what an own class with == asks -/
structure EqC (K : PySem.W.Frag) (qual : Str) (st : Stmt) (C : Addr) where
  f : Addr
  fd : FuncData
  F : FunD K "__eq__" qual (defArgs st) (defBody st) (defScope st) [] [] f fd
  at_ : PySem.W.findIn K (.ref C) "__eq__" = some (some (.ref f))
  fn : PySem.W.isFn K (.ref f) = true
  b : Binds K fd ["self", "other"] []
  I : C8.InsC K C
def BookR (K : PySem.W.Frag) (C : Addr) : Addr → Addr → Hp → Prop := fun a b H => ∃ (dx dy : Addr) (r d e r' d' e' : V) (n : Int) (R : List Rw) (D : List (List Int)) (E : List (Int × List Int)), H a = some (.ins C dx (bookF r d e n)) ∧ H b = some (.ins C dy (bookF r' d' e' n)) ∧ BookAt K H R D E r d e ∧ BookAt K H R D E r' d' e'
def ClashR (C : Addr) : Addr → Addr → Hp → Prop := fun a b H => ∃ (dx dy : Addr) (w : Str) (k : Int), H a = some (.ins C dx (clashF (.str w) (.int k))) ∧ H b = some (.ins C dy (clashF (.str w) (.int k))) ∧ PyData.canLay0 (.str w) = true
theorem sc_Book_eq : FnScope ["self", "other"] ["self", "other"] (defScope s_Book_eq) := ⟨rfl, rfl, rfl, by decide +kernel, rfl, by decide +kernel, by decide +kernel⟩
theorem sc_Clash_eq : FnScope ["self", "other"] ["self", "other"] (defScope s_Clash_eq) := ⟨rfl, rfl, rfl, by decide +kernel, rfl, by decide +kernel, by decide +kernel⟩
theorem insTy {K : PySem.W.Frag} {C : Addr} (c : C8.InsC K C) {H : Hp} {a dx : Addr} {fs : List (Str × V)} (h : H a = some (.ins C dx fs)) : TyX K H (.ref a) (.ref C) := .base (TyOf.ins h c.cl c.ha c.hn c.htk c.hm)
section
variable {P : Program} {w : World} {K : PySem.W.Frag} {mg : Str → Option Value} {base : Heap}
theorem ok_Book_eq (C_Book : BookC K mg) (B : EqC K "Book.__eq__" s_Book_eq C_Book.C) (T : TB mg) : FnOk P w K mg base CX0 1 B.f B.fd ["self", "other"] (spEq (BookR K C_Book.C)) := by
  refine ok0 B.F sc_Book_eq (fun vs H Q E h => ?_) (fun cdv A outer s H vs Q E hr h => ?_)
  · obtain ⟨a, b, rfl, _⟩ := h
    rfl
  · obtain ⟨a, b, rfl, ⟨dx, dy, r, d, e, r', d', e', n, R, D, E', h1, h2, b1, b2⟩, k⟩ := h
    refine ⟨_, (pss_one (ps_ret (pe_and (pe_callB call_isi (by rfl) T.isinstance (by decide +kernel) (pa_cons (pv 1) (pa_cons (pe_glob (v := .ref C_Book.C) (by rfl) C_Book.m rfl) pa_nil))) (pe_and (pe_cmpR (op_eqD hr.units) (pe_fld (pv 0) rfl) (pe_fld (pv 1) rfl) (nomark _)) (pe_and (pe_cmpR (op_eqD hr.units) (pe_fld (pv 0) rfl) (pe_fld (pv 1) rfl) (nomark _)) (pe_and (pe_cmpR (op_eqD hr.units) (pe_fld (pv 0) rfl) (pe_fld (pv 1) rfl) (nomark _)) (pe_one (pe_cmpR (op_eqD hr.units) (pe_fld (pv 0) rfl) (pe_fld (pv 1) rfl) (nomark _))))))))), ?_⟩
    refine ⟨_, rfl, _, _, _, _, true, rfl, .own _, insTy B.I h2, B.I.me, _, rfl, iteT ?_⟩
    refine ⟨_, rfl, a, C_Book.C, dx, _, _, rfl, h1, C_Book.cl, C_Book.n1, rfl, _, rfl, b, C_Book.C, dy, _, _, rfl, h2, C_Book.cl, C_Book.n1, rfl, rd_eqD (flt_sq flt_rw R) (by decide) (dp_rows b1.r) (dp_rows b2.r) ⟨_, rfl, iteT ?_⟩⟩
    refine ⟨_, rfl, a, C_Book.C, dx, _, _, rfl, h1, C_Book.cl, C_Book.n2, rfl, _, rfl, b, C_Book.C, dy, _, _, rfl, h2, C_Book.cl, C_Book.n2, rfl, rd_eqD (flt_sq flt_iD D) (by decide) (dp_deeds b1.d) (dp_deeds b2.d) ⟨_, rfl, iteT ?_⟩⟩
    refine ⟨_, rfl, a, C_Book.C, dx, _, _, rfl, h1, C_Book.cl, C_Book.n3, rfl, _, rfl, b, C_Book.C, dy, _, _, rfl, h2, C_Book.cl, C_Book.n3, rfl, rd_eqD (flt_sq flt_en E') (by decide) (dp_ends b1.e) (dp_ends b2.e) ⟨_, rfl, iteT ?_⟩⟩
    refine ⟨_, rfl, a, C_Book.C, dx, _, _, rfl, h1, C_Book.cl, C_Book.n4, rfl, _, rfl, b, C_Book.C, dy, _, _, rfl, h2, C_Book.cl, C_Book.n4, rfl, ?_⟩
    exact rd_eqD (flt_int (n := 0) n) (by decide) (.int _) (.int _) (k H Ext.rfl')
theorem ok_Clash_eq (C_Clash : ClashC K mg) (B : EqC K "Clash.__eq__" s_Clash_eq C_Clash.C) (T : TB mg) : FnOk P w K mg base CX0 1 B.f B.fd ["self", "other"] (spEq (ClashR C_Clash.C)) := by
  refine ok0 B.F sc_Clash_eq (fun vs H Q E h => ?_) (fun cdv A outer s H vs Q E hr h => ?_)
  · obtain ⟨a, b, rfl, _⟩ := h
    rfl
  · obtain ⟨a, b, rfl, ⟨dx, dy, w, j, h1, h2, hw⟩, k⟩ := h
    refine ⟨_, (pss_one (ps_ret (pe_and (pe_callB call_isi (by rfl) T.isinstance (by decide +kernel) (pa_cons (pv 1) (pa_cons (pe_glob (v := .ref C_Clash.C) (by rfl) C_Clash.m rfl) pa_nil))) (pe_and (pe_cmpR (op_eqD hr.units) (pe_fld (pv 0) rfl) (pe_fld (pv 1) rfl) (nomark _)) (pe_one (pe_cmpR (op_eqD hr.units) (pe_fld (pv 0) rfl) (pe_fld (pv 1) rfl) (nomark _))))))), ?_⟩
    refine ⟨_, rfl, _, _, _, _, true, rfl, .own _, insTy B.I h2, B.I.me, _, rfl, iteT ?_⟩
    refine ⟨_, rfl, a, C_Clash.C, dx, _, _, rfl, h1, C_Clash.cl, C_Clash.n1, rfl, _, rfl, b, C_Clash.C, dy, _, _, rfl, h2, C_Clash.cl, C_Clash.n1, rfl, rd_eqD (n := 0) ⟨hw, by rw [PyData.depth]; exact Nat.le_refl _⟩ (by decide) (.str _) (.str _) ⟨_, rfl, iteT ?_⟩⟩
    refine ⟨_, rfl, a, C_Clash.C, dx, _, _, rfl, h1, C_Clash.cl, C_Clash.n2, rfl, _, rfl, b, C_Clash.C, dy, _, _, rfl, h2, C_Clash.cl, C_Clash.n2, rfl, ?_⟩
    exact rd_eqD (flt_int (n := 0) j) (by decide) (.int _) (.int _) (k H Ext.rfl')
end
end My
set_option maxHeartbeats 4000000
/-! k03's mathematics: what stripping does to fillings -/
namespace My
open PySem L2 Sq
theorem fil_cons {ts : List (List Int)} {s : Int} {l : List Int} : filF (s :: l) ts = onF ts s ++ filF l ts := by
  unfold filF
  rw [List.flatMap_cons]
theorem fil_app {ts : List (List Int)} {a b : List Int} : filF (a ++ b) ts = filF a ts ++ filF b ts := by
  unfold filF
  rw [List.flatMap_append]
theorem sf_dec : ∀ l r : List Int, ∃ p, l = p ++ (sf l r).1 ∧ r = p ++ (sf l r).2
  | [], r => ⟨[], by rw [sf_nil (.inl rfl)]; exact ⟨rfl, rfl⟩⟩
  | a :: l, [] => ⟨[], by rw [sf_nil (.inr rfl)]; exact ⟨rfl, rfl⟩⟩
  | a :: l, b :: r => by
    by_cases h : a = b
    · subst h
      obtain ⟨p, h1, h2⟩ := sf_dec l r
      refine ⟨a :: p, ?_, ?_⟩
      · rw [sf_eq, List.cons_append, ← h1]
      · rw [sf_eq, List.cons_append, ← h2]
    · exact ⟨[], by rw [sf_ne h]; exact ⟨rfl, rfl⟩⟩
theorem sf_head : ∀ (l r : List Int) {a b : Int} {x y : List Int}, (sf l r).1 = a :: x → (sf l r).2 = b :: y → a ≠ b
  | [], r, a, b, x, y, h, _ => by
    rw [sf_nil (.inl rfl)] at h
    cases h
  | c :: l, [], a, b, x, y, _, h => by
    rw [sf_nil (.inr rfl)] at h
    cases h
  | c :: l, d :: r, a, b, x, y, h1, h2 => by
    by_cases h : c = d
    · subst h
      rw [sf_eq] at h1 h2
      exact sf_head l r h1 h2
    · rw [sf_ne h] at h1 h2
      cases h1
      cases h2
      exact h
theorem sb_dec (l r : List Int) : ∃ s, l = (sb l r).1 ++ s ∧ r = (sb l r).2 ++ s := by
  obtain ⟨p, h1, h2⟩ := sf_dec l.reverse r.reverse
  refine ⟨p.reverse, ?_, ?_⟩
  · have := congrArg List.reverse h1
    rw [List.reverse_reverse, List.reverse_append] at this
    exact this
  · have := congrArg List.reverse h2
    rw [List.reverse_reverse, List.reverse_append] at this
    exact this
theorem sb_last {l r : List Int} {a b : Int} {x y : List Int} (h1 : (sb l r).1 = x ++ [a]) (h2 : (sb l r).2 = y ++ [b]) : a ≠ b := by
  unfold sb at h1 h2
  have g1 := congrArg List.reverse h1
  have g2 := congrArg List.reverse h2
  rw [List.reverse_reverse, List.reverse_append] at g1 g2
  exact sf_head _ _ g1 g2
theorem strip_dec (l r : List Int) : ∃ p s, l = p ++ (strip l r).1 ++ s ∧ r = p ++ (strip l r).2 ++ s := by
  obtain ⟨p, h1, h2⟩ := sf_dec l r
  obtain ⟨s, g1, g2⟩ := sb_dec (sf l r).1 (sf l r).2
  refine ⟨p, s, ?_, ?_⟩
  · unfold strip
    rw [List.append_assoc, ← g1]
    exact h1
  · unfold strip
    rw [List.append_assoc, ← g2]
    exact h2
theorem strip_head {l r : List Int} {a b : Int} {x y : List Int} (h1 : (strip l r).1 = a :: x) (h2 : (strip l r).2 = b :: y) : a ≠ b := by
  obtain ⟨s, g1, g2⟩ := sb_dec (sf l r).1 (sf l r).2
  unfold strip at h1 h2
  rw [h1, List.cons_append] at g1
  rw [h2, List.cons_append] at g2
  exact sf_head l r g1 g2
theorem strip_last {l r : List Int} {a b : Int} {x y : List Int} (h1 : (strip l r).1 = x ++ [a]) (h2 : (strip l r).2 = y ++ [b]) : a ≠ b := sb_last h1 h2
theorem strip_fix {l r : List Int} (hh : ∀ a b x y, l = a :: x → r = b :: y → a ≠ b) (hl : ∀ a b x y, l = x ++ [a] → r = y ++ [b] → a ≠ b) : strip l r = (l, r) := by
  have e : sf l r = (l, r) := by
    cases l with
    | nil => exact sf_nil (.inl rfl)
    | cons a x =>
      cases r with
      | nil => exact sf_nil (.inr rfl)
      | cons b y => exact sf_ne (hh a b x y rfl rfl)
  unfold strip
  rw [e]
  show sb l r = (l, r)
  by_cases h1 : l = []
  · exact sb_nil (.inl h1)
  · by_cases h2 : r = []
    · exact sb_nil (.inr h2)
    · obtain ⟨i, a, rfl⟩ := snoc_of h1
      obtain ⟨j, b, rfl⟩ := snoc_of h2
      exact sb_ne (hl a b i j rfl rfl)
theorem strip_idem (l r : List Int) : strip (strip l r).1 (strip l r).2 = strip l r := strip_fix (fun a b x y h1 h2 => strip_head h1 h2) fun a b x y h1 h2 => strip_last h1 h2
/-! ### rows that hold -/
theorem hld_strip (ts : List (List Int)) (r : Rw) : hldF ts r = hldF ts (strip r.1 r.2) := by
  obtain ⟨p, s, h1, h2⟩ := strip_dec r.1 r.2
  unfold hldF
  have e : (filF r.1 ts = filF r.2 ts) ↔ (filF (strip r.1 r.2).1 ts = filF (strip r.1 r.2).2 ts) := by
    have e1 : filF r.1 ts = filF p ts ++ filF (strip r.1 r.2).1 ts ++ filF s ts := by
      rw [← fil_app, ← fil_app, ← h1]
    have e2 : filF r.2 ts = filF p ts ++ filF (strip r.1 r.2).2 ts ++ filF s ts := by
      rw [← fil_app, ← fil_app, ← h2]
    rw [e1, e2]
    exact ⟨fun h => List.append_cancel_left (List.append_cancel_right h), fun h => by rw [h]⟩
  exact decide_eq_decide.mpr e
/-- each sign gives a text that is not empty -/
def Full (ts : List (List Int)) (l : List Int) : Prop := ∀ s ∈ l, 0 < (onF ts s).length
theorem full_of {ts : List (List Int)} {l : List Int} (ht : ∀ t ∈ ts, 0 < t.length) (hb : ∀ s ∈ l, -1 - s < (ts.length : Int)) : Full ts l := fun s hs => by
  unfold onF
  split
  · exact Nat.one_pos
  · rename_i c
    have := hb s hs
    rw [List.getD_eq_getElem?_getD, List.getElem?_eq_getElem (by omega)]
    exact ht _ (List.getElem_mem _)
theorem full_ne {ts : List (List Int)} {l : List Int} (h : Full ts l) (hl : l ≠ []) : filF l ts ≠ [] := by
  cases l with
  | nil => exact absurd rfl hl
  | cons a t =>
    intro e
    rw [fil_cons] at e
    have := h a (List.mem_cons_self ..)
    rw [(List.append_eq_nil_iff.mp e).1] at this
    cases this
theorem clash_no {ts : List (List Int)} {l r : List Int} {w : Str} (h1 : Full ts (strip l r).1) (h2 : Full ts (strip l r).2) (hc : clashW (strip l r).1 (strip l r).2 = some w) : hldF ts (strip l r) = false := by
  have hh := fun a b x y => @strip_head l r a b x y
  have hl := fun a b x y => @strip_last l r a b x y
  generalize strip l r = q at h1 h2 hc hh hl
  obtain ⟨x, y⟩ := q
  refine decide_eq_false fun e => ?_
  have e : filF x ts = filF y ts := e
  by_cases nx : x = []
  · by_cases ny : y = []
    · rw [nx, ny] at hc
      cases hc
    · rw [nx] at e
      exact full_ne h2 ny e.symm
  · by_cases ny : y = []
    · rw [ny] at e
      exact full_ne h1 nx e
    · by_cases n1 : 0 ≤ x.headD 0 ∧ 0 ≤ y.headD 0
      · cases x with
        | nil => exact nx rfl
        | cons a x =>
          cases y with
          | nil => exact ny rfl
          | cons b y =>
            rw [fil_cons, fil_cons] at e
            unfold onF at e
            have m1 : 0 ≤ a := n1.1
            have m2 : 0 ≤ b := n1.2
            rw [if_pos m1, if_pos m2] at e
            exact hh a b x y rfl rfl (List.cons.inj e).1
      · by_cases n2 : 0 ≤ x.getLastD 0 ∧ 0 ≤ y.getLastD 0
        · obtain ⟨i, a, rfl⟩ := snoc_of nx
          obtain ⟨j, b, rfl⟩ := snoc_of ny
          rw [getLastD_snoc, getLastD_snoc] at n2
          rw [fil_snoc, fil_snoc] at e
          unfold onF at e
          rw [if_pos n2.1, if_pos n2.2] at e
          have := congrArg List.reverse e
          rw [List.reverse_append, List.reverse_append] at this
          exact hl a b i j rfl rfl (List.cons.inj this).1
        · rw [cw5 nx ny n1 n2] at hc
          cases hc
theorem clash_none_nil {x y : List Int} (h : clashW x y = none) (hx : x = []) : y = [] := by
  by_cases hy : y = []
  · exact hy
  · rw [cw1 hx hy] at h
    cases h
theorem full_strip {ts : List (List Int)} {r : Rw} (h1 : Full ts r.1) (h2 : Full ts r.2) : Full ts (strip r.1 r.2).1 ∧ Full ts (strip r.1 r.2).2 :=
  let q := strip_sub r.1 r.2
  ⟨fun s hs => h1 s (q.1 s hs), fun s hs => h2 s (q.2.1 s hs)⟩
theorem tid_hold {ts : List (List Int)} : ∀ (l : List Rw) (k : Nat) (acc : List Rw), (∀ r ∈ l, Full ts r.1 ∧ Full ts r.2) →
    (∀ us, tidF l k acc = .inl us → (acc.all (hldF ts) && l.all (hldF ts)) = us.all (hldF ts)) ∧ (∀ z, tidF l k acc = .inr z → l.all (hldF ts) = false)
  | [], k, acc, _ => ⟨fun us h => by
    have e : acc = us := Sum.inl.inj h
    rw [e]
    simp, fun z h => nomatch h⟩
  | r :: l, k, acc, hf => by
    obtain ⟨f1, f2⟩ := hf r (List.mem_cons_self ..)
    have fs := full_strip (r := r) f1 f2
    have ht : ∀ r ∈ l, Full ts r.1 ∧ Full ts r.2 := fun x hx => hf x (List.mem_cons_of_mem _ hx)
    cases hc : clashW (strip r.1 r.2).1 (strip r.1 r.2).2 with
    | some w =>
      have e : tidF (r :: l) k acc = .inr (w, k) := by
        unfold tidF
        rw [hc]
      rw [e]
      refine ⟨fun us h => (nomatch h), fun z _ => ?_⟩
      rw [List.all_cons, hld_strip, clash_no fs.1 fs.2 hc, Bool.false_and]
    | none =>
      have e : tidF (r :: l) k acc = tidF l (k + 1) (if (strip r.1 r.2).1 = [] then acc else acc ++ [strip r.1 r.2]) := by
        conv => lhs; unfold tidF
        rw [hc]
      rw [e]
      obtain ⟨i1, i2⟩ := tid_hold l (k + 1) (if (strip r.1 r.2).1 = [] then acc else acc ++ [strip r.1 r.2]) ht
      refine ⟨fun us h => ?_, fun z h => by rw [List.all_cons, i2 z h, Bool.and_false]⟩
      rw [← i1 us h, List.all_cons, hld_strip ts r]
      by_cases nl : (strip r.1 r.2).1 = []
      · rw [if_pos nl]
        have : hldF ts (strip r.1 r.2) = true := by
          unfold hldF
          rw [nl, clash_none_nil hc nl]
          exact decide_eq_true rfl
        rw [this, Bool.true_and]
      · rw [if_neg nl, List.all_append, List.all_cons, List.all_nil, Bool.and_true, Bool.and_assoc]
/-- the fillings of the tidied rows are those of the rows; where a clash comes, there are none -/
theorem fll_tidy {rs : List Rw} {ds : List (List Int)} {es : List (Int × List Int)} {n : Int} {m : Nat} (hb : ∀ r ∈ rs, RowB es.length r) :
    (∀ us, tidF rs 0 [] = .inl us → fllF us ds es n m = fllF rs ds es n m) ∧ ∀ z, tidF rs 0 [] = .inr z → fllF rs ds es n m = [] := by
  have key : ∀ had ∈ comF (es.map (lisF ds n m)), ∀ r ∈ rs, Full had r.1 ∧ Full had r.2 := fun had hh r hr => by
    obtain ⟨c1, c2⟩ := com_in _ had hh
    rw [List.length_map] at c1
    obtain ⟨b1, b2, _⟩ := hb r hr
    have ht : ∀ t ∈ had, 0 < t.length := fun t ht => by
      obtain ⟨i, hi⟩ := List.mem_iff_getElem?.mp ht
      obtain ⟨ts, h1, h2⟩ := c2 i t hi
      rw [List.getElem?_map] at h1
      obtain ⟨e, _, rfl⟩ := Option.map_eq_some_iff.mp h1
      exact (lis_in h2).2.1
    exact ⟨full_of ht (by rw [c1]; exact b1), full_of ht (by rw [c1]; exact b2)⟩
  refine ⟨fun us h => ?_, fun z h => ?_⟩
  · unfold fllF
    refine List.filter_congr fun had hh => ?_
    have := (tid_hold rs 0 [] (key had hh)).1 us h
    rw [← this]
    simp
  · unfold fllF
    rw [List.filter_eq_nil_iff]
    intro had hh q
    rw [(tid_hold rs 0 [] (key had hh)).2 z h] at q
    cases q
/-! ### tidy rows stay -/
def TidyR (r : Rw) : Prop := strip r.1 r.2 = r ∧ clashW r.1 r.2 = none ∧ r.1 ≠ []
theorem tid_tidy : ∀ (l : List Rw) (k : Nat) (acc ts : List Rw), (∀ r ∈ acc, TidyR r) → tidF l k acc = .inl ts → ∀ r ∈ ts, TidyR r
  | [], k, acc, ts, ha, h => by
    cases h
    exact ha
  | r :: l, k, acc, ts, ha, h => by
    cases hc : clashW (strip r.1 r.2).1 (strip r.1 r.2).2 with
    | some w =>
      unfold tidF at h
      rw [hc] at h
      cases h
    | none =>
      unfold tidF at h
      rw [hc] at h
      refine tid_tidy l (k + 1) _ ts (fun x hx => ?_) h
      by_cases nl : (strip r.1 r.2).1 = []
      · rw [if_pos nl] at hx
        exact ha x hx
      · rw [if_neg nl] at hx
        rcases List.mem_append.mp hx with hx | hx
        · exact ha x hx
        · rw [List.mem_singleton.mp hx]
          exact ⟨strip_idem _ _, hc, nl⟩
theorem tid_again : ∀ (l : List Rw) (k : Nat) (acc : List Rw), (∀ r ∈ l, TidyR r) → tidF l k acc = .inl (acc ++ l)
  | [], k, acc, _ => by simp [tidF]
  | r :: l, k, acc, h => by
    obtain ⟨h1, h2, h3⟩ := h r (List.mem_cons_self ..)
    have ih := tid_again l (k + 1) (acc ++ [r]) fun x hx => h x (List.mem_cons_of_mem _ hx)
    unfold tidF
    rw [h1, h2]
    simp only [h3, if_false]
    rw [ih, List.append_assoc]
    rfl
theorem tid_fix {rs ts : List Rw} (h : tidF rs 0 [] = .inl ts) : tidF ts 0 [] = .inl ts := by
  have := tid_again ts 0 [] (tid_tidy rs 0 [] ts (by simp) h)
  simpa using this
end My
set_option maxHeartbeats 4000000
namespace My
open PySem PySem.Spec PyProof.Rows L2 Lcn Sq
open En
/-- a word of tidying is a short text -/
theorem clash_lay {x y : List Int} {w : Str} (h : clashW x y = some w) : PyData.canLay0 (.str w) = true := by
  unfold clashW at h
  split at h
  · cases h
  · split at h
    · cases h
      decide +kernel
    · split at h
      · cases h
        decide +kernel
      · split at h
        · cases h
          decide +kernel
        · cases h
theorem tid_lay : ∀ (l : List Rw) (k : Nat) (acc : List Rw) {w : Str} {j : Nat}, tidF l k acc = .inr (w, j) → PyData.canLay0 (.str w) = true
  | [], k, acc, w, j, h => by cases h
  | r :: l, k, acc, w, j, h => by
    unfold tidF at h
    split at h
    · rename_i w' hc
      cases h
      exact clash_lay hc
    · exact tid_lay l _ _ h
/-- what tidy told -/
def ToldAt (K : PySem.W.Frag) (CB CC : Addr) (H : Hp) (R : List Rw) (D : List (List Int)) (E : List (Int × List Int)) (n : Int) (t : Addr) : Prop :=
  (∃ (ts : List Rw) (dx : Addr) (r d e : V), tidF R 0 [] = .inl ts ∧ H t = some (.ins CB dx (bookF r d e n)) ∧ BookAt K H ts D E r d e) ∨
  (∃ (w : Str) (k : Nat) (dx : Addr), tidF R 0 [] = .inr (w, k) ∧ H t = some (.ins CC dx (clashF (.str w) (.int (k : Nat)))))
theorem BookAt.kt {K : PySem.W.Frag} {H H' : Hp} {R : List Rw} {D : List (List Int)} {E : List (Int × List Int)} {r d e : V} (k : KT H H') (h : BookAt K H R D E r d e) : BookAt K H' R D E r d e :=
  ⟨h.r.kt (fun _ _ h => h.kt k) k, h.d.kt (fun _ _ h => h.kt k) k, h.e.kt (fun _ _ h => h.kt k) k⟩
theorem ToldAt.kt {K : PySem.W.Frag} {CB CC : Addr} {H H' : Hp} {R : List Rw} {D : List (List Int)} {E : List (Int × List Int)} {n : Int} {t : Addr} (k : KT H H') (h : ToldAt K CB CC H R D E n t) : ToldAt K CB CC H' R D E n t := by
  rcases h with ⟨ts, dx, r, d, e, h1, h2, h3⟩ | ⟨w, j, dx, h1, h2⟩
  · exact .inl ⟨ts, dx, r, d, e, h1, k _ _ rfl h2, h3.kt k⟩
  · exact .inr ⟨w, j, dx, h1, k _ _ rfl h2⟩
def sp__law_same_tidy (K : PySem.W.Frag) (CB CC : Addr) : Sp := fun vs H Q _ => ∃ (b dx t p : Addr) (r d e : V) (n : Int) (R : List Rw) (D : List (List Int)) (E : List (Int × List Int)), vs = [.ref b, .ref t, .ref p] ∧ H b = some (.ins CB dx (bookF r d e n)) ∧ BookAt K H R D E r d e ∧ BookOk R D E n ∧
  LstR K (RowT K) H p R ∧ R.length ≤ 500 ∧ ToldAt K CB CC H R D E n t ∧ ∀ H', Same H H' → Q (.bl true) H'
theorem tupTy {K : PySem.W.Frag} {H : Hp} {a : Addr} {xs : List V} (h : SqT K H a xs) : TyX K H (.ref a) (.type "tuple") := by
  rcases h with (h | ⟨o, h⟩) | ⟨o, its, n, h, c, _⟩
  · exact .base (.tup h)
  · exact .fTuple h
  · exact .kTuple h c
theorem sc__law_same_tidy : FnScope ["_law_book", "_law_told", "_law_rows", "_law_due"] ["_law_book", "_law_told", "_law_rows"] (defScope s__law_same_tidy) := ⟨rfl, rfl, rfl, by decide +kernel, rfl, by decide +kernel, by decide +kernel⟩
section
variable {P : Program} {w : World} {K : PySem.W.Frag} {mg : Str → Option Value} {base : Heap}
theorem ok__law_same_tidy (D__law_same_tidy : Dn K mg "_law_same_tidy" s__law_same_tidy ["_law_book", "_law_told", "_law_rows"]) (C_Book : BookC K mg) (Q_Book : EqC K "Book.__eq__" s_Book_eq C_Book.C) (G_Book_eq : FnOk P w K mg base CX0 1 Q_Book.f Q_Book.fd ["self", "other"] (spEq (BookR K C_Book.C))) (C_Clash : ClashC K mg) (G_Clash : FnOk P w K mg base CX0 1 C_Clash.f C_Clash.fd ["self", "why", "at"] (sp_Clash_init K C_Clash.C)) (Q_Clash : EqC K "Clash.__eq__" s_Clash_eq C_Clash.C) (G_Clash_eq : FnOk P w K mg base CX0 1 Q_Clash.f Q_Clash.fd ["self", "other"] (spEq (ClashR C_Clash.C)))
    (D__law_tidy : Dn K mg "_law_tidy" s__law_tidy ["_law_rows"]) (G__law_tidy : FnOk P w K mg base CX0 2 D__law_tidy.f D__law_tidy.fd ["_law_rows"] (sp__law_tidy K)) (D_tidy : Dn K mg "tidy" s_tidy ["book"]) (G_tidy : FnOk P w K mg base CX0 7 D_tidy.f D_tidy.fd ["book"] (sp_tidy K C_Book.C C_Clash.C)) (T : TB mg) : FnOk P w K mg base CX0 8 D__law_same_tidy.f D__law_same_tidy.fd ["_law_book", "_law_told", "_law_rows"] (sp__law_same_tidy K C_Book.C C_Clash.C) := by
  refine ok0 D__law_same_tidy.F sc__law_same_tidy (fun vs H Q E h => ?_) (fun cdv A outer s H vs Q E hr h => ?_)
  · obtain ⟨b, dx, t, p, r, d, e, n, R, D, E', rfl, hB, bA, ok, hp, rl, tl, k⟩ := h
    rfl
  · obtain ⟨b, dx, t, p, r, d, e, n, R, D, E', rfl, hB, bA, ok, hp, rl, tl, k⟩ := h
    refine ⟨_, (pss_cons (ps_set (i := 3) sc__law_same_tidy.nd rfl (by first | exact Or.inl rfl | exact Or.inr rfl) (pe_call G__law_tidy (hr.mono (by decide)) (by rfl) D__law_tidy.m D__law_tidy.F.kp D__law_tidy.b .nil pass0 (pa_cons (pv 2) pa_nil)))
  (pss_cons (ps_if (pt_val (pe_callB call_isi (by rfl) T.isinstance (by decide +kernel) (pa_cons (pv 3) (pa_cons (pe_bltn (v := .ty "tuple") (by rfl) T.tuple_ (by decide +kernel) rfl) pa_nil)))) (pss_one (ps_ret (pe_and (pe_callB call_isi (by rfl) T.isinstance (by decide +kernel) (pa_cons (pv 1) (pa_cons (pe_glob (v := .ref C_Clash.C) (by rfl) C_Clash.m rfl) pa_nil))) (pe_and (pe_cmpR (op_eqD hr.units) (pe_tup (pa_cons (pe_fld (pv 1) rfl) (pa_cons (pe_fld (pv 1) rfl) pa_nil))) (pv 3) (nomark _)) (pe_one (pe_cmpR (op_eqG (rcG_ins (CX := CX0) (E := C8.E0) G_Clash_eq Q_Clash.at_ Q_Clash.fn Q_Clash.b C8.pass0) (hr.mono (by decide))) (pv 1) (pe_make C_Clash.M G_Clash (hr.mono (by decide)) (by rfl) C_Clash.m C_Clash.b .nil pass0 (pa_cons (pe_ix ix_tup (pv 3) pe_int (fun _ _ => rfl)) (pa_cons (pe_ix ix_tup (pv 3) pe_int (fun _ _ => rfl)) pa_nil))) (nomark _))))))) pss_nil)
  (pss_cons (ps_if (PW.pt (pw_or (pt_not (pt_val (pe_callB call_isi (by rfl) T.isinstance (by decide +kernel) (pa_cons (pv 1) (pa_cons (pe_glob (v := .ref C_Book.C) (by rfl) C_Book.m rfl) pa_nil))))) (pw_or1 (pt_cmpR (op_neD hr.units) (pe_fld (pv 1) rfl) (pe_callTy call_tupR (by rfl) T.tuple_ (by decide +kernel) (pa_cons (pv 3) pa_nil)) (nomark _))))) (pss_one (ps_ret pe_bl)) pss_nil)
  (pss_cons (ps_if (pt_cmpR (op_neD hr.units) (pe_tup (pa_cons (pe_fld (pv 1) rfl) (pa_cons (pe_fld (pv 1) rfl) (pa_cons (pe_fld (pv 1) rfl) pa_nil)))) (pe_tup (pa_cons (pe_fld (pv 0) rfl) (pa_cons (pe_fld (pv 0) rfl) (pa_cons (pe_fld (pv 0) rfl) pa_nil)))) (nomark _)) (pss_one (ps_ret pe_bl)) pss_nil)
  (pss_one (ps_ret (pe_cmpR (op_eqG (rcG_ins (CX := CX0) (E := C8.E0) G_Book_eq Q_Book.at_ Q_Book.fn Q_Book.b C8.pass0) (hr.mono (by decide))) (pe_call G_tidy (hr.mono (by decide)) (by rfl) D_tidy.m D_tidy.F.kp D_tidy.b .nil pass0 (pa_cons (pv 1) pa_nil)) (pv 1) (nomark _)))))))), ?_⟩
    refine ⟨_, rfl, p, R, rfl, hp, rl, fun q H1 ts s1 nq lq ht => ?_, fun q H1 w j s1 sq ht => ?_⟩
    · rcases tl with ⟨ts', dt, r', d', e', t1, t2, t3⟩ | ⟨w, j, dt, t1, t2⟩
      · cases ht.symm.trans t1
        obtain ⟨xq, q1, q2, q3⟩ := lq
        refine ⟨_, rfl, _, _, _, _, false, rfl, .ty _, .base (.lst q1), kit_ty (by decide +kernel), _, rfl, iteF ?_⟩
        have k1 := KT.of s1
        have T1 := s1 _ _ t2
        refine ⟨_, rfl, _, _, _, _, true, rfl, .own _, insTy Q_Book.I T1, Q_Book.I.me, _, rfl, iteF ?_⟩
        refine ⟨_, rfl, t, C_Book.C, dt, _, _, rfl, T1, C_Book.cl, C_Book.n1, rfl, _, rfl, ?_⟩
        refine rd_tup (.inl (SqL.of q1)) fun q' H2 s2 sq' => ?_
        have s12 := s1.trans s2
        have k12 := KT.of s12
        have A2 := t3.kt k12
        refine rd_neD (flt_sq flt_rw ts) (by decide) (dp_rows A2.r) (dp_rows ⟨q', xq, rfl, sq', q2, fun i x z h1 h2 => (q3 i x z h1 h2).kt (KT.of s2)⟩) ?_
        have T2 := s12 _ _ t2
        have B2 := s12 _ _ hB
        have bA2 := bA.kt k12
        refine ⟨_, rfl, iteF ?_⟩
        refine ⟨_, rfl, t, C_Book.C, dt, _, _, rfl, T2, C_Book.cl, C_Book.n2, rfl, _, rfl, t, C_Book.C, dt, _, _, rfl, T2, C_Book.cl, C_Book.n3, rfl, _, rfl, t, C_Book.C, dt, _, _, rfl, T2, C_Book.cl, C_Book.n4, rfl, (by show 3 ≤ sizeLine; decide), fun u3 n3 => ?_⟩
        have s3 := same_new (o := .tup [d', e', .int n]) n3
        refine ⟨_, rfl, b, C_Book.C, dx, _, _, rfl, s3 _ _ B2, C_Book.cl, C_Book.n2, rfl, _, rfl, b, C_Book.C, dx, _, _, rfl, s3 _ _ B2, C_Book.cl, C_Book.n3, rfl, _, rfl, b, C_Book.C, dx, _, _, rfl, s3 _ _ B2, C_Book.cl, C_Book.n4, rfl, (by show 3 ≤ sizeLine; decide), fun u4 n4 => ?_⟩
        have s4 := same_new (o := .tup [d, e, .int n]) n4
        have s24 := s3.trans s4
        have A4 := A2.kt (KT.of s24)
        have bA4 := bA2.kt (KT.of s24)
        refine rd_neD (flt_tup (flta_cons ((flt_sq flt_iD D).mono (by decide)) (flta_cons (flt_sq flt_en E') (flta_cons (flt_int n) flta_nil)))) (by decide) (.tup (SqT.of (s4 _ _ upd_same)) (.cons (dp_deeds A4.d) (.cons (dp_ends A4.e) (.cons (.int n) .nil)))) (.tup (SqT.of upd_same) (.cons (dp_deeds bA4.d) (.cons (dp_ends bA4.e) (.cons (.int n) .nil)))) ?_
        have s14 := s12.trans s24
        have T4 := s14 _ _ t2
        refine ⟨_, rfl, iteF ?_⟩
        refine ⟨_, rfl, t, dt, r', d', e', n, ts, D, E', rfl, T4, A4, ok_tid ok t1, fun q5 d5 H5 ts5 r5 e5 f5 s5 h5 h6 h7 => ?_, fun q5 d5 H5 w5 k5 s5 h5 h6 => ?_⟩
        · cases (tid_fix t1).symm.trans h5
          refine ⟨_, rfl, ⟨q5, t, d5, dt, _, _, rfl, rfl, h6, s5 _ _ T4, d5, dt, r5, e5, f5, r', d', e', n, ts, D, E', h6, s5 _ _ T4, h7, A4.kt (KT.of s5)⟩, fun H6 x6 => ?_⟩
          exact k H6 fun a o h => x6 a o (s5 a o (s14 a o h))
        · cases (tid_fix t1).symm.trans h5
      · cases ht.symm.trans t1
    · rcases tl with ⟨ts', dt, r', d', e', t1, t2, t3⟩ | ⟨w', j', dt, t1, t2⟩
      · cases ht.symm.trans t1
      · cases ht.symm.trans t1
        refine ⟨_, rfl, _, _, _, _, true, rfl, .ty _, tupTy sq, kit_ty (by decide +kernel), _, rfl, iteT ?_⟩
        have T1 := s1 _ _ t2
        have hw := tid_lay R 0 [] ht
        refine ⟨_, rfl, _, _, _, _, true, rfl, .own _, insTy Q_Clash.I T1, Q_Clash.I.me, _, rfl, iteT ?_⟩
        refine ⟨_, rfl, t, C_Clash.C, dt, _, _, rfl, T1, C_Clash.cl, C_Clash.n1, rfl, _, rfl, t, C_Clash.C, dt, _, _, rfl, T1, C_Clash.cl, C_Clash.n2, rfl, (by show 2 ≤ sizeLine; decide), fun u3 n3 => ⟨_, rfl, ?_⟩⟩
        have s3 := same_new (o := .tup [.str w, .int (j : Nat)]) n3
        have sq3 := SqT.same s3 sq
        have hd : FltA 0 [.str w, .int (j : Nat)] := flta_cons ⟨hw, by rw [PyData.depth]; exact Nat.le_refl _⟩ (flta_cons (flt_int _) flta_nil)
        refine rd_eqD (flt_tup hd) (by decide) (.tup (SqT.of upd_same) (.cons (.str _) (.cons (.int _) .nil))) (.tup sq3 (.cons (.str _) (.cons (.int _) .nil))) ⟨_, rfl, iteT ?_⟩
        refine ⟨_, rfl, ?_⟩
        refine ⟨_, rfl, q, _, 0, _, rfl, rfl, sq3, rfl, _, rfl, q, _, 1, _, rfl, rfl, sq3, rfl, fun q6 dq hq hdq ndq => ?_⟩
        refine ⟨q6, _, _, dq, rfl, upd_same, fun H6 bt hs => ⟨rfl, ?_⟩⟩
        have s6 := s3.trans (same_make hq hdq bt)
        refine ⟨⟨t, q6, dt, dq, _, _, rfl, rfl, s6 _ _ T1, hs, dt, dq, w, _, s6 _ _ T1, hs, hw⟩, fun H7 x7 => ?_⟩
        exact k H7 fun a o h => x7 a o (s6 a o (s1 a o h))
end
end My
set_option maxHeartbeats 4000000
namespace My
open PySem PySem.Spec PyProof.Rows L2 Lcn Sq
open En
def sp__law_source (K : PySem.W.Frag) : Sp := fun vs H Q _ => ∃ (a : Addr) (ns : List Int), vs = [.ref a] ∧ SqL K H a (ns.map V.int) ∧ ∀ (p L : Addr) (H' : Hp), Same H H' → H p = none → Src H' p L ns → Q (.ref p) H'
def sp_law (K : PySem.W.Frag) : Sp := fun vs H Q _ => ∃ (a : Addr) (ns : List Int), vs = [.ref a] ∧ SqL K H a (ns.map V.int) ∧ ∀ H', Q (.bl true) H'
theorem tex_ne {l : Int} (h0 : 1 ≤ l) (h1 : l ≤ 2) {xs : List V} (h : xs.length = (texF l 2).length) : xs ≠ [] := fun e => by
  subst e
  rcases (by omega : l = 1 ∨ l = 2) with rfl | rfl
  · revert h
    decide
  · revert h
    decide
/-- what the law has drawn, ahead of the book -/
def LawM (K : PySem.W.Frag) (a0 a L : Addr) (ns : List Int) (σ : L2.St) (H : Hp) : Prop :=
  ∃ (n l u : Int) (mv : V) (pd De pr : Addr) (zs ds : List (List Int)) (es : List (Int × List Int)) (rs : List Rw) (o8 o9 o11 o12 o13 o14 o15 o16 : Option V),
    σ = [some (.ref a0), some (.ref a), some (.int n), some (.int l), some (.int u), some mv, some (.ref pd), some (.ref De), o8, o9, some (.ref pr), o11, o12, o13, o14, o15, o16] ∧ (1 ≤ n ∧ n ≤ 3) ∧ (1 ≤ l ∧ l ≤ 2) ∧ (1 ≤ u ∧ u ≤ 2) ∧ Src H a L ns ∧ SeqT K (IntsT K) H mv zs ∧ (zs.length : Int) = n ∧ (∀ z ∈ zs, RD n 2 z) ∧
    LstR K (IntsT K) H pd ds ∧ (ds.length : Int) = l ∧ (∀ d ∈ ds, RD n n d) ∧ LstR K (EndT K) H De es ∧ (es.length : Int) = u ∧ (∀ e ∈ es, EnOk n e) ∧ LstR K (RowT K) H pr rs ∧ rs.length ≤ 3 ∧ (∀ r ∈ rs, SgOk l u r.1 ∧ SgOk l u r.2) ∧ pd ≠ a ∧ De ≠ a ∧ pr ≠ a
theorem sc_law : FnScope ["_law_script", "_law_source_here", "_law_states", "_law_letters", "_law_unknowns", "_law_moves_here", "_law_deeds", "_law_ends", "_law_pool", "_law_texts_here", "_law_rows", "_law_book", "_law_told", "_law_more", "_law_most", "_law_found", "_law_k"] ["_law_script"] (defScope s_law) := ⟨rfl, rfl, rfl, by decide +kernel, rfl, by decide +kernel, by decide +kernel⟩
section
variable {P : Program} {w : World} {K : PySem.W.Frag} {mg : Str → Option Value} {base : Heap}
theorem ok__law_source (D__law_source : Dn K mg "_law_source" s__law_source ["_law_script"]) (T : TxtS mg) : FnOk P w K mg base CX0 1 D__law_source.f D__law_source.fd ["_law_script"] (sp__law_source K) := ok_source D__law_source.F T
theorem ok_law (D_law : Dn K mg "law" s_law ["_law_script"]) (C_Book : BookC K mg) (G_Book : FnOk P w K mg base CX0 5 C_Book.f C_Book.fd ["self", "rows", "deeds", "ends", "states"] (sp_Book_init K C_Book.C)) (C_Clash : ClashC K mg) (I_Book : C8.InsC K C_Book.C) (I_Clash : C8.InsC K C_Clash.C) (X_BC : PySem.W.kitOne K (.ref C_Book.C) (.ref C_Clash.C) = some false)
    (D__law_fillings : Dn K mg "_law_fillings" s__law_fillings ["_law_rows", "_law_deeds", "_law_ends", "_law_states", "_law_most"]) (G__law_fillings : FnOk P w K mg base CX0 4 D__law_fillings.f D__law_fillings.fd ["_law_rows", "_law_deeds", "_law_ends", "_law_states", "_law_most"] (sp__law_fillings K)) (D__law_lots : Dn K mg "_law_lots" s__law_lots ["_law_source_here", "_law_moves_here", "_law_many"]) (G__law_lots : FnOk P w K mg base CX0 2 D__law_lots.f D__law_lots.fd ["_law_source_here", "_law_moves_here", "_law_many"] (sp__law_lots K)) (D__law_same_tidy : Dn K mg "_law_same_tidy" s__law_same_tidy ["_law_book", "_law_told", "_law_rows"]) (G__law_same_tidy : FnOk P w K mg base CX0 8 D__law_same_tidy.f D__law_same_tidy.fd ["_law_book", "_law_told", "_law_rows"] (sp__law_same_tidy K C_Book.C C_Clash.C)) (D_tidy : Dn K mg "tidy" s_tidy ["book"]) (G_tidy : FnOk P w K mg base CX0 7 D_tidy.f D_tidy.fd ["book"] (sp_tidy K C_Book.C C_Clash.C)) (D__law_draw_rows : Dn K mg "_law_draw_rows" s__law_draw_rows ["_law_source_here", "_law_letters", "_law_unknowns", "_law_texts_here"]) (G__law_draw_rows : FnOk P w K mg base CX0 4 D__law_draw_rows.f D__law_draw_rows.fd ["_law_source_here", "_law_letters", "_law_unknowns", "_law_texts_here"] (sp__law_draw_rows K)) (D__law_pick : Dn K mg "_law_pick" s__law_pick ["_law_source_here", "_law_things"]) (G__law_pick : FnOk P w K mg base CX0 2 D__law_pick.f D__law_pick.fd ["_law_source_here", "_law_things"] (sp__law_pick)) (D__law_texts : Dn K mg "_law_texts" s__law_texts ["_law_letters", "_law_most"]) (G__law_texts : FnOk P w K mg base CX0 1 D__law_texts.f D__law_texts.fd ["_law_letters", "_law_most"] (sp__law_texts K)) (D__law_end_states : Dn K mg "_law_end_states" s__law_end_states ["_law_source_here", "_law_states"]) (G__law_end_states : FnOk P w K mg base CX0 2 D__law_end_states.f D__law_end_states.fd ["_law_source_here", "_law_states"] (sp__law_end_states K)) (D__law_moves : Dn K mg "_law_moves" s__law_moves ["_law_source_here", "_law_states", "_law_letters"]) (G__law_moves : FnOk P w K mg base CX0 2 D__law_moves.f D__law_moves.fd ["_law_source_here", "_law_states", "_law_letters"] (sp__law_moves K)) (D__law_take : Dn K mg "_law_take" s__law_take ["_law_source_here", "_law_many"]) (G__law_take : FnOk P w K mg base CX0 1 D__law_take.f D__law_take.fd ["_law_source_here", "_law_many"] (sp__law_take)) (D__law_source : Dn K mg "_law_source" s__law_source ["_law_script"]) (G__law_source : FnOk P w K mg base CX0 1 D__law_source.f D__law_source.fd ["_law_script"] (sp__law_source K)) (T : TB mg) : FnOk P w K mg base CX0 9 D_law.f D_law.fd ["_law_script"] (sp_law K) := by
  refine ok0 D_law.F sc_law (fun vs H Q E h => ?_) (fun cdv A outer s H vs Q E hr h => ?_)
  · obtain ⟨a, ns, rfl, _⟩ := h
    rfl
  · obtain ⟨a0, ns, rfl, hS, k⟩ := h
    refine ⟨_, (pss_cons (ps_set (i := 1) sc_law.nd rfl (by first | exact Or.inl rfl | exact Or.inr rfl) (pe_call G__law_source (hr.mono (by decide)) (by rfl) D__law_source.m D__law_source.F.kp D__law_source.b .nil pass0 (pa_cons (pv 0) pa_nil)))
  (pss_cons (ps_set (i := 2) sc_law.nd rfl (by first | exact Or.inl rfl | exact Or.inr rfl) (pe_op op_add pe_int (pe_call G__law_take (hr.mono (by decide)) (by rfl) D__law_take.m D__law_take.F.kp D__law_take.b .nil pass0 (pa_cons (pv 1) (pa_cons pe_int pa_nil)))))
  (pss_cons (ps_set (i := 3) sc_law.nd rfl (by first | exact Or.inl rfl | exact Or.inr rfl) (pe_op op_add pe_int (pe_call G__law_take (hr.mono (by decide)) (by rfl) D__law_take.m D__law_take.F.kp D__law_take.b .nil pass0 (pa_cons (pv 1) (pa_cons pe_int pa_nil)))))
  (pss_cons (ps_set (i := 4) sc_law.nd rfl (by first | exact Or.inl rfl | exact Or.inr rfl) (pe_op op_add pe_int (pe_call G__law_take (hr.mono (by decide)) (by rfl) D__law_take.m D__law_take.F.kp D__law_take.b .nil pass0 (pa_cons (pv 1) (pa_cons pe_int pa_nil)))))
  (pss_cons (ps_set (i := 5) sc_law.nd rfl (by first | exact Or.inl rfl | exact Or.inr rfl) (pe_call G__law_moves (hr.mono (by decide)) (by rfl) D__law_moves.m D__law_moves.F.kp D__law_moves.b .nil pass0 (pa_cons (pv 1) (pa_cons (pv 2) (pa_cons pe_int pa_nil)))))
  (pss_cons (ps_set (i := 6) sc_law.nd rfl (by first | exact Or.inl rfl | exact Or.inr rfl) (pe_call G__law_lots (hr.mono (by decide)) (by rfl) D__law_lots.m D__law_lots.F.kp D__law_lots.b .nil pass0 (pa_cons (pv 1) (pa_cons (pv 5) (pa_cons (pv 3) pa_nil)))))
  (pss_cons (ps_setLc (i := 7) (own := [(("_law_k" : Str), 16)]) rfl sc_law.nd rfl rfl (sw_true rfl rfl rfl (by decide +kernel)) (pi_range1 (by rfl) T.range (pa_cons (pv 4) pa_nil)) (blkOk_by (own := [(("_law_k" : Str), 16)]) (N := ["_law_script", "_law_source_here", "_law_states", "_law_letters", "_law_unknowns", "_law_moves_here", "_law_deeds", "_law_ends", "_law_pool", "_law_texts_here", "_law_rows", "_law_book", "_law_told", "_law_more", "_law_most", "_law_found", "_law_k"]) (sc := defScope s_law) (by decide +kernel)) (fun _ _ _ _ _ => (pg_name (i := 16) sc_law.nd rfl (Or.inl rfl))) (fun _ _ _ _ _ => pts_nil) (fun _ _ _ _ _ => (pe_call G__law_end_states (hr.mono (by decide)) (by rfl) D__law_end_states.m D__law_end_states.F.kp D__law_end_states.b .nil pass0 (pa_cons (pv 1) (pa_cons (pv 2) pa_nil)))))
  (pss_cons (ps_set (i := 8) sc_law.nd rfl (by first | exact Or.inl rfl | exact Or.inr rfl) (pe_call G__law_texts (hr.mono (by decide)) (by rfl) D__law_texts.m D__law_texts.F.kp D__law_texts.b .nil pass0 (pa_cons (pv 3) (pa_cons pe_int pa_nil))))
  (pss_cons (ps_setLc (i := 9) (own := [(("_law_k" : Str), 16)]) rfl sc_law.nd rfl rfl (sw_true rfl rfl rfl (by decide +kernel)) (pi_range1 (by rfl) T.range (pa_cons (pv 4) pa_nil)) (blkOk_by (own := [(("_law_k" : Str), 16)]) (N := ["_law_script", "_law_source_here", "_law_states", "_law_letters", "_law_unknowns", "_law_moves_here", "_law_deeds", "_law_ends", "_law_pool", "_law_texts_here", "_law_rows", "_law_book", "_law_told", "_law_more", "_law_most", "_law_found", "_law_k"]) (sc := defScope s_law) (by decide +kernel)) (fun _ _ _ _ _ => (pg_name (i := 16) sc_law.nd rfl (Or.inl rfl))) (fun _ _ _ _ _ => pts_nil) (fun _ _ _ _ _ => (pe_call G__law_pick (hr.mono (by decide)) (by rfl) D__law_pick.m D__law_pick.F.kp D__law_pick.b .nil pass0 (pa_cons (pv 1) (pa_cons (pv 8) pa_nil)))))
  (C8.pss_cut (ps_set (i := 10) sc_law.nd rfl (by first | exact Or.inl rfl | exact Or.inr rfl) (pe_call G__law_draw_rows (hr.mono (by decide)) (by rfl) D__law_draw_rows.m D__law_draw_rows.F.kp D__law_draw_rows.b .nil pass0 (pa_cons (pv 1) (pa_cons (pv 3) (pa_cons (pv 4) (pa_cons (pv 9) pa_nil))))))
  (pss_cons (ps_set (i := 11) sc_law.nd rfl (by first | exact Or.inl rfl | exact Or.inr rfl) (pe_make C_Book.M G_Book (hr.mono (by decide)) (by rfl) C_Book.m C_Book.b .nil pass0 (pa_cons (pv 10) (pa_cons (pv 6) (pa_cons (pv 7) (pa_cons (pv 2) pa_nil))))))
  (C8.pss_cut (ps_set (i := 12) sc_law.nd rfl (by first | exact Or.inl rfl | exact Or.inr rfl) (pe_call G_tidy (hr.mono (by decide)) (by rfl) D_tidy.m D_tidy.F.kp D_tidy.b .nil pass0 (pa_cons (pv 11) pa_nil)))
  (pss_cons (ps_if (PW.pt (pw_or (pt_not (pt_val (pe_call G__law_same_tidy (hr.mono (by decide)) (by rfl) D__law_same_tidy.m D__law_same_tidy.F.kp D__law_same_tidy.b .nil pass0 (pa_cons (pv 11) (pa_cons (pv 12) (pa_cons (pv 10) pa_nil)))))) (pw_or1 (pt_cmpR (op_neD hr.units) (pe_fld (pv 11) rfl) (pe_callTy call_tupR (by rfl) T.tuple_ (by decide +kernel) (pa_cons (pv 10) pa_nil)) (nomark _))))) (pss_one (ps_ret pe_bl)) pss_nil)
  (pss_cons (ps_set (i := 13) sc_law.nd rfl (by first | exact Or.inl rfl | exact Or.inr rfl) (pe_op op_cat (pv 6) (pe_lst (pa_cons (pe_ix ix_list (pe_call G__law_lots (hr.mono (by decide)) (by rfl) D__law_lots.m D__law_lots.F.kp D__law_lots.b .nil pass0 (pa_cons (pv 1) (pa_cons (pv 5) (pa_cons pe_int pa_nil)))) pe_int (fun _ _ => rfl)) pa_nil))))
  (C8.pss_cut (ps_set (i := 14) sc_law.nd rfl (by first | exact Or.inl rfl | exact Or.inr rfl) (pe_ifExp (pt_cmpR op_eq (pv 4) pe_int (nomark _)) pe_int pe_int))
  (pss_cons (ps_set (i := 15) sc_law.nd rfl (by first | exact Or.inl rfl | exact Or.inr rfl) (pe_call G__law_fillings (hr.mono (by decide)) (by rfl) D__law_fillings.m D__law_fillings.F.kp D__law_fillings.b .nil pass0 (pa_cons (pv 10) (pa_cons (pv 13) (pa_cons (pv 7) (pa_cons (pv 2) (pa_cons (pv 14) pa_nil)))))))
  (pss_cons (ps_if (pt_val (pe_callB call_isi (by rfl) T.isinstance (by decide +kernel) (pa_cons (pv 12) (pa_cons (pe_glob (v := .ref C_Clash.C) (by rfl) C_Clash.m rfl) pa_nil)))) (pss_one (ps_ret (pe_cmpR (op_eqD hr.units) (pv 15) (pe_lst pa_nil) (nomark _)))) pss_nil)
  (pss_one (ps_ret (pe_cmpR (op_eqD hr.units) (pe_call G__law_fillings (hr.mono (by decide)) (by rfl) D__law_fillings.m D__law_fillings.F.kp D__law_fillings.b .nil pass0 (pa_cons (pe_fld (pv 12) rfl) (pa_cons (pv 13) (pa_cons (pv 7) (pa_cons (pv 2) (pa_cons (pv 14) pa_nil)))))) (pv 15) (nomark _))))))))))))))))))))), ?_⟩
    refine ⟨_, rfl, a0, ns, rfl, hS, fun a L H1 s1 na S1 => ?_⟩
    refine ⟨_, rfl, a, L, ns, 3, rfl, S1, by decide, by decide, fun r2 H2 hr2 e2 => ⟨_, _, rfl, rfl, ?_⟩⟩
    have S2 := e2.on S1
    refine ⟨_, rfl, a, L, ns, 2, rfl, S2, by decide, by decide, fun r3 H3 hr3 e3 => ⟨_, _, rfl, rfl, ?_⟩⟩
    have S3 := e3.on S2
    refine ⟨_, rfl, a, L, ns, 2, rfl, S3, by decide, by decide, fun r4 H4 hr4 e4 => ⟨_, _, rfl, rfl, ?_⟩⟩
    have S4 := e4.on S3
    obtain ⟨n0, n1⟩ : 1 ≤ (1 + r2) ∧ (1 + r2) ≤ 3 := by have := hr2.1; have := hr2.2; omega
    obtain ⟨l0, l1⟩ : 1 ≤ (1 + r3) ∧ (1 + r3) ≤ 2 := by have := hr3.1; have := hr3.2; omega
    obtain ⟨u0, u1⟩ : 1 ≤ (1 + r4) ∧ (1 + r4) ≤ 2 := by have := hr4.1; have := hr4.2; omega
    refine ⟨_, rfl, _, rfl, a, L, ns, (1 + r2), 2, rfl, S4, by omega, by omega, by decide, by decide, fun mv H5 zs e5 m2 m1' m3 => ?_⟩
    have S5 := e5.on S4
    refine ⟨_, rfl, _, rfl, _, rfl, a, L, ns, mv, (1 + r2), 2, (1 + r3), zs, rfl, S5, m2, m1', by omega, by omega, by decide, by decide, m3, by omega, by omega, fun pd H6 ds e6 n6 d1 d2 d3 => ?_⟩
    have S6 := e6.on S5
    refine ⟨_, rfl, (1 + r4), rfl, mlo (by omega), m62 (by omega), fun De hDe => ?_⟩
    refine lc_fr (R := fun H _ y => ∃ z, EndT K H y z ∧ EnOk (1 + r2) z) walk_at_range (tnz (by omega)) (fun _ _ _ _ k ⟨z, h, p⟩ => ⟨z, h.kt k, p⟩) gdS hDe S6 (fun _ _ => trivial) (fun i x H' Q' hi hx e q => ⟨rfl, _, rfl, _, rfl, a, L, ns, (1 + r2), rfl, e.on S6, by omega, by omega, fun v H9 en e9 t9 o9 => q _ _ e9 ⟨en, t9, o9⟩⟩) (fun H7 e7 got => ?_)
    obtain ⟨es, h1, h2, ye, gE1, gE2, gE3⟩ := got_pick (S := fun H y z => EndT K H y z) (P := EnOk (1 + r2)) got
    have lE : LstR K (EndT K) H7 De es := ⟨ye, gE1, gE2, fun i x z hx hz => gE3 i x hx z hz⟩
    have eu : (es.length : Int) = (1 + r4) := by omega
    have S7 := e7.on S6
    have nDe : De ≠ a := Ne.symm (S6.ne hDe)
    refine ⟨_, rfl, (1 + r3), 2, rfl, by omega, by omega, by decide, fun pp H8 s8 n8 lp => ?_⟩
    have e8 : Fs a L ns H7 H8 := fs_same s8
    have S8 := e8.on S7
    have npp : pp ≠ a := Ne.symm (S7.ne n8)
    refine ⟨_, rfl, (1 + r4), rfl, mlo (by omega), m62 (by omega), fun Dt hDt => ?_⟩
    obtain ⟨xp, p1, p2, p3⟩ := id lp
    have tb := (tex_le (l := 1 + r3) (by omega) (by omega) 2 (by decide)).1
    refine lc_fr (R := fun H _ y => ∃ z, IntsT K H y z ∧ ((∀ i ∈ z, InR (1 + r3) i) ∧ 0 < z.length ∧ z.length ≤ 2)) walk_at_range (tnz (by omega)) (fun _ _ _ _ k ⟨z, h, p⟩ => ⟨z, h.kt k, p⟩) gdS hDt S8 (fun _ _ => trivial) (fun i x H' Q' hi hx e q => ⟨rfl, _, rfl, _, rfl, a, L, pp, ns, xp, rfl, e.on S8, e.keep _ _ npp p1, npp, tex_ne l0 l1 p2, by omega, fun v H9 hv e9 => ?_⟩) (fun H9 e9 got9 => ?_)
    · obtain ⟨j, hj⟩ := List.mem_iff_getElem?.mp hv
      obtain ⟨z, hz⟩ := seq_at p2 hj
      exact q _ _ e9 ⟨z, (p3 j v z hj hz).kt (e.trans e9).kt, tex_in 2 z (List.mem_of_getElem? hz)⟩
    obtain ⟨ts, t1, t2, yt, gT1, gT2, gT3⟩ := got_pick (S := fun H y z => IntsT K H y z) (P := fun z => (∀ i ∈ z, InR (1 + r3) i) ∧ 0 < z.length ∧ z.length ≤ 2) got9
    have lT : LstR K (IntsT K) H9 Dt ts := ⟨yt, gT1, gT2, fun i x z hx hz => gT3 i x hx z hz⟩
    have tu : (ts.length : Int) = 1 + r4 := by omega
    have S9 := e9.on S8
    have nDt : Dt ≠ a := Ne.symm (S8.ne hDt)
    have npd : pd ≠ a := Ne.symm (S5.ne n6)
    refine ⟨LawM K a0 a L ns, ?_, ?_⟩
    · refine ⟨_, rfl, _, rfl, _, rfl, _, rfl, a, L, Dt, ns, 1 + r3, ts, ?_, S9, lT, nDt, by omega, by omega, by omega, by omega, t2, fun pr H10 rs e10 n10 lr lr3 sg => ?_⟩
      · rw [tu]
        rfl
      have e79 := (e7.trans e8).trans (e9.trans e10)
      exact ⟨1 + r2, 1 + r3, 1 + r4, mv, pd, De, pr, zs, ds, es, rs, _, _, _, _, _, _, _, _, rfl, ⟨n0, n1⟩, ⟨l0, l1⟩, ⟨u0, u1⟩, e10.on S9, m2.kt (fun _ _ h => h.kt (e6.trans e79).kt) (e6.trans e79).kt, m1', m3, d1.fs kI e79 npd, d2, d3, lE.fs kE (e8.trans (e9.trans e10)) nDe, eu, h2, lr, lr3, fun r hr => by rw [← tu]; exact sg r hr, npd, nDe, Ne.symm (S9.ne n10)⟩
    rintro σ H ⟨n, l, u, mv, pd, De, pr, zs, ds, es, rs, o8, o9, o11, o12, o13, o14, o15, o16, rfl, ⟨n0, n1⟩, ⟨l0, l1⟩, ⟨u0, u1⟩, S, hmv, zl, zr, hpd, dl, dr, hDe, el, er, hpr, rl, rg, npd, nDe, npr⟩
    have ok : BookOk rs ds es n := by
      refine ⟨n0, fun d hd => ?_, fun e he => ?_, fun r hr => ?_, by omega, by omega, by omega⟩
      · obtain ⟨q1, q2⟩ := dr d hd
        exact ⟨q1, by omega, q2⟩
      · obtain ⟨q1, q2, q3, q4⟩ := er e he
        exact ⟨q1, by omega, q3, q4⟩
      · obtain ⟨⟨q1, q2⟩, q3, q4⟩ := rg r hr
        rw [dl, el]
        exact ⟨by omega, by omega, q1, q3⟩
    obtain ⟨xpr, pr1, pr2, pr3⟩ := id hpr
    obtain ⟨xpd, pd1, pd2, pd3⟩ := id hpd
    obtain ⟨xDe, De1, De2, De3⟩ := id hDe
    refine ⟨_, rfl, _, rfl, _, rfl, _, rfl, fun q dq hq hdq ndq => ?_⟩
    have sM : Same H (upd (upd H dq (.own q)) q (.ins C_Book.C dq [])) := fun b u h => by
      rw [upd_ne (ne_of_none h hq), upd_ne (ne_of_none h hdq)]
      exact h
    refine ⟨q, _, _, _, n, dq, rs, ds, es, rfl, upd_same, ⟨pr, xpr, rfl, .inl (SqL.of (sM _ _ pr1)), pr2, fun i x z h1 h2 => ((pr3 i x z h1 h2).kt (KT.of sM)).p⟩, ⟨pd, xpd, rfl, .inl (SqL.of (sM _ _ pd1)), pd2, fun i x z h1 h2 => ((pd3 i x z h1 h2).kt (KT.of sM)).s⟩, ⟨De, xDe, rfl, .inl (SqL.of (sM _ _ De1)), De2, fun i x z h1 h2 => ((De3 i x z h1 h2).kt (KT.of sM)).p⟩, ok, fun r d e H1 bt hs hA => ⟨rfl, ?_⟩⟩
    have s1 := same_make hq hdq bt
    refine ⟨fun σ' H' => ∃ (t : Addr) (o13 o14 o15 o16 : Option V), σ' = [some (.ref a0), some (.ref a), some (.int n), some (.int l), some (.int u), some mv, some (.ref pd), some (.ref De), o8, o9, some (.ref pr), some (.ref q), some (.ref t), o13, o14, o15, o16] ∧ Same H1 H' ∧ ToldAt K C_Book.C C_Clash.C H' rs ds es n t, ?_, ?_⟩
    · refine ⟨_, rfl, q, dq, r, d, e, n, rs, ds, es, rfl, hs, hA, ok, fun t dt H2 ts r' d' e' s2 h1 h2 h3 => ?_, fun t dt H2 w j s2 h1 h2 => ?_⟩
      · exact ⟨t, _, _, _, _, rfl, s2, .inl ⟨ts, dt, r', d', e', h1, h2, h3⟩⟩
      · exact ⟨t, _, _, _, _, rfl, s2, .inr ⟨w, j, dt, h1, h2⟩⟩
    rintro σ2 H2 ⟨t, p13, p14, p15, p16, rfl, s2, tl⟩
    have s12 := s1.trans s2
    have B2 := s2 _ _ hs
    have hA2 := hA.kt (KT.of s2)
    refine ⟨_, rfl, _, rfl, _, rfl, q, dq, t, pr, r, d, e, n, rs, ds, es, rfl, B2, hA2, ok, hpr.same kRK s12, by omega, tl, fun H3 s3 => ⟨_, rfl, iteF ?_⟩⟩
    have s13 := s12.trans s3
    refine ⟨_, rfl, q, C_Book.C, dq, _, _, rfl, s3 _ _ B2, C_Book.cl, C_Book.n1, rfl, _, rfl, ?_⟩
    refine rd_tup (.inl (SqL.of (s13 _ _ pr1))) fun q' H4 s4 sq' => ?_
    have s14 := s13.trans s4
    have s34 := s3.trans s4
    have hA4 := hA2.kt (KT.of s34)
    refine rd_neD (flt_sq flt_rw rs) (by decide) (dp_rows hA4.r) (dp_rows ⟨q', xpr, rfl, sq', pr2, fun i x z h1 h2 => (pr3 i x z h1 h2).kt (KT.of s14)⟩) ?_
    refine ⟨_, rfl, iteF ?_⟩
    have S4 : Src H4 a L ns := (fs_same (a := a) (L := L) (ns := ns) s14).on S
    refine ⟨_, rfl, _, rfl, _, rfl, a, L, ns, mv, n, 2, 1, zs, rfl, S4, hmv.kt (fun _ _ h => h.kt (KT.of s14)) (KT.of s14), zl, by omega, by omega, by decide, by decide, zr, by decide, by decide, fun p1 H5 ds1 e5 n5 l1' dl1 dr1 => ?_⟩
    obtain ⟨x1, c1, c2, c3⟩ := l1'
    obtain ⟨d1, rfl⟩ : ∃ d1, ds1 = [d1] := List.length_eq_one_iff.mp (by omega)
    obtain ⟨y, rfl⟩ : ∃ y, x1 = [y] := List.length_eq_one_iff.mp c2
    have ty := c3 0 y d1 rfl rfl
    have e15 : Fs a L ns H H5 := (fs_same s14).trans e5
    refine ⟨p1, _, 0, y, rfl, rfl, SqL.of c1, rfl, (by show 1 ≤ sizeLine; decide), fun pl hpl => ?_⟩
    have s6 := same_new (o := .lst [y]) hpl
    have f6 : Fs a L ns H (upd H5 pl (.lst [y])) := e15.trans (fs_same s6)
    have hz : xpd.length + [y].length ≤ sizeLine := by
      have big : sizeLine = 16777216 := by decide
      show xpd.length + 1 ≤ sizeLine
      omega
    refine ⟨pd, pl, xpd, [y], rfl, rfl, s6 _ _ (e15.keep _ _ npd pd1), upd_same, hz, fun pm hpm => ?_⟩
    have s7 := same_new (o := .lst (xpd ++ [y])) hpm
    have f7 := f6.trans (fs_same (a := a) (L := L) (ns := ns) s7)
    have lm : LstR K (IntsT K) (upd (upd H5 pl (.lst [y])) pm (.lst (xpd ++ [y]))) pm (ds ++ [d1]) := lst_snoc2 (fun v z h => h.kt (KT.of s7)) pd2 (fun i x z h1 h2 => (pd3 i x z h1 h2).kt f6.kt) (ty.kt (KT.of s6))
    have hpr7 := hpr.fs kRK f7 npr
    have hDe7 := hDe.fs kE f7 nDe
    have tl7 := tl.kt ((KT.of s34).trans (e5.kt.trans (KT.of (s6.trans s7))))
    have dm : ∀ d ∈ ds ++ [d1], RD n n d := fun d hd => by
      rcases List.mem_append.mp hd with h | h
      · exact dr d h
      · rw [List.mem_singleton.mp h]
        exact dr1 d1 (List.mem_singleton.mpr rfl)
    have rb : ∀ r ∈ rs, RowB es.length r := fun r hr => by
      obtain ⟨⟨q1, q2⟩, q3, q4⟩ := rg r hr
      exact ⟨fun s hs => by rw [el]; exact (q1 s hs).2, fun s hs => by rw [el]; exact (q3 s hs).2, by omega, by omega⟩
    generalize upd (upd H5 pl (.lst [y])) pm (.lst (xpd ++ [y])) = H7 at lm hpr7 hDe7 tl7 ⊢
    refine ⟨fun σ' H' => ∃ (m : Nat) (o15 o16 : Option V), σ' = [some (.ref a0), some (.ref a), some (.int n), some (.int l), some (.int u), some mv, some (.ref pd), some (.ref De), o8, o9, some (.ref pr), some (.ref q), some (.ref t), some (.ref pm), some (.int m), o15, o16] ∧ H' = H7 ∧ m ≤ 3, ?_, ?_⟩
    · exact ⟨_, rfl, rfl, _, rfl, ite2 (fun _ => ⟨3, _, _, rfl, rfl, by decide⟩) (fun _ => ⟨2, _, _, rfl, rfl, by decide⟩)⟩
    rintro σ8 _ ⟨m, v15, v16, rfl, rfl, m3⟩
    obtain ⟨ypr, ypr1, ypr2, ypr3⟩ := id hpr7
    obtain ⟨yDe, yDe1, yDe2, yDe3⟩ := id hDe7
    refine ⟨_, rfl, _, rfl, _, rfl, _, rfl, _, rfl, .ref pr, .ref De, pm, n, m, rs, ds ++ [d1], es, rfl, ⟨pr, ypr, rfl, .inl (SqL.of ypr1), ypr2, ypr3⟩, lm, ⟨De, yDe, rfl, .inl (SqL.of yDe1), yDe2, yDe3⟩, by omega, by omega, m3, by rw [List.length_append]; show ds.length + 1 ≤ 3; omega, by omega, dm, fun e he => (er e he).1, rb, fun pf H8 s8 n8 lf => ?_⟩
    have tl8 := tl7.kt (KT.of s8)
    have fl := fll_tidy (rs := rs) (ds := ds ++ [d1]) (es := es) (n := n) (m := m) rb
    rcases tl8 with ⟨tsx, dt, r', d', e', t1, t2, t3⟩ | ⟨w, j, dt, t1, t2⟩
    · refine ⟨_, rfl, _, _, _, _, false, rfl, .own _, insTy I_Book t2, X_BC, _, rfl, iteF ?_⟩
      have ok2 := ok_tid ok t1
      refine ⟨_, rfl, t, C_Book.C, dt, _, _, rfl, t2, C_Book.cl, C_Book.n1, rfl, _, rfl, _, rfl, _, rfl, _, rfl, r', .ref De, pm, n, m, tsx, ds ++ [d1], es, rfl, t3.r.s fun _ _ h => h, lm.same kI s8, ⟨De, yDe, rfl, .inl (SqL.of (s8 _ _ yDe1)), yDe2, fun i x z h1 h2 => (yDe3 i x z h1 h2).kt (KT.of s8)⟩, by omega, by omega, m3, by rw [List.length_append]; show ds.length + 1 ≤ 3; omega, by omega, dm, fun e he => (er e he).1, fun r hr => ?_, fun pg H9 s9 n9 lg => ⟨_, rfl, ?_⟩⟩
      · obtain ⟨q1, q2, q3, q4⟩ := ok2.r r hr
        exact ⟨fun s hs => (q3 s hs).2, fun s hs => (q4 s hs).2, by omega, by omega⟩
      · rw [fl.1 tsx t1] at lg
        have lf9 := lf.same kSI s9
        exact rd_eqD (flt_ls (flt_sq flt_iD) _) (by decide) (dp_lst (fun _ _ h => dp_deeds h) lg) (dp_lst (fun _ _ h => dp_deeds h) lf9) (k H9)
    · refine ⟨_, rfl, _, _, _, _, true, rfl, .own _, insTy I_Clash t2, I_Clash.me, _, rfl, iteT ?_⟩
      rw [fl.2 _ t1] at lf
      refine ⟨_, rfl, (by show 0 ≤ sizeLine; decide), fun pe hpe => ?_⟩
      have se := same_new (o := .lst []) hpe
      exact rd_eqD (flt_ls (α := List (List Int)) (flt_sq flt_iD) []) (by decide) (dp_lst (fun _ _ h => dp_deeds h) (lf.same kSI se)) (.lst (SqL.of upd_same) .nil) (k _)
end
end My
set_option maxHeartbeats 4000000
/-! a Hook that looks at any Boolean of one's own -/
namespace Hm
open PySem PySem.Spec PyProof.Rows L2 He
def obsM (ck : PySem.W.Frag → Bool) (fn : List DefD) (K : PySem.W.Frag) : AlD := (ck K && fn.all fun d => d.ok K, fn.map fun d => fnW K d.at_)
def SaysM (ck : PySem.W.Frag → Bool) (fn : List DefD) (K : PySem.W.Frag) : Prop := obsM ck fn K = valD fn
def obsMG (n : Nat) (ck : PySem.W.Frag → Bool) (fn : List DefD) (g : Addr → Option Obj) : AlD := obsM ck fn (frG g (asD g n))
def hookM (n : Nat) (ck : PySem.W.Frag → Bool) (fn : List DefD) : PySem.W.Hook where
  α := AlD
  obs := fun s => obsMG n ck fn s.heap.get?
  val := fun _ => valD fn
  says := fun _ h => ∃ K : PySem.W.Frag, K.In h ∧ SaysM ck fn K
  of := fun _ _ e => ⟨_, frG_in, e⟩
  keeps := fun _ _ _ ⟨K, hK, c⟩ k => ⟨K, PySem.W.Frag.In.keeps hK k, c⟩
theorem obsMG_eq {n : Nat} {ck : PySem.W.Frag → Bool} {fn : List DefD} {g : Addr → Option Obj} {s : Shared} (h : ∀ a, g a = s.heap.get? a) : obsMG n ck fn g = (hookM n ck fn).obs s := by
  have e : g = s.heap.get? := funext h
  rw [e] <;> rfl
section
variable {ck : PySem.W.Frag → Bool} {fn : List DefD} {K : PySem.W.Frag}
theorem SaysM.ckT (c : SaysM ck fn K) : ck K = true :=
  (ba (show (ck K && fn.all fun d => d.ok K) = true from congrArg (fun z : AlD => z.1) c)).1
theorem SaysM.def_ (c : SaysM ck fn K) (i : Nat) {d : DefD} (h : fn[i]? = some d := by rfl) : ∃ fd, FunD K d.name d.qual d.params d.body d.scope (d.dvs K) (d.kws K) (fAd K d.at_) fd := by
  have c2 := (ba (show (ck K && fn.all fun d => d.ok K) = true from congrArg (fun z : AlD => z.1) c)).2
  have e : fn.map (fun d => fnW K d.at_) = fn.map DefD.val := congrArg (fun z : AlD => z.2) c
  have e2 : (fn.map fun d => fnW K d.at_)[i]? = (fn.map DefD.val)[i]? := by rw [e]
  rw [List.getElem?_map, List.getElem?_map, h] at e2
  exact DefD.funD (Option.some.inj e2) (List.all_eq_true.mp c2 d (List.mem_of_getElem? h))
end
/-! ### exception classes over ValueError, by an own base -/
def oexB (K : PySem.W.Frag) (C : Addr) (bm : List Value) : Bool := match K.lookup C with
  | some ⟨.type "type", _, .cls cd, sl⟩ => (match cd.mro, sl.toList with
    | .ref C' :: bm', [_, _, _, _, some (.builtin n), _] => decide (C' = C) && (decide (n = "ValueError.__new__") && (!cd.hasDel && (cd.hasDict && decide (bm' = bm))))
    | _, _ => false)
  | _ => false
theorem oexB_ok {K : PySem.W.Frag} {C : Addr} {bm : List Value} (q : oexB K C bm = true) :
    ∃ nm qn N bs sn sub ab col dd k0 k1 k2 k3 k5, K.lookup C = some (excClassObj nm qn C N bs bm true sn sub ab col dd k0 k1 k2 k3 k5 "ValueError.__new__") := by
  unfold oexB at q
  split at q
  · rename_i dd cd sl ho
    split at q
    · rename_i C' bm' k0 k1 k2 k3 n k5 hm hs
      simp only [Bool.and_eq_true, decide_eq_true_eq, Bool.not_eq_true'] at q
      obtain ⟨rfl, rfl, hdel, hdc, rfl⟩ := q
      obtain ⟨nm, bs, mro, ns, qn, hd, sn, sub, ab, col, del⟩ := cd
      dsimp only at hm hdel hdc
      subst hm hdel hdc
      have hsl : sl = #[k0, k1, k2, k3, some (.builtin "ValueError.__new__"), k5] := by
        obtain ⟨l⟩ := sl
        simp only at hs
        rw [hs]
      subst hsl
      exact ⟨nm, qn, ns, bs, sn, sub, ab, col, dd, k0, k1, k2, k3, k5, ho⟩
    · cases q
  · cases q
def excB (K : PySem.W.Frag) (C : Addr) (fs : List Str) : Bool :=
  eqO (PySem.W.findIn K (.ref C) "__setattr__") (some (some (.builtin "object.__setattr__"))) && (decide (PySem.W.subIn K (.ref C) (.type "BaseException") = some true) && (decide (PySem.W.typeIn K (.ref C) = some (.type "type")) && (PySem.W.keepIn K (.ref C) &&
  (eqO (PySem.W.findIn K (.ref C) "__getattribute__") (some (some (.builtin "BaseException.__getattribute__"))) && (eqO (PySem.W.findIn K (.ref C) "__getattr__") (some none) && (PySem.W.hasDictIn K C && (eqO (PySem.W.findIn K (.ref C) "__class__") (some (some (.builtin "object.__class__"))) &&
  (decide (PySem.W.mroIn K C (.type "object") = some true) && fs.all fun f => eqO (PySem.W.findIn K (.ref C) f) (some none)))))))))
def comB (K : PySem.W.Frag) : Bool := decide (PySem.W.specialIn K (.builtin "object.__class__") "__get__" = some (some (.builtin "getset_descriptor.__get__"))) && decide (PySem.W.takesIn K (.builtin "object.__class__") = some true)
/-- what is known of an exception class -/
structure XC (K : PySem.W.Frag) (C : Addr) (bm : List Value) (fs : List Str) : Prop where
  ox : OexC K C
  xc : ExcC K C
  cd : ∃ cd, PySem.W.clsIn K C = some cd ∧ cd.mro = .ref C :: bm
  no : ∀ f ∈ fs, PySem.W.findIn K (.ref C) f = some none
theorem xc_ok {K : PySem.W.Frag} {C : Addr} {bm : List Value} {fs : List Str} (c : comB K = true) (h1 : oexB K C bm = true) (h2 : excB K C fs = true) (hbm : PySem.HandSPX.refsVE bm = true) : XC K C bm fs := by
  obtain ⟨c1, c2⟩ := ba c
  obtain ⟨a1, h2⟩ := ba h2
  obtain ⟨a2, h2⟩ := ba h2
  obtain ⟨a3, h2⟩ := ba h2
  obtain ⟨a4, h2⟩ := ba h2
  obtain ⟨a5, h2⟩ := ba h2
  obtain ⟨a6, h2⟩ := ba h2
  obtain ⟨a7, h2⟩ := ba h2
  obtain ⟨a8, h2⟩ := ba h2
  obtain ⟨a9, a10⟩ := ba h2
  obtain ⟨nm, qn, N, bs, sn, sub, ab, col, dd, k0, k1, k2, k3, k5, hC⟩ := oexB_ok h1
  refine ⟨⟨⟨nm, qn, N, bs, bm, sn, sub, ab, col, dd, k0, k1, k2, k3, k5, hC, hbm⟩, eqO_ok a1, of_decide_eq_true a2, of_decide_eq_true a3, a4⟩, ⟨eqO_ok a5, eqO_ok a6, of_decide_eq_true a2, a7, eqO_ok a8, of_decide_eq_true c1, of_decide_eq_true c2, of_decide_eq_true a9⟩, ?_, fun f hf => eqO_ok (List.all_eq_true.mp a10 f hf)⟩
  refine ⟨{ name := nm, bases := bs, mro := .ref C :: bm, ns := N, qualname := qn, hasDict := true, slotNames := sn, subclasses := sub, abstract := ab, collection := col, hasDel := false }, ?_, rfl⟩
  unfold PySem.W.clsIn
  rw [hC] <;> rfl
/-- isinstance of an instance of C: of an own class D, of a built-in one -/
theorem kit_own {K : PySem.W.Frag} {C D : Addr} {bm bm' : List Value} {fs fs' : List Str} (x : XC K C bm fs) (y : XC K D bm' fs') : PySem.W.kitOne K (.ref C) (.ref D) = some (decide (C = D) || bm.contains (.ref D)) := by
  unfold PySem.W.kitOne
  by_cases e : C = D
  · subst e
    rw [if_pos (by simp)]
    simp
  · have ne : (Value.ref C == Value.ref D) = false := by simpa using e
    rw [ne, if_neg Bool.false_ne_true]
    obtain ⟨cd, hc, hm⟩ := x.cd
    obtain ⟨cd', hc', _⟩ := y.cd
    have e2 : ((PySem.W.clsIn K D).isSome && PySem.W.typeIn K (.ref D) == some (.type "type")) = true := by rw [hc', y.ox.tyC] <;> rfl
    show (if ((PySem.W.clsIn K D).isSome && PySem.W.typeIn K (.ref D) == some (.type "type")) = true then PySem.W.subIn K (.ref C) (.ref D) else none) = _
    rw [if_pos e2]
    show PySem.W.mroIn K C (.ref D) = _
    unfold PySem.W.mroIn
    rw [hc]
    show (if cd.mro.isEmpty = true then none else some (cd.mro.contains (.ref D))) = _
    rw [hm]
    have ne2 : (Value.ref D == Value.ref C) = false := by
      have : ¬ D = C := fun z => e z.symm
      simpa using this
    have ne3 : ¬ D = C := fun z => e z.symm
    simp [List.contains_cons, ne2, e, ne3]
theorem kit_bt {K : PySem.W.Frag} {C : Addr} {bm : List Value} {fs : List Str} {T : String} (x : XC K C bm fs) (hT : PySem.W.kitMeta T = true) : PySem.W.kitOne K (.ref C) (.type T) = some (bm.contains (.type T)) := by
  unfold PySem.W.kitOne
  have ne : (Value.ref C == Value.type T) = false := beq_eq_false_iff_ne.mpr (fun z => by cases z)
  rw [ne, if_neg Bool.false_ne_true]
  obtain ⟨cd, hc, hm⟩ := x.cd
  show (if PySem.W.kitMeta T = true then PySem.W.subIn K (.ref C) (.type T) else none) = _
  rw [if_pos hT]
  show PySem.W.mroIn K C (.type T) = _
  unfold PySem.W.mroIn
  rw [hc]
  show (if cd.mro.isEmpty = true then none else some (cd.mro.contains (.type T))) = _
  rw [hm]
  have ne2 : (Value.type T == Value.ref C) = false := beq_eq_false_iff_ne.mpr (fun z => by cases z)
  simp [List.contains_cons, ne2]
end Hm
set_option maxHeartbeats 4000000
/-! facts looked at over small pieces of the heap, carried to the whole -/
namespace Hm
open PySem PySem.Spec PyProof.Rows L2 He
def Sub (K1 K2 : PySem.W.Frag) : Prop := ∀ a o, K1.lookup a = some o → K2.lookup a = some o
section
variable {K1 K2 : PySem.W.Frag}
theorem Sub.cls (s : Sub K1 K2) {C : Addr} {cd : ClassData} (h : PySem.W.clsIn K1 C = some cd) : PySem.W.clsIn K2 C = some cd := by
  unfold PySem.W.clsIn at h ⊢
  split at h
  · rename_i c d cd' sl ho
    rw [s _ _ ho]
    exact h
  · cases h
theorem Sub.typ (s : Sub K1 K2) {a : Addr} {t : Value} (h : PySem.W.typeIn K1 (.ref a) = some t) : PySem.W.typeIn K2 (.ref a) = some t := by
  obtain ⟨o, ho, e⟩ := Option.map_eq_some_iff.mp h
  show (K2.lookup a).map _ = _
  rw [s _ _ ho]
  exact congrArg some e
theorem Sub.typeV (s : Sub K1 K2) {v t : Value} (h : PySem.W.typeIn K1 v = some t) : PySem.W.typeIn K2 v = some t := by
  cases v with
  | ref a => exact s.typ h
  | _ => exact h
theorem Sub.ns (s : Sub K1 K2) {N : Addr} {x : Str} {r : Option Value} (h : PySem.W.nsIn K1 N x = some r) : PySem.W.nsIn K2 N x = some r := by
  unfold PySem.W.nsIn at h ⊢
  split at h
  · rename_i c d es n sl ho
    rw [s _ _ ho]
    exact h
  · cases h
theorem Sub.own (s : Sub K1 K2) {x : Str} {v : Value} {r : Option Value} (h : PySem.W.ownIn K1 x v = some r) : PySem.W.ownIn K2 x v = some r := by
  cases v with
  | ref a =>
    unfold PySem.W.ownIn at h ⊢
    dsimp only at h ⊢
    split at h
    · rename_i c d cd sl ho
      rw [s _ _ ho]
      exact s.ns h
    · cases h
  | _ => exact h
theorem Sub.along (s : Sub K1 K2) {x : Str} : ∀ {l : List Value} {r : Option Value}, PySem.W.alongIn K1 x l = some r → PySem.W.alongIn K2 x l = some r
  | [], _, h => h
  | c :: l, r, h => by
    unfold PySem.W.alongIn at h ⊢
    cases e : PySem.W.ownIn K1 x c with
    | none =>
      rw [e] at h
      cases h
    | some q =>
      rw [e] at h
      rw [s.own e]
      cases q with
      | none => exact Sub.along s h
      | some v => exact h
theorem Sub.find (s : Sub K1 K2) {v : Value} {x : Str} {r : Option Value} (h : PySem.W.findIn K1 v x = some r) : PySem.W.findIn K2 v x = some r := by
  cases v with
  | ref a =>
    unfold PySem.W.findIn at h ⊢
    dsimp only at h ⊢
    split at h
    · rename_i c d cd sl ho
      rw [s _ _ ho]
      exact s.along h
    · cases h
  | _ => exact h
theorem Sub.mro (s : Sub K1 K2) {C : Addr} {b : Value} {r : Bool} (h : PySem.W.mroIn K1 C b = some r) : PySem.W.mroIn K2 C b = some r := by
  obtain ⟨cd, hc, e⟩ := Option.bind_eq_some_iff.mp h
  show (PySem.W.clsIn K2 C).bind _ = _
  rw [s.cls hc]
  exact e
theorem Sub.sub (s : Sub K1 K2) {t b : Value} {r : Bool} (h : PySem.W.subIn K1 t b = some r) : PySem.W.subIn K2 t b = some r := by
  cases t with
  | ref C => exact s.mro h
  | _ => exact h
theorem Sub.special (s : Sub K1 K2) {v : Value} {x : Str} {r : Option Value} (h : PySem.W.specialIn K1 v x = some r) : PySem.W.specialIn K2 v x = some r := by
  obtain ⟨t, ht, e⟩ := Option.bind_eq_some_iff.mp h
  show (PySem.W.typeIn K2 v).bind _ = _
  rw [s.typeV ht]
  exact s.find e
theorem Sub.keep (s : Sub K1 K2) {v : Value} (h : PySem.W.keepIn K1 v = true) : PySem.W.keepIn K2 v = true := by
  cases v with
  | ref a =>
    unfold PySem.W.keepIn at h ⊢
    dsimp only at h ⊢
    split at h
    · rename_i ho
      rw [s _ _ ho]
    · rename_i ho
      rw [s _ _ ho]
      have e : PySem.W.specialIn K1 (.ref a) "__call__" = some (some (.builtin "type.__call__")) := eq_of_beq h
      rw [s.special e]
      rfl
    · cases h
  | _ => exact h
theorem Sub.hasDict (s : Sub K1 K2) {C : Addr} (h : PySem.W.hasDictIn K1 C = true) : PySem.W.hasDictIn K2 C = true := by
  obtain ⟨cd, hc, e⟩ := PySem.W.any_some h
  unfold PySem.W.hasDictIn
  rw [s.cls hc]
  exact e
theorem Sub.code (s : Sub K1 K2) {cd : Value} {q : Str} (h : PySem.W.codeIn K1 cd q = true) : PySem.W.codeIn K2 cd q = true := by
  cases cd with
  | ref c =>
    unfold PySem.W.codeIn at h ⊢
    dsimp only at h ⊢
    split at h
    · rename_i ho
      rw [s _ _ ho]
      exact h
    · cases h
  | _ => exact h
theorem Sub.nsOk (s : Sub K1 K2) {N : Addr} (h : PySem.W.nsOkIn K1 N = true) : PySem.W.nsOkIn K2 N = true := by
  unfold PySem.W.nsOkIn at h ⊢
  split at h
  · rename_i ho
    rw [s _ _ ho]
    exact h
  · cases h
theorem Sub.tail (s : Sub K1 K2) {bm : List Value} : ∀ {l : List Value}, PySem.W.tailIn K1 bm l = true → PySem.W.tailIn K2 bm l = true
  | [], h => h
  | v :: r, h => by
    unfold PySem.W.tailIn at h ⊢
    rcases Bool.or_eq_true_iff.mp h with h | h
    · rw [h, Bool.true_or]
    · refine Bool.or_eq_true_iff.mpr (.inr ?_)
      cases v with
      | ref A =>
        dsimp only at h ⊢
        split at h
        · rename_i ho
          rw [s _ _ ho]
          obtain ⟨h1, h3⟩ := ba h
          obtain ⟨h1, h2⟩ := ba h1
          have e := eq_of_beq h2
          show (PySem.W.nsOkIn K2 _ && PySem.W.nsIn K2 _ "__init__" == some none && PySem.W.tailIn K2 bm r) = true
          rw [s.nsOk h1, s.ns e, Sub.tail s h3]
          rfl
        · cases h
      | _ => cases h
theorem Sub.exc (s : Sub K1 K2) {C : Addr} {bm : List Value} {n : String} (h : PySem.W.excIn K1 C bm n = true) : PySem.W.excIn K2 C bm n = true := by
  unfold PySem.W.excIn at h ⊢
  split at h
  · rename_i dd cd sl ho
    rw [s _ _ ho]
    split at h
    · rename_i hm hs
      simp only [hm, hs]
      obtain ⟨h, h6⟩ := ba h
      obtain ⟨h, h5⟩ := ba h
      obtain ⟨h, h4⟩ := ba h
      rw [h, s.tail h4, s.nsOk h5, s.ns (eq_of_beq h6)]
      rfl
    · cases h
  · cases h
theorem Sub.takes (s : Sub K1 K2) {a : Value} {r : Bool} (h : PySem.W.takesIn K1 a = some r) : PySem.W.takesIn K2 a = some r := by
  unfold PySem.W.takesIn at h ⊢
  split at h
  · rename_i q
    rw [s.special q]
    exact h
  · rename_i q
    rw [s.special q]
    obtain ⟨y, hy, e⟩ := Option.map_eq_some_iff.mp h
    show (PySem.W.specialIn K2 a "__delete__").map _ = _
    rw [s.special hy]
    exact congrArg some e
  · cases h
theorem Sub.xc (s : Sub K1 K2) {C : Addr} {bm : List Value} {fs : List Str} (x : XC K1 C bm fs) : XC K2 C bm fs := by
  obtain ⟨⟨⟨nm, q, N, bs, bm', sn, sub, ab, col, dd, k0, k1, k2, k3, k5, hC, hbm⟩, a1, a2, a3, a4⟩, ⟨b1, b2, b3, b4, b5, b6, b7, b8⟩, ⟨cd, hc, hm⟩, no⟩ := x
  exact ⟨⟨⟨nm, q, N, bs, bm', sn, sub, ab, col, dd, k0, k1, k2, k3, k5, s _ _ hC, hbm⟩, s.find a1, s.sub a2, s.typ a3, s.keep a4⟩, ⟨s.find b1, s.find b2, s.sub b3, s.hasDict b4, s.find b5, s.special b6, s.takes b7, s.mro b8⟩, ⟨cd, s.cls hc, hm⟩, fun f hf => s.find (no f hf)⟩
theorem Sub.fund (s : Sub K1 K2) {x qual : Str} {params : Arguments} {body : List Stmt} {scope : Scope} {f : Addr} {fd : FuncData} (F : FunD K1 x qual params body scope [] [] f fd) : FunD K2 x qual params body scope [] [] f fd := by
  obtain ⟨⟨oc, od, dV, kV, doc, pm, an, cdv, ct, osl, rfl, lk, hcd, hD, hK⟩, kp⟩ := F
  refine ⟨⟨oc, od, dV, kV, doc, pm, an, cdv, ct, osl, rfl, s _ _ lk, s.code hcd, ?_, .inl rfl⟩, s.keep kp⟩
  rcases hD with ⟨_, e⟩ | ⟨e, _⟩
  · exact .inl ⟨rfl, e⟩
  · exact absurd rfl e
end
/-! ### pieces of the heap -/
theorem frG_mem {g : Addr → Option Obj} {a : Addr} {o : Obj} : ∀ {as : List Addr}, a ∈ as → g a = some o → (frG g as).lookup a = some o
  | [], h, _ => nomatch h
  | b :: r, h, e => by
    unfold frG
    rw [List.filterMap_cons]
    by_cases hb : a = b
    · subst hb
      rw [e]
      show (List.lookup a ((a, o) :: _)) = some o
      simp [List.lookup]
    · have hr : a ∈ r := by
        rcases List.mem_cons.mp h with q | q
        · exact absurd q hb
        · exact q
      have ih := frG_mem hr e
      unfold frG at ih
      cases hg : g b with
      | none => exact ih
      | some ob =>
        show (List.lookup a ((b, ob) :: _)) = some o
        have ne : (a == b) = false := by simpa using hb
        simp only [List.lookup, ne]
        exact ih
theorem frG_keys {g : Addr → Option Obj} {a : Addr} {o : Obj} : ∀ {as : List Addr}, (frG g as).lookup a = some o → a ∈ as
  | [], h => by cases h
  | b :: r, h => by
    by_cases hb : a = b
    · rw [hb]
      exact List.mem_cons_self ..
    · refine List.mem_cons_of_mem _ (frG_keys (g := g) (o := o) ?_)
      unfold frG at h ⊢
      rw [List.filterMap_cons] at h
      cases hg : g b with
      | none =>
        rw [hg] at h
        exact h
      | some ob =>
        rw [hg] at h
        have ne : (a == b) = false := by simpa using hb
        have h2 : List.lookup a ((b, ob) :: r.filterMap fun a => (g a).map fun o => (a, o)) = some o := h
        simp only [List.lookup, ne] at h2
        exact h2
theorem sub_of {g : Addr → Option Obj} {as bs : List Addr} (h : ∀ a ∈ as, a ∈ bs) : Sub (frG g as) (frG g bs) := fun a o e => frG_mem (h a (frG_keys e)) (frG_at as e)
def growFrom (g : Addr → Option Obj) : Nat → List Addr → List Addr
  | 0, as => as
  | n + 1, as => growFrom g n (growD g as)
def gaG (g : Addr → Option Obj) (x : Str) : Addr := ga (frG g [mainGlobals]) x
/-- one name of the module: what is looked at, n steps from its object -/
structure Itm where
  x : Str
  n : Nat
  ck : (Str → Addr) → PySem.W.Frag → Addr → Bool
def Itm.as (g : Addr → Option Obj) (i : Itm) : List Addr := growFrom g i.n [gaG g i.x]
def Itm.ok (g : Addr → Option Obj) (i : Itm) : Bool := eqO (PySem.W.nsIn (frG g [mainGlobals]) mainGlobals i.x) (some (some (.ref (gaG g i.x)))) && i.ck (gaG g) (frG g (i.as g)) (gaG g i.x)
/-- one def, or one __init__ -/
structure Fn where
  x : Str
  m : Option Str
  name : Str
  qual : Str
  params : Arguments
  body : List Stmt
  scope : Scope
def Fn.adr (g : Addr → Option Obj) (d : Fn) : Addr := match d.m with
  | none => gaG g d.x
  | some m => ma (frG g (growFrom g 2 [gaG g d.x])) (gaG g d.x) m
def Fn.as (g : Addr → Option Obj) (d : Fn) : List Addr := growFrom g 1 [d.adr g]
def Fn.as2 (g : Addr → Option Obj) (d : Fn) : List Addr := match d.m with
  | none => []
  | some _ => growFrom g 2 [gaG g d.x]
def fnB (K : PySem.W.Frag) (a : Addr) (q : Str) : Bool := PySem.W.keepIn K (.ref a) && (match K.lookup a with
  | some ⟨_, _, .func fd, _⟩ => PySem.W.codeIn K fd.code q && dflB K fd.defaults []
  | _ => false)
def Fn.ok (g : Addr → Option Obj) (d : Fn) : Bool := fnB (frG g (d.as g)) (d.adr g) d.qual && (match d.m with
  | none => true
  | some m => eqO (PySem.W.findIn (frG g (growFrom g 2 [gaG g d.x])) (.ref (gaG g d.x)) m) (some (some (.ref (d.adr g)))))
def Fn.w (g : Addr → Option Obj) (d : Fn) : FnW := match g (d.adr g) with
  | some ⟨_, _, .func fd, _⟩ => some (fd.name, fd.qualname, fd.params, fd.body, fd.scope, fd.globals, fd.closure, fd.builtins)
  | _ => none
def Fn.val (d : Fn) : FnW := some (d.name, d.qual, d.params, .stmts d.body, d.scope, mainGlobals, [], builtinsNs)
theorem Fn.fund {g : Addr → Option Obj} {d : Fn} (e : d.w g = d.val) (c : d.ok g = true) : ∃ fd, FunD (frG g (d.as g)) d.name d.qual d.params d.body d.scope [] [] (d.adr g) fd := by
  obtain ⟨kp, c2⟩ := ba (show (PySem.W.keepIn (frG g (d.as g)) (.ref (d.adr g)) && _) = true from (ba c).1)
  cases q : (frG g (d.as g)).lookup (d.adr g) with
  | none =>
    rw [q] at c2
    cases c2
  | some o =>
    have hg := frG_at _ q
    unfold Fn.w at e
    rw [hg] at e
    obtain ⟨oc, od, dt, osl⟩ := o
    rw [q] at c2
    cases dt with
    | func fd =>
      obtain ⟨n1, n2, n3, n4, n5, n6, n7, n8, n9, n10, n11, n12, n13, n14, n15⟩ := fd
      have e2 : (some (n1, n2, n3, n4, n5, n6, n7, n15) : FnW) = some (d.name, d.qual, d.params, .stmts d.body, d.scope, mainGlobals, [], builtinsNs) := e
      simp only [Option.some.injEq, Prod.mk.injEq] at e2
      obtain ⟨h1, h2, h3, h4, h5, h6, h7, h8⟩ := e2
      subst h1 h2 h3 h4 h5 h6 h7 h8
      obtain ⟨k1, k3⟩ := ba (show (PySem.W.codeIn (frG g (d.as g)) n13 d.qual && dflB (frG g (d.as g)) n8 []) = true from c2)
      exact ⟨_, ⟨oc, od, n8, n9, n10, n11, n12, n13, n14, osl, rfl, q, k1, dflB_ok k3, .inl rfl⟩, kp⟩
    | _ => cases c2
/-! ### the Hook -/
def obsS (its : List Itm) (fns : List Fn) (frees : List Str) (ex : (Str → Addr) → Bool) (g : Addr → Option Obj) : AlD :=
  (its.all (Itm.ok g) && (fns.all (Fn.ok g) && (frees.all (fun x => eqO (PySem.W.nsIn (frG g [mainGlobals]) mainGlobals x) (some none)) && ex (gaG g))), fns.map (Fn.w g))
def wholeK (its : List Itm) (fns : List Fn) (g : Addr → Option Obj) : PySem.W.Frag := frG g (mainGlobals :: (its.flatMap (Itm.as g) ++ (fns.flatMap (Fn.as g) ++ fns.flatMap (Fn.as2 g))))
/-- what the end leans on -/
structure SaysS (its : List Itm) (fns : List Fn) (frees : List Str) (ex : (Str → Addr) → Bool) (K : PySem.W.Frag) : Prop where
  glo : ∀ (j : Nat) (i : Itm), its[j]? = some i → PySem.W.nsIn K mainGlobals i.x = some (some (.ref (ga K i.x)))
  it : ∃ γ : Str → Addr, (∀ (j : Nat) (i : Itm), its[j]? = some i → γ i.x = ga K i.x ∧ ∃ K1, Sub K1 K ∧ i.ck γ K1 (ga K i.x) = true) ∧ ex γ = true
  fn : ∀ (j : Nat) (d : Fn), fns[j]? = some d → (∃ (k : Nat) (i : Itm), its[k]? = some i ∧ i.x = d.x) → ∃ (a : Addr) (fd : FuncData), FunD K d.name d.qual d.params d.body d.scope [] [] a fd ∧ (d.m = none → a = ga K d.x) ∧ ∀ m, d.m = some m → PySem.W.findIn K (.ref (ga K d.x)) m = some (some (.ref a))
  free : ∀ x ∈ frees, PySem.W.nsIn K mainGlobals x = some none
theorem says_of {its : List Itm} {fns : List Fn} {frees : List Str} {ex : (Str → Addr) → Bool} {g : Addr → Option Obj} (e : obsS its fns frees ex g = (true, fns.map Fn.val)) : SaysS its fns frees ex (wholeK its fns g) := by
  have e1 : (its.all (Itm.ok g) && (fns.all (Fn.ok g) && (frees.all (fun x => eqO (PySem.W.nsIn (frG g [mainGlobals]) mainGlobals x) (some none)) && ex (gaG g)))) = true := congrArg (fun z : AlD => z.1) e
  have e2 : fns.map (Fn.w g) = fns.map Fn.val := congrArg (fun z : AlD => z.2) e
  obtain ⟨c1, c2⟩ := ba e1
  obtain ⟨c2, c3⟩ := ba c2
  obtain ⟨c3, c4⟩ := ba c3
  have s0 : Sub (frG g [mainGlobals]) (wholeK its fns g) := sub_of fun a h => by
    have : a = mainGlobals := by simpa using h
    rw [this]
    exact List.mem_cons_self ..
  have gl : ∀ (j : Nat) (i : Itm), its[j]? = some i → PySem.W.nsIn (wholeK its fns g) mainGlobals i.x = some (some (.ref (gaG g i.x))) := fun j i h =>
    s0.ns (eqO_ok (ba (List.all_eq_true.mp c1 i (List.mem_of_getElem? h))).1)
  have ge : ∀ (j : Nat) (i : Itm), its[j]? = some i → gaG g i.x = ga (wholeK its fns g) i.x := fun j i h => by
    unfold ga
    rw [gl j i h]
  refine ⟨fun j i h => by rw [← ge j i h]; exact gl j i h, ⟨gaG g, fun j i h => ⟨ge j i h, frG g (i.as g), ?_, ?_⟩, c4⟩, fun j d h hx => ?_, fun x hx => s0.ns (eqO_ok (List.all_eq_true.mp c3 x hx))⟩
  · exact sub_of fun a ha => List.mem_cons_of_mem _ (List.mem_append_left _ (List.mem_flatMap.mpr ⟨i, List.mem_of_getElem? h, ha⟩))
  · rw [← ge j i h]
    exact (ba (List.all_eq_true.mp c1 i (List.mem_of_getElem? h))).2
  · have e3 : (fns.map (Fn.w g))[j]? = (fns.map Fn.val)[j]? := by rw [e2]
    rw [List.getElem?_map, List.getElem?_map, h] at e3
    obtain ⟨fd, F⟩ := Fn.fund (Option.some.inj e3) (List.all_eq_true.mp c2 d (List.mem_of_getElem? h))
    have sd : Sub (frG g (d.as g)) (wholeK its fns g) := sub_of fun a ha => List.mem_cons_of_mem _ (List.mem_append_right _ (List.mem_append_left _ (List.mem_flatMap.mpr ⟨d, List.mem_of_getElem? h, ha⟩)))
    obtain ⟨k, i, hk, hix⟩ := hx
    have gx : gaG g d.x = ga (wholeK its fns g) d.x := by
      rw [← hix]
      exact ge k i hk
    refine ⟨d.adr g, fd, sd.fund F, fun hm => ?_, fun m hm => ?_⟩
    · unfold Fn.adr
      rw [hm, ← gx]
    · have sm : Sub (frG g (growFrom g 2 [gaG g d.x])) (wholeK its fns g) := sub_of fun a ha => List.mem_cons_of_mem _ (List.mem_append_right _ (List.mem_append_right _ (List.mem_flatMap.mpr ⟨d, List.mem_of_getElem? h, by
        unfold Fn.as2
        rw [hm]
        exact ha⟩)))
      have q := (ba (List.all_eq_true.mp c2 d (List.mem_of_getElem? h))).2
      rw [hm] at q
      have z := sm.find (eqO_ok q)
      rw [gx] at z
      exact z
def hookS (its : List Itm) (fns : List Fn) (frees : List Str) (ex : (Str → Addr) → Bool) : PySem.W.Hook where
  α := AlD
  obs := fun s => obsS its fns frees ex s.heap.get?
  val := fun _ => (true, fns.map Fn.val)
  says := fun _ h => ∃ K : PySem.W.Frag, K.In h ∧ SaysS its fns frees ex K
  of := fun _ _ e => ⟨_, frG_in, says_of e⟩
  keeps := fun _ _ _ ⟨K, hK, c⟩ k => ⟨K, PySem.W.Frag.In.keeps hK k, c⟩
theorem obsS_eq {its : List Itm} {fns : List Fn} {frees : List Str} {ex : (Str → Addr) → Bool} {g : Addr → Option Obj} {s : Shared} (h : ∀ a, g a = s.heap.get? a) : obsS its fns frees ex g = (hookS its fns frees ex).obs s := by
  have e : g = s.heap.get? := funext h
  rw [e] <;> rfl
end Hm
set_option maxHeartbeats 4000000
/-! facts looked at over small pieces of the heap: own classes, defs with defaults -/
namespace Hu
open PySem PySem.Spec PyProof.Rows L2 He Hm
section
variable {K1 K2 : PySem.W.Frag}
theorem inst (s : Sub K1 K2) {v b : Value} {r : Bool} (h : PySem.W.instIn K1 v b = some r) : PySem.W.instIn K2 v b = some r := by
  obtain ⟨t, ht, e⟩ := Option.bind_eq_some_iff.mp h
  show (PySem.W.typeIn K2 v).bind _ = _
  rw [s.typeV ht]
  exact s.sub e
theorem isFn (s : Sub K1 K2) {v : Value} (h : PySem.W.isFn K1 v = true) : PySem.W.isFn K2 v = true := by
  have e := eq_of_beq (show (PySem.W.typeIn K1 v == some (.type "function")) = true from h)
  show (PySem.W.typeIn K2 v == some (.type "function")) = true
  rw [s.typeV e]
  rfl
theorem makes (s : Sub K1 K2) {C : Addr} (h : PySem.W.makesIn K1 C = true) : PySem.W.makesIn K2 C = true := by
  unfold PySem.W.makesIn at h ⊢
  split at h
  · rename_i oc od cd sl ho
    rw [s _ _ ho]
    obtain ⟨h, h2⟩ := ba h
    obtain ⟨h, h1⟩ := ba h
    dsimp only
    rw [h, s.special (eq_of_beq h1), inst s (eq_of_beq h2)]
    rfl
  · cases h
theorem plainGet (s : Sub K1 K2) {C : Addr} {x : Str} (h : PySem.W.plainGet K1 C x = true) : PySem.W.plainGet K2 C x = true := by
  obtain ⟨h1, h2⟩ := ba (show (PySem.W.findIn K1 (.ref C) "__getattribute__" == some (some (.builtin "object.__getattribute__")) && PySem.W.findIn K1 (.ref C) "__getattr__" == some none) = true from h)
  show (PySem.W.findIn K2 (.ref C) "__getattribute__" == some (some (.builtin "object.__getattribute__")) && PySem.W.findIn K2 (.ref C) "__getattr__" == some none) = true
  rw [s.find (eq_of_beq h1), s.find (eq_of_beq h2)]
  rfl
theorem plainOver (s : Sub K1 K2) {C : Addr} (h : PySem.W.plainOver K1 C = true) : PySem.W.plainOver K2 C = true := by
  obtain ⟨cd, hc, e⟩ := PySem.W.any_some h
  unfold PySem.W.plainOver
  rw [s.cls hc]
  exact e
theorem cls (s : Sub K1 K2) {C : Addr} (c : Cls K1 C) : Cls K2 C := ⟨plainGet s c.pg, s.hasDict c.hd, plainOver s c.po, s.find c.sa⟩
theorem insC (s : Sub K1 K2) {C : Addr} (c : C8.InsC K1 C) : C8.InsC K2 C := by
  refine ⟨cls s c.cl, s.find c.ha, s.special c.hn, s.takes c.htk, s.mro c.hm, ?_⟩
  unfold PySem.W.kitOne
  rw [if_pos (by simp)]
theorem mk (s : Sub K1 K2) {C f : Addr} (m : Mk K1 C f) : Mk K2 C f := ⟨makes s m.makes, s.find m.init, isFn s m.fn, s.keep m.kp⟩
theorem dflV (s : Sub K1 K2) {v : Value} {ds : List V} (h : DflV K1 v ds) : DflV K2 v ds := by
  rcases h with h | ⟨h, T, o, its, n, e, l, d, r⟩
  · exact .inl h
  · exact .inr ⟨h, T, o, its, n, e, s _ _ l, d, r⟩
theorem fund (s : Sub K1 K2) {x qual : Str} {params : Arguments} {body : List Stmt} {scope : Scope} {ds : List V} {f : Addr} {fd : FuncData} (F : FunD K1 x qual params body scope ds [] f fd) : FunD K2 x qual params body scope ds [] f fd := by
  obtain ⟨⟨oc, od, dV, kV, doc, pm, an, cdv, ct, osl, rfl, lk, hcd, hD, hK⟩, kp⟩ := F
  exact ⟨⟨oc, od, dV, kV, doc, pm, an, cdv, ct, osl, rfl, s _ _ lk, s.code hcd, dflV s hD, .inl rfl⟩, s.keep kp⟩
end
/-! ### one def, one method, with its defaults -/
structure Fn where
  x : Str
  m : Option Str
  name : Str
  qual : Str
  params : Arguments
  body : List Stmt
  scope : Scope
  dfl : List V
  pr : Bool := false
/-- a property's getter -/
def prA (K : PySem.W.Frag) (p : Addr) : Addr := match PySem.W.recIn K p "property" with
  | some (.ref g :: _) => g
  | _ => p
def prB (K : PySem.W.Frag) (C : Addr) (m : Str) (a : Addr) : Bool := match PySem.W.findIn K (.ref C) m with
  | some (some (.ref p)) => eqO (PySem.W.specialIn K (.ref p) "__get__") (some (some (.builtin "property.__get__"))) && (decide (PySem.W.takesIn K (.ref p) = some true) && (match PySem.W.recIn K p "property" with
    | some (.ref g :: _) => decide (g = a)
    | _ => false))
  | _ => false
theorem recS {K1 K2 : PySem.W.Frag} (s : Sub K1 K2) {p : Addr} {T : String} {vs : List Value} (h : PySem.W.recIn K1 p T = some vs) : PySem.W.recIn K2 p T = some vs := by
  unfold PySem.W.recIn at h ⊢
  split at h
  · rename_i n d ws sl ho
    rw [s _ _ ho]
    exact h
  · cases h
theorem prB_ok {K1 K2 : PySem.W.Frag} (s : Sub K1 K2) {C : Addr} {m : Str} {a : Addr} (h : prB K1 C m a = true) : ∃ p, PropOf K2 C m p a := by
  unfold prB at h
  split at h
  · rename_i p hp
    obtain ⟨h1, h⟩ := ba h
    obtain ⟨h2, h3⟩ := ba h
    split at h3
    · rename_i g rest hr
      have e := of_decide_eq_true h3
      subst e
      exact ⟨p, s.find hp, s.special (eqO_ok h1), s.takes (of_decide_eq_true h2), rest, recS s hr⟩
    · cases h3
  · cases h
def Fn.adr (g : Addr → Option Obj) (d : Fn) : Addr := match d.m with
  | none => gaG g d.x
  | some m => if d.pr then prA (frG g (growFrom g 2 [gaG g d.x])) (ma (frG g (growFrom g 2 [gaG g d.x])) (gaG g d.x) m) else ma (frG g (growFrom g 2 [gaG g d.x])) (gaG g d.x) m
def Fn.as (g : Addr → Option Obj) (d : Fn) : List Addr := growFrom g 1 [d.adr g]
def Fn.as2 (g : Addr → Option Obj) (d : Fn) : List Addr := match d.m with
  | none => []
  | some _ => growFrom g 2 [gaG g d.x]
def fnB (K : PySem.W.Frag) (a : Addr) (q : Str) (ds : List V) : Bool := PySem.W.keepIn K (.ref a) && (match K.lookup a with
  | some ⟨_, _, .func fd, _⟩ => PySem.W.codeIn K fd.code q && dflB K fd.defaults ds
  | _ => false)
def Fn.ok (g : Addr → Option Obj) (d : Fn) : Bool := fnB (frG g (d.as g)) (d.adr g) d.qual d.dfl && (match d.m with
  | none => true
  | some m => if d.pr then prB (frG g (growFrom g 2 [gaG g d.x])) (gaG g d.x) m (d.adr g) else eqO (PySem.W.findIn (frG g (growFrom g 2 [gaG g d.x])) (.ref (gaG g d.x)) m) (some (some (.ref (d.adr g)))))
def Fn.w (g : Addr → Option Obj) (d : Fn) : FnW := match g (d.adr g) with
  | some ⟨_, _, .func fd, _⟩ => some (fd.name, fd.qualname, fd.params, fd.body, fd.scope, fd.globals, fd.closure, fd.builtins)
  | _ => none
def Fn.val (d : Fn) : FnW := some (d.name, d.qual, d.params, .stmts d.body, d.scope, mainGlobals, [], builtinsNs)
theorem Fn.fund {g : Addr → Option Obj} {d : Fn} (e : d.w g = d.val) (c : d.ok g = true) : ∃ fd, FunD (frG g (d.as g)) d.name d.qual d.params d.body d.scope d.dfl [] (d.adr g) fd := by
  obtain ⟨kp, c2⟩ := ba (show (PySem.W.keepIn (frG g (d.as g)) (.ref (d.adr g)) && _) = true from (ba c).1)
  cases q : (frG g (d.as g)).lookup (d.adr g) with
  | none =>
    rw [q] at c2
    cases c2
  | some o =>
    have hg := frG_at _ q
    unfold Fn.w at e
    rw [hg] at e
    obtain ⟨oc, od, dt, osl⟩ := o
    rw [q] at c2
    cases dt with
    | func fd =>
      obtain ⟨n1, n2, n3, n4, n5, n6, n7, n8, n9, n10, n11, n12, n13, n14, n15⟩ := fd
      have e2 : (some (n1, n2, n3, n4, n5, n6, n7, n15) : FnW) = some (d.name, d.qual, d.params, .stmts d.body, d.scope, mainGlobals, [], builtinsNs) := e
      simp only [Option.some.injEq, Prod.mk.injEq] at e2
      obtain ⟨h1, h2, h3, h4, h5, h6, h7, h8⟩ := e2
      subst h1 h2 h3 h4 h5 h6 h7 h8
      obtain ⟨k1, k3⟩ := ba (show (PySem.W.codeIn (frG g (d.as g)) n13 d.qual && dflB (frG g (d.as g)) n8 d.dfl) = true from c2)
      exact ⟨_, ⟨oc, od, n8, n9, n10, n11, n12, n13, n14, osl, rfl, q, k1, dflB_ok k3, .inl rfl⟩, kp⟩
    | _ => cases c2
/-! ### the Hook -/
def obsS (its : List Itm) (fns : List Fn) (frees : List Str) (ex : (Str → Addr) → Bool) (g : Addr → Option Obj) : AlD :=
  (its.all (Itm.ok g) && (fns.all (Fn.ok g) && (frees.all (fun x => eqO (PySem.W.nsIn (frG g [mainGlobals]) mainGlobals x) (some none)) && ex (gaG g))), fns.map (Fn.w g))
def wholeK (its : List Itm) (fns : List Fn) (g : Addr → Option Obj) : PySem.W.Frag := frG g (mainGlobals :: (its.flatMap (Itm.as g) ++ (fns.flatMap (Fn.as g) ++ fns.flatMap (Fn.as2 g))))
/-- what the end leans on -/
structure SaysS (its : List Itm) (fns : List Fn) (frees : List Str) (ex : (Str → Addr) → Bool) (K : PySem.W.Frag) : Prop where
  glo : ∀ (j : Nat) (i : Itm), its[j]? = some i → PySem.W.nsIn K mainGlobals i.x = some (some (.ref (ga K i.x)))
  it : ∃ γ : Str → Addr, (∀ (j : Nat) (i : Itm), its[j]? = some i → γ i.x = ga K i.x ∧ ∃ K1, Sub K1 K ∧ i.ck γ K1 (ga K i.x) = true) ∧ ex γ = true
  fn : ∀ (j : Nat) (d : Fn), fns[j]? = some d → (∃ (k : Nat) (i : Itm), its[k]? = some i ∧ i.x = d.x) → ∃ (a : Addr) (fd : FuncData), FunD K d.name d.qual d.params d.body d.scope d.dfl [] a fd ∧ (d.m = none → a = ga K d.x) ∧ (∀ m, d.m = some m → d.pr = false → PySem.W.findIn K (.ref (ga K d.x)) m = some (some (.ref a))) ∧ ∀ m, d.m = some m → d.pr = true → ∃ p, PropOf K (ga K d.x) m p a
  free : ∀ x ∈ frees, PySem.W.nsIn K mainGlobals x = some none
theorem says_of {its : List Itm} {fns : List Fn} {frees : List Str} {ex : (Str → Addr) → Bool} {g : Addr → Option Obj} (e : obsS its fns frees ex g = (true, fns.map Fn.val)) : SaysS its fns frees ex (wholeK its fns g) := by
  have e1 : (its.all (Itm.ok g) && (fns.all (Fn.ok g) && (frees.all (fun x => eqO (PySem.W.nsIn (frG g [mainGlobals]) mainGlobals x) (some none)) && ex (gaG g)))) = true := congrArg (fun z : AlD => z.1) e
  have e2 : fns.map (Fn.w g) = fns.map Fn.val := congrArg (fun z : AlD => z.2) e
  obtain ⟨c1, c2⟩ := ba e1
  obtain ⟨c2, c3⟩ := ba c2
  obtain ⟨c3, c4⟩ := ba c3
  have s0 : Sub (frG g [mainGlobals]) (wholeK its fns g) := sub_of fun a h => by
    have : a = mainGlobals := by simpa using h
    rw [this]
    exact List.mem_cons_self ..
  have gl : ∀ (j : Nat) (i : Itm), its[j]? = some i → PySem.W.nsIn (wholeK its fns g) mainGlobals i.x = some (some (.ref (gaG g i.x))) := fun j i h =>
    s0.ns (eqO_ok (ba (List.all_eq_true.mp c1 i (List.mem_of_getElem? h))).1)
  have ge : ∀ (j : Nat) (i : Itm), its[j]? = some i → gaG g i.x = ga (wholeK its fns g) i.x := fun j i h => by
    unfold ga
    rw [gl j i h]
  refine ⟨fun j i h => by rw [← ge j i h]; exact gl j i h, ⟨gaG g, fun j i h => ⟨ge j i h, frG g (i.as g), ?_, ?_⟩, c4⟩, fun j d h hx => ?_, fun x hx => s0.ns (eqO_ok (List.all_eq_true.mp c3 x hx))⟩
  · exact sub_of fun a ha => List.mem_cons_of_mem _ (List.mem_append_left _ (List.mem_flatMap.mpr ⟨i, List.mem_of_getElem? h, ha⟩))
  · rw [← ge j i h]
    exact (ba (List.all_eq_true.mp c1 i (List.mem_of_getElem? h))).2
  · have e3 : (fns.map (Fn.w g))[j]? = (fns.map Fn.val)[j]? := by rw [e2]
    rw [List.getElem?_map, List.getElem?_map, h] at e3
    obtain ⟨fd, F⟩ := Fn.fund (Option.some.inj e3) (List.all_eq_true.mp c2 d (List.mem_of_getElem? h))
    have sd : Sub (frG g (d.as g)) (wholeK its fns g) := sub_of fun a ha => List.mem_cons_of_mem _ (List.mem_append_right _ (List.mem_append_left _ (List.mem_flatMap.mpr ⟨d, List.mem_of_getElem? h, ha⟩)))
    obtain ⟨k, i, hk, hix⟩ := hx
    have gx : gaG g d.x = ga (wholeK its fns g) d.x := by
      rw [← hix]
      exact ge k i hk
    refine ⟨d.adr g, fd, Hu.fund sd F, fun hm => ?_, fun m hm hp => ?_, fun m hm hp => ?_⟩
    · unfold Fn.adr
      rw [hm, ← gx]
    · have sm : Sub (frG g (growFrom g 2 [gaG g d.x])) (wholeK its fns g) := sub_of fun a ha => List.mem_cons_of_mem _ (List.mem_append_right _ (List.mem_append_right _ (List.mem_flatMap.mpr ⟨d, List.mem_of_getElem? h, by
        unfold Fn.as2
        rw [hm]
        exact ha⟩)))
      have q := (ba (List.all_eq_true.mp c2 d (List.mem_of_getElem? h))).2
      rw [hm] at q
      dsimp only at q
      rw [hp] at q
      have z := sm.find (eqO_ok q)
      rw [gx] at z
      exact z
    · have sm : Sub (frG g (growFrom g 2 [gaG g d.x])) (wholeK its fns g) := sub_of fun a ha => List.mem_cons_of_mem _ (List.mem_append_right _ (List.mem_append_right _ (List.mem_flatMap.mpr ⟨d, List.mem_of_getElem? h, by
        unfold Fn.as2
        rw [hm]
        exact ha⟩)))
      have q := (ba (List.all_eq_true.mp c2 d (List.mem_of_getElem? h))).2
      rw [hm] at q
      dsimp only at q
      rw [hp] at q
      rw [← gx]
      exact prB_ok sm q
def hookS (its : List Itm) (fns : List Fn) (frees : List Str) (ex : (Str → Addr) → Bool) : PySem.W.Hook where
  α := AlD
  obs := fun s => obsS its fns frees ex s.heap.get?
  val := fun _ => (true, fns.map Fn.val)
  says := fun _ h => ∃ K : PySem.W.Frag, K.In h ∧ SaysS its fns frees ex K
  of := fun _ _ e => ⟨_, frG_in, says_of e⟩
  keeps := fun _ _ _ ⟨K, hK, c⟩ k => ⟨K, PySem.W.Frag.In.keeps hK k, c⟩
theorem obsS_eq {its : List Itm} {fns : List Fn} {frees : List Str} {ex : (Str → Addr) → Bool} {g : Addr → Option Obj} {s : Shared} (h : ∀ a, g a = s.heap.get? a) : obsS its fns frees ex g = (hookS its fns frees ex).obs s := by
  have e : g = s.heap.get? := funext h
  rw [e] <;> rfl
/-! ### what is looked at of an own class -/
def clsB (K : PySem.W.Frag) (C : Addr) (fs ms : List Str) : Bool :=
  PySem.W.plainGet K C Str.empty && (PySem.W.hasDictIn K C && (PySem.W.plainOver K C && (eqO (PySem.W.findIn K (.ref C) "__setattr__") (some (some (.builtin "object.__setattr__"))) &&
  (PySem.W.makesIn K C && (PySem.W.keepIn K (.ref C) && (eqO (PySem.W.findIn K (.ref C) "__class__") (some (some (.builtin "object.__class__"))) && (comB K && (decide (PySem.W.mroIn K C (.type "object") = some true) &&
  (decide (PySem.W.typeIn K (.ref C) = some (.type "type")) && ((fs.all fun f => eqO (PySem.W.findIn K (.ref C) f) (some none)) &&
  ms.all fun m => PySem.W.isFn K (.ref (ma K C m)) && eqO (PySem.W.findIn K (.ref C) m) (some (some (.ref (ma K C m))))))))))))))
structure ClsK (K : PySem.W.Frag) (C : Addr) (fs ms : List Str) : Prop where
  cl : Cls K C
  mkI : PySem.W.makesIn K C = true
  kp : PySem.W.keepIn K (.ref C) = true
  ins : C8.InsC K C
  ty : PySem.W.typeIn K (.ref C) = some (.type "type")
  cd : ∃ cd, PySem.W.clsIn K C = some cd
  no : ∀ f ∈ fs, NoAttr K C f
  me : ∀ m ∈ ms, ∃ a, PySem.W.findIn K (.ref C) m = some (some (.ref a)) ∧ PySem.W.isFn K (.ref a) = true
theorem clsK_of {K1 K : PySem.W.Frag} (s : Sub K1 K) {C : Addr} {fs ms : List Str} (h : clsB K1 C fs ms = true) : ClsK K C fs ms := by
  unfold clsB at h
  obtain ⟨a1, h⟩ := ba h
  obtain ⟨a2, h⟩ := ba h
  obtain ⟨a3, h⟩ := ba h
  obtain ⟨a4, h⟩ := ba h
  obtain ⟨a5, h⟩ := ba h
  obtain ⟨a6, h⟩ := ba h
  obtain ⟨a7, h⟩ := ba h
  obtain ⟨a8, h⟩ := ba h
  obtain ⟨a9, h⟩ := ba h
  obtain ⟨a10, h⟩ := ba h
  obtain ⟨a11, a12⟩ := ba h
  obtain ⟨c1, c2⟩ := ba a8
  have c : Cls K1 C := ⟨a1, a2, a3, eqO_ok a4⟩
  have i : C8.InsC K1 C := ⟨c, eqO_ok a7, of_decide_eq_true c1, of_decide_eq_true c2, of_decide_eq_true a9, by
    unfold PySem.W.kitOne
    rw [if_pos (by simp)]⟩
  obtain ⟨cd, hc, _⟩ := PySem.W.any_some a2
  refine ⟨cls s c, makes s a5, s.keep a6, insC s i, s.typ (of_decide_eq_true a10), ⟨cd, s.cls hc⟩, fun f hf => s.find (eqO_ok (List.all_eq_true.mp a11 f hf)), fun m hm => ?_⟩
  obtain ⟨q1, q2⟩ := ba (List.all_eq_true.mp a12 m hm)
  exact ⟨_, s.find (eqO_ok q2), isFn s q1⟩
/-- isinstance of an instance of C, of another own class D -/
theorem kit_no {K : PySem.W.Frag} {C D : Addr} {fs' ms' : List Str} (y : ClsK K D fs' ms') (ne : C ≠ D) (h : PySem.W.mroIn K C (.ref D) = some false) : PySem.W.kitOne K (.ref C) (.ref D) = some false := by
  unfold PySem.W.kitOne
  have n : (Value.ref C == Value.ref D) = false := by simpa using ne
  rw [n, if_neg Bool.false_ne_true]
  obtain ⟨cd, hc⟩ := y.cd
  have e2 : ((PySem.W.clsIn K D).isSome && PySem.W.typeIn K (.ref D) == some (.type "type")) = true := by rw [hc, y.ty] <;> rfl
  show (if ((PySem.W.clsIn K D).isSome && PySem.W.typeIn K (.ref D) == some (.type "type")) = true then PySem.W.subIn K (.ref C) (.ref D) else none) = _
  rw [if_pos e2]
  exact h
end Hu
set_option maxHeartbeats 0
namespace My
open PySem PySem.Spec PyProof.Rows L2 He Hm Hu
def dFn (x : Str) (st : Stmt) : Hu.Fn := ⟨x, none, x, x, defArgs st, defBody st, defScope st, [], false⟩
def mFn (x m qual : Str) (st : Stmt) (ds : List V) : Hu.Fn := ⟨x, some m, m, qual, defArgs st, defBody st, defScope st, ds, false⟩
def pFn (x m qual : Str) (st : Stmt) : Hu.Fn := ⟨x, some m, m, qual, defArgs st, defBody st, defScope st, [], true⟩
def fns : List Hu.Fn := [dFn "_wall" (topS 0), dFn "is_whole" (topS 5), dFn "is_sequence" (topS 6), dFn "is_couple" (topS 7), dFn "is_state" (topS 8), dFn "is_deed" (topS 9), dFn "is_goals" (topS 10), dFn "is_ends" (topS 11), dFn "is_side" (topS 12), dFn "is_row" (topS 13), dFn "sign_stands" (topS 14), dFn "tidy" (topS 18), dFn "tidy_rows" (topS 19), dFn "stripped" (topS 20), dFn "clash_word" (topS 21), dFn "_law_source" (topS 23), dFn "_law_take" (topS 24), dFn "_law_pick" (topS 25), dFn "_law_moves" (topS 26), dFn "_law_deed" (topS 27), dFn "_law_after" (topS 28), dFn "_law_side" (topS 29), dFn "_law_filled" (topS 30), dFn "_law_cut_row" (topS 31), dFn "_law_text_deed" (topS 32), dFn "_law_fits" (topS 33), dFn "_law_texts" (topS 34), dFn "_law_rows_hold" (topS 35), dFn "_law_fillings" (topS 36), dFn "_law_strip" (topS 37), dFn "_law_tidy" (topS 38), dFn "_law_lots" (topS 39), dFn "_law_end_states" (topS 40), dFn "_law_draw_rows" (topS 41), dFn "_law_same_tidy" (topS 42), dFn "law" (topS 43), mFn "Book" "__init__" "Book.__init__" (inClass (topS 15) 0) [.int 1], mFn "Book" "__eq__" "Book.__eq__" (inClass (topS 15) 2) [], mFn "Clash" "__init__" "Clash.__init__" (inClass (topS 16) 0) [], mFn "Clash" "__eq__" "Clash.__eq__" (inClass (topS 16) 1) []]
def mkG (x : Str) : Itm := ⟨x, 0, fun _ _ _ => true⟩
def neB (K : PySem.W.Frag) (a : Addr) : Bool := true
def mkC (x : Str) (fs ms others : List Str) : Itm := ⟨x, 3, fun γ K a => clsB K a fs ms && ((others.all fun y => decide (a ≠ γ y) && decide (PySem.W.mroIn K a (.ref (γ y)) = some false)) && neB K a)⟩
def its : List Itm := [mkG "_wall", mkG "is_whole", mkG "is_sequence", mkG "is_couple", mkG "is_state", mkG "is_deed", mkG "is_goals", mkG "is_ends", mkG "is_side", mkG "is_row", mkG "sign_stands", mkG "tidy", mkG "tidy_rows", mkG "stripped", mkG "clash_word", mkG "_law_source", mkG "_law_take", mkG "_law_pick", mkG "_law_moves", mkG "_law_deed", mkG "_law_after", mkG "_law_side", mkG "_law_filled", mkG "_law_cut_row", mkG "_law_text_deed", mkG "_law_fits", mkG "_law_texts", mkG "_law_rows_hold", mkG "_law_fillings", mkG "_law_strip", mkG "_law_tidy", mkG "_law_lots", mkG "_law_end_states", mkG "_law_draw_rows", mkG "_law_same_tidy", mkG "law", mkC "Book" ["rows", "deeds", "ends", "states"] ["__init__", "__eq__"] ["Clash"], mkC "Clash" ["why", "at"] ["__init__", "__eq__"] ["Book"]]
def frees : List Str := ["len", "int", "bool", "list", "tuple", "isinstance", "all", "range", "min", "enumerate", "zip", "any", "sum", "max", "sorted", "dict", "repr", "str", "set"]
def ex (_ : Str → Addr) : Bool := true
abbrev R : PySem.W.OpenRow := PySem.W.OpenLaw.row PySem.Challenge.rw_pressedwords_k03_whole_tidy_keeps_all_fi
abbrev hk : PySem.W.Hook := Hu.hookS its fns frees ex
def ob (s : PySem.W.SharedT) : AlD := Hu.obsS its fns frees ex (HandSHeadRun.getT s)
theorem ob_eq (s : PySem.W.SharedT) : ob s = hk.obs s.abs := Hu.obsS_eq (HandSHeadRun.getT_eq s)
def nm0 : List PySem.Str := ["PressError", "BadBook", "Book", "Clash", "_wall", "is_whole", "is_sequence", "is_couple", "is_state", "is_deed", "is_goals", "is_ends", "is_side", "is_row", "sign_stands", "tidy", "tidy_rows", "stripped", "clash_word", "_law_source", "_law_take", "_law_pick", "_law_moves", "_law_deed", "_law_after", "_law_side", "_law_filled", "_law_cut_row", "_law_text_deed", "_law_fits"]
def nm1 : List PySem.Str := ["_law_texts", "_law_rows_hold", "_law_fillings", "_law_strip", "_law_tidy", "_law_lots", "_law_end_states", "_law_draw_rows", "_law_same_tidy"]
def loose : List PySem.Str := nm0 ++ (nm1)
theorem run (w : World) : HandSHeadRun.RunEq R (PySem.W.view R.prog [43]) hk ob 12500 loose w := by
  intro os
  kernel_rfl
section
variable {P : Program} {w : World} {K : PySem.W.Frag} {h : Heap} {mg : Str → Option Value}
theorem dn_of (X : K.In h) (G : h.Ns mainGlobals mg) (c : Hu.SaysS its fns frees ex K) (j : Nat) {x : Str} {st : Stmt} {ps : List Str} (hf : fns[j]? = some (dFn x st)) (hi : its[j]? = some (mkG x))
    (hb : ∀ (kV doc pm : Value) (an : Option Addr) (cdv ct : Value) (us : List Value), us.length = ps.length → bindArgs (PySem.W.fnOf x x (defArgs st) (defBody st) (defScope st) .none kV doc pm an cdv ct) ⟨us, []⟩ = pure (ps.zip us)) : ∃ D : Dn K mg x st ps, D.f = ga K x := by
  obtain ⟨a, fd, F, ha, _⟩ := c.fn j _ hf ⟨_, _, hi, rfl⟩
  have e : a = ga K x := ha rfl
  subst e
  exact ⟨⟨_, fd, F, PySem.W.mg_of X G (c.glo j _ hi), FunD.bindsN F hb⟩, rfl⟩
theorem fr_of (X : K.In h) (G : h.Ns mainGlobals mg) (c : Hu.SaysS its fns frees ex K) {x : Str} (hx : x ∈ frees) : mg x = none := PySem.W.mg_none_of X G (c.free x hx)
theorem cl_of (X : K.In h) (G : h.Ns mainGlobals mg) (c : Hu.SaysS its fns frees ex K) (j : Nat) {x : Str} {fs ms others : List Str} (hi : its[j]? = some (mkC x fs ms others)) : mg x = some (.ref (ga K x)) ∧ ClsK K (ga K x) fs ms := by
  obtain ⟨γ, hγ, _⟩ := c.it
  obtain ⟨_, K1, s1, q⟩ := hγ j _ hi
  exact ⟨PySem.W.mg_of X G (c.glo j _ hi), clsK_of s1 (ba (show (clsB K1 (ga K x) fs ms && _) = true from q)).1⟩
theorem no_of (c : Hu.SaysS its fns frees ex K) (j i : Nat) {x y : Str} {fs ms os fs' ms' os' : List Str} (hj : its[j]? = some (mkC x fs ms os)) (hi : its[i]? = some (mkC y fs' ms' os')) (hy : y ∈ os) (k : ClsK K (ga K y) fs' ms') : PySem.W.kitOne K (.ref (ga K x)) (.ref (ga K y)) = some false := by
  obtain ⟨γ, hγ, _⟩ := c.it
  obtain ⟨_, K1, s1, q⟩ := hγ j _ hj
  have e : γ y = ga K y := (hγ i _ hi).1
  obtain ⟨q1, q2⟩ := ba (List.all_eq_true.mp (ba (ba (show (clsB K1 (ga K x) fs ms && ((os.all fun y => decide (ga K x ≠ γ y) && decide (PySem.W.mroIn K1 (ga K x) (.ref (γ y)) = some false)) && neB K1 (ga K x))) = true from q)).2).1 y hy)
  have q1 := of_decide_eq_true q1
  have q2 := of_decide_eq_true q2
  rw [e] at q1 q2
  exact kit_no k q1 (s1.mro q2)
theorem me_of (c : Hu.SaysS its fns frees ex K) (j i : Nat) {x m qual : Str} {st : Stmt} {ds : List V} {it : Itm} (hf : fns[j]? = some (mFn x m qual st ds)) (hi : its[i]? = some it) (hx : it.x = x) : ∃ a fd, FunD K m qual (defArgs st) (defBody st) (defScope st) ds [] a fd ∧ PySem.W.findIn K (.ref (ga K x)) m = some (some (.ref a)) := by
  obtain ⟨a, fd, F, _, hm, _⟩ := c.fn j _ hf ⟨_, _, hi, hx⟩
  exact ⟨a, fd, F, hm m rfl rfl⟩
theorem pr_of (c : Hu.SaysS its fns frees ex K) (j i : Nat) {x m qual : Str} {st : Stmt} {it : Itm} (hf : fns[j]? = some (pFn x m qual st)) (hi : its[i]? = some it) (hx : it.x = x) : ∃ a fd, FunD K m qual (defArgs st) (defBody st) (defScope st) [] [] a fd ∧ ∃ p, PropOf K (ga K x) m p a := by
  obtain ⟨a, fd, F, _, _, hp⟩ := c.fn j _ hf ⟨_, _, hi, hx⟩
  exact ⟨a, fd, F, hp m rfl rfl⟩
theorem law_fn (X : K.In h) (G : h.Ns mainGlobals mg) (c : Hu.SaysS its fns frees ex K) {fa : Addr} (hfa : mg ("law" : Str) = some (.ref fa)) : ∃ fd : FuncData, (∀ (s : Shared) (v : Value), BindsTo s fd ⟨[v], []⟩ [("_law_script", v)]) ∧ ∀ base : Heap, K.In base → base.Ns mainGlobals mg → FnOk P w K mg base CX0 9 fa fd ["_law_script"] (sp_law K) := by
  obtain ⟨D_is_whole, _⟩ := dn_of (st := s_is_whole) (ps := ["thing"]) X G c 1 (x := "is_whole") rfl rfl fun _ _ _ _ _ _ us hl => match us, hl with | [_], _ => rfl
  obtain ⟨D_is_sequence, _⟩ := dn_of (st := s_is_sequence) (ps := ["thing"]) X G c 2 (x := "is_sequence") rfl rfl fun _ _ _ _ _ _ us hl => match us, hl with | [_], _ => rfl
  obtain ⟨D_is_couple, _⟩ := dn_of (st := s_is_couple) (ps := ["thing"]) X G c 3 (x := "is_couple") rfl rfl fun _ _ _ _ _ _ us hl => match us, hl with | [_], _ => rfl
  obtain ⟨D_is_state, _⟩ := dn_of (st := s_is_state) (ps := ["thing", "states"]) X G c 4 (x := "is_state") rfl rfl fun _ _ _ _ _ _ us hl => match us, hl with | [_, _], _ => rfl
  obtain ⟨D_is_deed, _⟩ := dn_of (st := s_is_deed) (ps := ["thing", "states"]) X G c 5 (x := "is_deed") rfl rfl fun _ _ _ _ _ _ us hl => match us, hl with | [_, _], _ => rfl
  obtain ⟨D_is_goals, _⟩ := dn_of (st := s_is_goals) (ps := ["thing", "states"]) X G c 6 (x := "is_goals") rfl rfl fun _ _ _ _ _ _ us hl => match us, hl with | [_, _], _ => rfl
  obtain ⟨D_is_ends, _⟩ := dn_of (st := s_is_ends) (ps := ["thing", "states"]) X G c 7 (x := "is_ends") rfl rfl fun _ _ _ _ _ _ us hl => match us, hl with | [_, _], _ => rfl
  obtain ⟨D_is_side, _⟩ := dn_of (st := s_is_side) (ps := ["thing"]) X G c 8 (x := "is_side") rfl rfl fun _ _ _ _ _ _ us hl => match us, hl with | [_], _ => rfl
  obtain ⟨D_is_row, _⟩ := dn_of (st := s_is_row) (ps := ["thing"]) X G c 9 (x := "is_row") rfl rfl fun _ _ _ _ _ _ us hl => match us, hl with | [_], _ => rfl
  obtain ⟨D_sign_stands, _⟩ := dn_of (st := s_sign_stands) (ps := ["sign", "letters", "unknowns"]) X G c 10 (x := "sign_stands") rfl rfl fun _ _ _ _ _ _ us hl => match us, hl with | [_, _, _], _ => rfl
  obtain ⟨D_tidy, _⟩ := dn_of (st := s_tidy) (ps := ["book"]) X G c 11 (x := "tidy") rfl rfl fun _ _ _ _ _ _ us hl => match us, hl with | [_], _ => rfl
  obtain ⟨D_tidy_rows, _⟩ := dn_of (st := s_tidy_rows) (ps := ["rows"]) X G c 12 (x := "tidy_rows") rfl rfl fun _ _ _ _ _ _ us hl => match us, hl with | [_], _ => rfl
  obtain ⟨D_stripped, _⟩ := dn_of (st := s_stripped) (ps := ["row"]) X G c 13 (x := "stripped") rfl rfl fun _ _ _ _ _ _ us hl => match us, hl with | [_], _ => rfl
  obtain ⟨D_clash_word, _⟩ := dn_of (st := s_clash_word) (ps := ["left", "right"]) X G c 14 (x := "clash_word") rfl rfl fun _ _ _ _ _ _ us hl => match us, hl with | [_, _], _ => rfl
  obtain ⟨D__law_source, _⟩ := dn_of (st := s__law_source) (ps := ["_law_script"]) X G c 15 (x := "_law_source") rfl rfl fun _ _ _ _ _ _ us hl => match us, hl with | [_], _ => rfl
  obtain ⟨D__law_take, _⟩ := dn_of (st := s__law_take) (ps := ["_law_source_here", "_law_many"]) X G c 16 (x := "_law_take") rfl rfl fun _ _ _ _ _ _ us hl => match us, hl with | [_, _], _ => rfl
  obtain ⟨D__law_pick, _⟩ := dn_of (st := s__law_pick) (ps := ["_law_source_here", "_law_things"]) X G c 17 (x := "_law_pick") rfl rfl fun _ _ _ _ _ _ us hl => match us, hl with | [_, _], _ => rfl
  obtain ⟨D__law_moves, _⟩ := dn_of (st := s__law_moves) (ps := ["_law_source_here", "_law_states", "_law_letters"]) X G c 18 (x := "_law_moves") rfl rfl fun _ _ _ _ _ _ us hl => match us, hl with | [_, _, _], _ => rfl
  obtain ⟨D__law_deed, _⟩ := dn_of (st := s__law_deed) (ps := ["_law_moves_here", "_law_places"]) X G c 19 (x := "_law_deed") rfl rfl fun _ _ _ _ _ _ us hl => match us, hl with | [_, _], _ => rfl
  obtain ⟨D__law_after, _⟩ := dn_of (st := s__law_after) (ps := ["_law_first", "_law_then"]) X G c 20 (x := "_law_after") rfl rfl fun _ _ _ _ _ _ us hl => match us, hl with | [_, _], _ => rfl
  obtain ⟨D__law_side, _⟩ := dn_of (st := s__law_side) (ps := ["_law_source_here", "_law_letters", "_law_unknowns", "_law_most"]) X G c 21 (x := "_law_side") rfl rfl fun _ _ _ _ _ _ us hl => match us, hl with | [_, _, _, _], _ => rfl
  obtain ⟨D__law_filled, _⟩ := dn_of (st := s__law_filled) (ps := ["_law_side_here", "_law_texts_here"]) X G c 22 (x := "_law_filled") rfl rfl fun _ _ _ _ _ _ us hl => match us, hl with | [_, _], _ => rfl
  obtain ⟨D__law_cut_row, _⟩ := dn_of (st := s__law_cut_row) (ps := ["_law_source_here", "_law_texts_here", "_law_most", "_law_letters"]) X G c 23 (x := "_law_cut_row") rfl rfl fun _ _ _ _ _ _ us hl => match us, hl with | [_, _, _, _], _ => rfl
  obtain ⟨D__law_text_deed, _⟩ := dn_of (st := s__law_text_deed) (ps := ["_law_deeds", "_law_states", "_law_text"]) X G c 24 (x := "_law_text_deed") rfl rfl fun _ _ _ _ _ _ us hl => match us, hl with | [_, _, _], _ => rfl
  obtain ⟨D__law_fits, _⟩ := dn_of (st := s__law_fits) (ps := ["_law_deeds", "_law_states", "_law_ends", "_law_text"]) X G c 25 (x := "_law_fits") rfl rfl fun _ _ _ _ _ _ us hl => match us, hl with | [_, _, _, _], _ => rfl
  obtain ⟨D__law_texts, _⟩ := dn_of (st := s__law_texts) (ps := ["_law_letters", "_law_most"]) X G c 26 (x := "_law_texts") rfl rfl fun _ _ _ _ _ _ us hl => match us, hl with | [_, _], _ => rfl
  obtain ⟨D__law_rows_hold, _⟩ := dn_of (st := s__law_rows_hold) (ps := ["_law_rows", "_law_texts_here"]) X G c 27 (x := "_law_rows_hold") rfl rfl fun _ _ _ _ _ _ us hl => match us, hl with | [_, _], _ => rfl
  obtain ⟨D__law_fillings, _⟩ := dn_of (st := s__law_fillings) (ps := ["_law_rows", "_law_deeds", "_law_ends", "_law_states", "_law_most"]) X G c 28 (x := "_law_fillings") rfl rfl fun _ _ _ _ _ _ us hl => match us, hl with | [_, _, _, _, _], _ => rfl
  obtain ⟨D__law_strip, _⟩ := dn_of (st := s__law_strip) (ps := ["_law_left", "_law_right"]) X G c 29 (x := "_law_strip") rfl rfl fun _ _ _ _ _ _ us hl => match us, hl with | [_, _], _ => rfl
  obtain ⟨D__law_tidy, _⟩ := dn_of (st := s__law_tidy) (ps := ["_law_rows"]) X G c 30 (x := "_law_tidy") rfl rfl fun _ _ _ _ _ _ us hl => match us, hl with | [_], _ => rfl
  obtain ⟨D__law_lots, _⟩ := dn_of (st := s__law_lots) (ps := ["_law_source_here", "_law_moves_here", "_law_many"]) X G c 31 (x := "_law_lots") rfl rfl fun _ _ _ _ _ _ us hl => match us, hl with | [_, _, _], _ => rfl
  obtain ⟨D__law_end_states, _⟩ := dn_of (st := s__law_end_states) (ps := ["_law_source_here", "_law_states"]) X G c 32 (x := "_law_end_states") rfl rfl fun _ _ _ _ _ _ us hl => match us, hl with | [_, _], _ => rfl
  obtain ⟨D__law_draw_rows, _⟩ := dn_of (st := s__law_draw_rows) (ps := ["_law_source_here", "_law_letters", "_law_unknowns", "_law_texts_here"]) X G c 33 (x := "_law_draw_rows") rfl rfl fun _ _ _ _ _ _ us hl => match us, hl with | [_, _, _, _], _ => rfl
  obtain ⟨D__law_same_tidy, _⟩ := dn_of (st := s__law_same_tidy) (ps := ["_law_book", "_law_told", "_law_rows"]) X G c 34 (x := "_law_same_tidy") rfl rfl fun _ _ _ _ _ _ us hl => match us, hl with | [_, _, _], _ => rfl
  obtain ⟨m_Book, k_Book⟩ := cl_of X G c 36 (x := "Book") rfl
  obtain ⟨m_Clash, k_Clash⟩ := cl_of X G c 37 (x := "Clash") rfl
  obtain ⟨a_Book_init, fd_Book_init, F_Book_init, i_Book_init⟩ := me_of c 36 36 (x := "Book") (m := "__init__") (st := s_Book_init) rfl rfl rfl
  obtain ⟨a_Book_eq, fd_Book_eq, F_Book_eq, i_Book_eq⟩ := me_of c 37 36 (x := "Book") (m := "__eq__") (st := s_Book_eq) rfl rfl rfl
  obtain ⟨a_Clash_init, fd_Clash_init, F_Clash_init, i_Clash_init⟩ := me_of c 38 37 (x := "Clash") (m := "__init__") (st := s_Clash_init) rfl rfl rfl
  obtain ⟨a_Clash_eq, fd_Clash_eq, F_Clash_eq, i_Clash_eq⟩ := me_of c 39 37 (x := "Clash") (m := "__eq__") (st := s_Clash_eq) rfl rfl rfl
  obtain ⟨D_law, _⟩ := dn_of (st := s_law) (ps := ["_law_script"]) X G c 35 (x := "law") rfl rfl fun _ _ _ _ _ _ us hl => match us, hl with | [_], _ => rfl
  have e_law : fa = D_law.f := by
    have e := hfa.symm.trans D_law.m
    exact Value.ref.inj (Option.some.inj e)
  subst e_law
  have fr : ∀ {x : Str}, x ∈ frees → mg x = none := fun hx => fr_of X G c hx
  have T : TB mg := ⟨fr (by decide +kernel), fr (by decide +kernel), fr (by decide +kernel), fr (by decide +kernel), fr (by decide +kernel), fr (by decide +kernel), fr (by decide +kernel), fr (by decide +kernel), fr (by decide +kernel), fr (by decide +kernel), fr (by decide +kernel), fr (by decide +kernel), fr (by decide +kernel), fr (by decide +kernel), fr (by decide +kernel), fr (by decide +kernel), fr (by decide +kernel), fr (by decide +kernel), fr (by decide +kernel)⟩
  have TS : TxtS mg := ⟨T.len, T.int, T.list_⟩
  have X_BC := no_of c 36 (36 + 1) (x := "Book") (y := "Clash") rfl rfl (by decide +kernel) k_Clash
  obtain ⟨C_Book, eB⟩ : ∃ C : BookC K mg, C.C = ga K "Book" := by
    obtain ⟨ds, h1, h2⟩ := FunD.binds1 (ps := ["self", "rows", "deeds", "ends", "states"]) F_Book_init 5 1 (by simp) rfl fun _ _ _ _ _ _ _ us its hl hi => match us, its, hl, hi with | [_, _, _, _, _], [_], _, _ => ⟨_, rfl, rfl⟩
    cases h1
    obtain ⟨a', h3, h4⟩ := k_Book.me "__init__" (by decide +kernel)
    cases i_Book_init.symm.trans h3
    exact ⟨⟨_, _, fd_Book_init, F_Book_init, m_Book, ⟨k_Book.mkI, h3, h4, k_Book.kp⟩, k_Book.cl, h2, k_Book.no _ (by decide +kernel), k_Book.no _ (by decide +kernel), k_Book.no _ (by decide +kernel), k_Book.no _ (by decide +kernel)⟩, rfl⟩
  obtain ⟨C_Clash, eC⟩ : ∃ C : ClashC K mg, C.C = ga K "Clash" := by
    obtain ⟨a', h3, h4⟩ := k_Clash.me "__init__" (by decide +kernel)
    cases i_Clash_init.symm.trans h3
    exact ⟨⟨_, _, fd_Clash_init, F_Clash_init, m_Clash, ⟨k_Clash.mkI, h3, h4, k_Clash.kp⟩, k_Clash.cl, FunD.bindsN F_Clash_init fun _ _ _ _ _ _ us hl => match us, hl with | [_, _, _], _ => rfl, k_Clash.no _ (by decide +kernel), k_Clash.no _ (by decide +kernel)⟩, rfl⟩
  rw [← eB, ← eC] at X_BC
  rw [← eB] at k_Book i_Book_eq
  rw [← eC] at k_Clash i_Clash_eq
  have I_Book := k_Book.ins
  have I_Clash := k_Clash.ins
  have L_Clash : PySem.W.kitOne K (.type "list") (.ref C_Clash.C) = some false := by
    unfold PySem.W.kitOne
    obtain ⟨cd, hc⟩ := k_Clash.cd
    have e2 : ((PySem.W.clsIn K C_Clash.C).isSome && PySem.W.typeIn K (.ref C_Clash.C) == some (.type "type")) = true := by rw [hc, k_Clash.ty] <;> rfl
    have n : (Value.type "list" == Value.ref C_Clash.C) = false := rfl
    rw [n, if_neg Bool.false_ne_true]
    show (if ((PySem.W.clsIn K C_Clash.C).isSome && PySem.W.typeIn K (.ref C_Clash.C) == some (.type "type")) = true then PySem.W.subIn K (.type "list") (.ref C_Clash.C) else none) = _
    rw [if_pos e2]
    rfl
  obtain ⟨Q_Book⟩ : Nonempty (EqC K "Book.__eq__" s_Book_eq C_Book.C) := by
    obtain ⟨a', h3, h4⟩ := k_Book.me "__eq__" (by decide +kernel)
    cases i_Book_eq.symm.trans h3
    exact ⟨⟨_, fd_Book_eq, F_Book_eq, h3, h4, FunD.bindsN F_Book_eq fun _ _ _ _ _ _ us hl => match us, hl with | [_, _], _ => rfl, I_Book⟩⟩
  obtain ⟨Q_Clash⟩ : Nonempty (EqC K "Clash.__eq__" s_Clash_eq C_Clash.C) := by
    obtain ⟨a', h3, h4⟩ := k_Clash.me "__eq__" (by decide +kernel)
    cases i_Clash_eq.symm.trans h3
    exact ⟨⟨_, fd_Clash_eq, F_Clash_eq, h3, h4, FunD.bindsN F_Clash_eq fun _ _ _ _ _ _ us hl => match us, hl with | [_, _], _ => rfl, I_Clash⟩⟩
  have b := FunD.bindsA (ps := ["_law_script"]) D_law.F fun _ _ _ _ _ _ us hl => match us, hl with | [_], _ => rfl
  exact ⟨D_law.fd, fun s v => b s [v] rfl, fun base _ _ => by
    have G_is_whole := ok_is_whole (P := P) (w := w) (base := base) D_is_whole T
    have G_is_sequence := ok_is_sequence (P := P) (w := w) (base := base) D_is_sequence T
    have G_is_couple := ok_is_couple (P := P) (w := w) (base := base) D_is_couple D_is_sequence G_is_sequence T
    have G_is_state := ok_is_state (P := P) (w := w) (base := base) D_is_state D_is_whole G_is_whole T
    have G_is_deed := ok_is_deed (P := P) (w := w) (base := base) D_is_deed D_is_state G_is_state D_is_sequence G_is_sequence T
    have G_is_goals := ok_is_goals (P := P) (w := w) (base := base) D_is_goals D_is_state G_is_state D_is_sequence G_is_sequence T
    have G_is_ends := ok_is_ends (P := P) (w := w) (base := base) D_is_ends D_is_goals G_is_goals D_is_state G_is_state D_is_couple G_is_couple T
    have G_is_side := ok_is_side (P := P) (w := w) (base := base) D_is_side D_is_whole G_is_whole D_is_sequence G_is_sequence T
    have G_is_row := ok_is_row (P := P) (w := w) (base := base) D_is_row D_is_side G_is_side D_is_couple G_is_couple T
    have G_sign_stands := ok_sign_stands (P := P) (w := w) (base := base) D_sign_stands T
    have G_Book := ok_Book_init (P := P) (w := w) (base := base) C_Book D_sign_stands G_sign_stands D_is_row G_is_row D_is_sequence G_is_sequence D_is_ends G_is_ends D_is_deed G_is_deed D_is_whole G_is_whole T
    have G_Clash := ok_Clash_init (P := P) (w := w) (base := base) C_Clash
    have G_Book_eq := ok_Book_eq (P := P) (w := w) (base := base) C_Book Q_Book T
    have G_Clash_eq := ok_Clash_eq (P := P) (w := w) (base := base) C_Clash Q_Clash T
    have G_clash_word := ok_clash_word (P := P) (w := w) (base := base) D_clash_word T
    have G_stripped := ok_stripped (P := P) (w := w) (base := base) D_stripped T
    have G_tidy_rows := ok_tidy_rows (P := P) (w := w) (base := base) D_tidy_rows C_Clash G_Clash D_clash_word G_clash_word D_stripped G_stripped T
    have G_tidy := ok_tidy (P := P) (w := w) (base := base) C_Clash D_tidy C_Book G_Book D_tidy_rows G_tidy_rows T I_Clash L_Clash
    have G__law_source := ok__law_source (P := P) (w := w) (base := base) D__law_source TS
    have G__law_take := ok__law_take (P := P) (w := w) (base := base) D__law_take TS
    have G__law_pick := ok__law_pick (P := P) (w := w) (base := base) D__law_pick D__law_take TS
    have G__law_moves := ok__law_moves (P := P) (w := w) (base := base) D__law_moves D__law_take G__law_take T
    have G__law_deed := ok__law_deed (P := P) (w := w) (base := base) D__law_deed T
    have G__law_lots := ok__law_lots (P := P) (w := w) (base := base) D__law_lots D__law_deed G__law_deed D__law_take G__law_take T
    have G__law_side := ok__law_side (P := P) (w := w) (base := base) D__law_side D__law_take G__law_take T
    have G__law_end_states := ok__law_end_states (P := P) (w := w) (base := base) D__law_end_states D__law_take G__law_take T
    have G__law_texts := ok__law_texts (P := P) (w := w) (base := base) D__law_texts T
    have G__law_after := ok__law_after (P := P) (w := w) (base := base) D__law_after T
    have G__law_text_deed := ok__law_text_deed (P := P) (w := w) (base := base) D__law_text_deed D__law_after G__law_after T
    have G__law_fits := ok__law_fits (P := P) (w := w) (base := base) D__law_fits D__law_text_deed G__law_text_deed T
    have G__law_filled := ok__law_filled (P := P) (w := w) (base := base) D__law_filled T
    have G__law_rows_hold := ok__law_rows_hold (P := P) (w := w) (base := base) D__law_rows_hold D__law_filled G__law_filled T
    have G__law_fillings := ok__law_fillings (P := P) (w := w) (base := base) D__law_fillings D__law_rows_hold G__law_rows_hold D__law_texts G__law_texts D__law_fits G__law_fits T
    have G__law_strip := ok__law_strip (P := P) (w := w) (base := base) D__law_strip T
    have G__law_tidy := ok__law_tidy (P := P) (w := w) (base := base) D__law_tidy D__law_strip G__law_strip T
    have G__law_cut_row := ok__law_cut_row (P := P) (w := w) (base := base) D__law_cut_row D__law_take G__law_take D__law_pick G__law_pick D__law_filled G__law_filled D__law_side G__law_side T
    have G__law_draw_rows := ok__law_draw_rows (P := P) (w := w) (base := base) D__law_draw_rows D__law_take G__law_take D__law_cut_row G__law_cut_row D__law_side G__law_side T
    have G__law_same_tidy := ok__law_same_tidy (P := P) (w := w) (base := base) D__law_same_tidy C_Book Q_Book G_Book_eq C_Clash G_Clash Q_Clash G_Clash_eq D__law_tidy G__law_tidy D_tidy G_tidy T
    have G_law := ok_law (P := P) (w := w) (base := base) D_law C_Book G_Book C_Clash I_Book I_Clash X_BC D__law_fillings G__law_fillings D__law_lots G__law_lots D__law_same_tidy G__law_same_tidy D_tidy G_tidy D__law_draw_rows G__law_draw_rows D__law_pick G__law_pick D__law_texts G__law_texts D__law_end_states G__law_end_states D__law_moves G__law_moves D__law_take G__law_take D__law_source G__law_source T
    exact G_law⟩
end
end My
open PySem PySem.W PySem.Calls PyProof.Rows
set_option maxRecDepth 100000 in
set_option maxHeartbeats 0 in
theorem PySem.Challenge.cw_pressedwords_k03_whole_tidy_keeps_all_fi_holds : PySem.Challenge.rw_pressedwords_k03_whole_tidy_keeps_all_fi.Holds := by
  w_on; o_law
  refine HandSHeadRun.head_any (r := OpenLaw.row PySem.Challenge.rw_pressedwords_k03_whole_tidy_keeps_all_fi) (q := view (OpenLaw.row PySem.Challenge.rw_pressedwords_k03_whole_tidy_keeps_all_fi).prog [43]) (H := My.hk) (ob := My.ob) (M := 12500) (loose := My.loose) (d := HandSHeadRun.topDef (OpenLaw.row PySem.Challenge.rw_pressedwords_k03_whole_tidy_keeps_all_fi).prog 43) (kwd := []) My.ob_eq
    (by kernel_rfl) (fun s => by kernel_rfl) My.run (by kernel_rfl) (by kernel_rfl) (by kernel_rfl) (by rfl) (by first | assumption | decide +kernel) (by decide +kernel) ⟨rfl, rfl, rfl, rfl, rfl, by decide +kernel⟩ ?hw ?hc
  case hw => w_witness2
  case hc =>
    refine L2.walk_ofE (l := PySem.Challenge.rw_pressedwords_k03_whole_tidy_keeps_all_fi) (n := 63) (k := 9) (x := "_law_script") (CX := L2.CX0) rfl (by decide) (by kernel_rfl) ⟨rfl, by decide, by decide⟩ ?F (fun _ _ _ _ z => z)
    intro w mg fa h Y G hmg0
    obtain ⟨K, KX, c⟩ := Y
    have hmg : mg ("law" : PySem.Str) = some (.ref fa) := by
      have e : (HandSHeadRun.topDef (OpenLaw.row PySem.Challenge.rw_pressedwords_k03_whole_tidy_keeps_all_fi).prog 43).name = ("law" : PySem.Str) := by kernel_rfl
      rw [← e]
      exact hmg0
    obtain ⟨fd, hb, hF⟩ := My.law_fn (P := (PySem.Challenge.rw_pressedwords_k03_whole_tidy_keeps_all_fi).prog) (w := w) KX G c hmg
    exact ⟨K, fd, My.sp_law K, KX, hb, fun H a ns hl _ hS => ⟨a, ns, rfl, hS, fun _ => rfl⟩, hF⟩
