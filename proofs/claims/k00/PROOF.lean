import PyProof.Rows.All
import Wide.All
import OpenK.AllK
import Wide.FinOn
import HandS.Base
import HandS.Call
import HandS.List
import HandS.Ends
import HandS.Words
import HandS.WordsList
import HandS.Wide
import HandS.Codes
import HandS.Defaults
import PyProof.EqAt
import PyProof.EqKinds
import PyProof.TupleCall
import KE.KExcIs
import HandS.Exc
import HandS.ExcOwn
import HandS.ExcInit
import HandS.ExcValue
import HandS.ExcIs
import HandS.IsInst
import KE.KStateDown
import HandS.Head0
import HandS.Head1
import HandS.Head2
import HandS.HeadEnd
import HandS.HeadHook1
import HandS.HeadHook2
import HandS.Comp
import HandS.Iter
import HandS.Text
import HandS.Steps
import PySem.Challenge.RW_pressedwords_k00_errors_side_by_side
set_option Elab.async false
set_option linter.all false
set_option maxRecDepth 100000
set_option maxHeartbeats 4000000
namespace My
open PySem L2
def topS (i : Nat) : Stmt := PySem.Challenge.pw_pressedwords_k00_errors_side_by_side.main.body.getD i (.Pass ⟨0, 0, 0, 0⟩)
abbrev sSource : Stmt := topS 50
abbrev sTake : Stmt := topS 51
abbrev sPick : Stmt := topS 52
abbrev sText : Stmt := topS 53
abbrev sThing : Stmt := topS 54
/-- a def of the module, without defaults -/
abbrev FnP (K : PySem.W.Frag) (x : Str) (st : Stmt) (f : Addr) (fd : FuncData) : Prop := FunD K x x (defArgs st) (defBody st) (defScope st) [] [] f fd
section
variable {P : Program} {w : World} {K : PySem.W.Frag} {mg : Str → Option Value} {base : Heap}
theorem ok0 {x qual : Str} {params : Arguments} {body : List Stmt} {scope : Scope} {dvs : List V} {kws : List (Str × V)} {f : Addr} {fd : FuncData} {N ps : List Str} {k : Nat} {sp : Sp} (F : FunD K x qual params body scope dvs kws f fd) (S : FnScope N ps scope) (len : ∀ vs H Q E, sp vs H Q E → vs.length = ps.length)
    (hbody : ∀ (cdv : Value) (A : Around) (outer : List Env) (s : Shared) (H : Hp) (vs : List V) (Q : VK) (E : XK), Room k (A.deeper (PyProof.Rows.envOfC qual scope s.heap.objs.size f cdv)) → sp vs H Q E →
      ∃ t, PSs (cxOf CX0 P w K mg base N qual scope f cdv A outer s H E).nox body t ∧ t { nx := fun _ H' => Q .non H', rt := Q } (start N vs) H) : FnOk P w K mg base CX0 (k + 1) f fd ps sp := by
  refine F.ok S len fun cdv A outer s H vs Q E hr hsp => ?_
  obtain ⟨t, h, q⟩ := hbody cdv A outer s H vs Q E hr hsp
  exact ⟨t, h.nox, q⟩
end
/-! ### the source of draws -/
/-- the numbers of a source are in order -/
structure SrcOk (p h m : Int) : Prop where
  p0 : 0 ≤ p
  h0 : 0 ≤ h
  m0 : 0 ≤ m
  m1 : m < 2147483647
def srcO (L : Addr) (p h m : Int) : HO := .lst [.ref L, .int p, .int h, .int m]
/-- at a a source stands, over the ints ns at L -/
structure SrcAt (H : Hp) (a L : Addr) (ns : List Int) (p h m : Int) : Prop where
  ok : SrcOk p h m
  at_ : H a = some (srcO L p h m)
  ls : H L = some (.lst (ns.map V.int))
  ne : L ≠ a
def Src (H : Hp) (a L : Addr) (ns : List Int) : Prop := ∃ p h m, SrcAt H a L ns p h m
/-- all that was tracked beside the source stands, and the source stands -/
structure Kp (a L : Addr) (ns : List Int) (H H' : Hp) : Prop where
  keep : ∀ b o, b ≠ a → H b = some o → H' b = some o
  src : Src H' a L ns
theorem Kp.refl {a L : Addr} {ns : List Int} {H : Hp} (s : Src H a L ns) : Kp a L ns H H := ⟨fun _ _ _ h => h, s⟩
theorem Kp.trans {a L : Addr} {ns : List Int} {H H1 H2 : Hp} (x : Kp a L ns H H1) (y : Kp a L ns H1 H2) : Kp a L ns H H2 := ⟨fun b o n h => y.keep b o n (x.keep b o n h), y.src⟩
theorem Src.ne {a L : Addr} {ns : List Int} {H : Hp} {p : Addr} (s : Src H a L ns) (h : H p = none) : a ≠ p := by
  obtain ⟨_, _, _, q⟩ := s
  exact ne_of_none q.at_ h
theorem Src.kept {a L : Addr} {ns : List Int} {H H' : Hp} (s : Src H a L ns) (k : ∀ b o, H b = some o → H' b = some o) : Src H' a L ns := by
  obtain ⟨p, h, m, q⟩ := s
  exact ⟨p, h, m, q.ok, k _ _ q.at_, k _ _ q.ls, q.ne⟩
theorem Kp.same {a L : Addr} {ns : List Int} {H H' : Hp} (s : Src H a L ns) (k : ∀ b o, H b = some o → H' b = some o) : Kp a L ns H H' := ⟨fun b o _ h => k b o h, s.kept k⟩
theorem same_new {H : Hp} {p : Addr} {o : HO} (h : H p = none) : ∀ b u, H b = some u → upd H p o b = some u := fun b u e => by
  rw [upd_ne (ne_of_none e h)]
  exact e
theorem Kp.new {a L : Addr} {ns : List Int} {H : Hp} {p : Addr} {o : HO} (s : Src H a L ns) (h : H p = none) : Kp a L ns H (upd H p o) := Kp.same s (same_new h)
theorem Kp.upd {a L : Addr} {ns : List Int} {H : Hp} {p h m p' h' m' : Int} (S : SrcAt H a L ns p h m) (ok : SrcOk p' h' m') : Kp a L ns H (upd H a (srcO L p' h' m')) :=
  ⟨fun b o n e => by rw [upd_ne n]; exact e, p', h', m', ok, upd_same, by rw [upd_ne S.ne]; exact S.ls, S.ne⟩
/-- a tuple stands -/
theorem Kp.tup {a L : Addr} {ns : List Int} {H H' : Hp} {t : Addr} {xs : List V} (s : Src H a L ns) (k : Kp a L ns H H') (h : H t = some (.tup xs)) : H' t = some (.tup xs) := by
  obtain ⟨p, hh, m, q⟩ := s
  exact k.keep t _ (ne_of h q.at_ (by intro z; cases z)) h
/-- the promise of _law_take: some number below many, and only the source has changed -/
def spTake : Sp := fun vs H Q _ => ∃ (a L : Addr) (ns : List Int) (many : Int), vs = [.ref a, .int many] ∧ Src H a L ns ∧ 0 < many ∧ many < 2 ^ 200 ∧
  ∀ (r : Int) (H' : Hp), 0 ≤ r → r < many → Kp a L ns H H' → Q (.int r) H'
structure TxtS (mg : Str → Option Value) : Prop where
  len : mg "len" = none
  int : mg "int" = none
  list : mg "list" = none
section
variable {P : Program} {w : World} {K : PySem.W.Frag} {mg : Str → Option Value} {base : Heap}
theorem scT : FnScope ["_law_source_here", "_law_many", "_law_cell", "_law_mixed", "_law_told"] ["_law_source_here", "_law_many"] (defScope sTake) :=
  ⟨rfl, rfl, rfl, by decide +kernel, rfl, by decide +kernel, by decide +kernel⟩
theorem at0 {a b c d : V} : atI [a, b, c, d] 0 = some a := rfl
theorem at1 {a b c d : V} : atI [a, b, c, d] 1 = some b := rfl
theorem at2 {a b c d : V} : atI [a, b, c, d] 2 = some c := rfl
theorem at3 {a b c d : V} : atI [a, b, c, d] 3 = some d := rfl
theorem atI_int {ns : List Int} {p : Int} (h0 : 0 ≤ p) (h1 : p < (ns.length : Int)) : ∃ z, atI (ns.map V.int) p = some (.int z) := by
  obtain ⟨j, rfl⟩ : ∃ j : Nat, p = (j : Int) := ⟨p.toNat, by omega⟩
  have hj : j < ns.length := by omega
  exact ⟨ns[j], atI_nat (by simp [List.getElem?_map, hj])⟩
theorem pow200 {x many : Int} (h0 : 0 < many) (h1 : many < 2 ^ 200) : CDivW x many := by
  refine wide_div (b := 200) h0 ?_ (by decide) (by decide)
  have e : ((2 : Int) ^ 200) = ((2 ^ 200 : Nat) : Int) := by norm_cast
  omega
theorem ok_take {f : Addr} {fd : FuncData} (F : FnP K "_law_take" sTake f fd) (T : TxtS mg) : FnOk P w K mg base CX0 1 f fd ["_law_source_here", "_law_many"] spTake := by
  refine ok0 F scT (fun vs H Q E h => ?_) (fun cdv A outer s H vs Q E hr h => ?_)
  · obtain ⟨a, L, ns, many, rfl, _⟩ := h
    rfl
  · obtain ⟨a, L, ns, many, rfl, ⟨p, hh, m, S⟩, hm0, hm1, k0⟩ := h
    have k : ∀ (r p' h' m' : Int), 0 ≤ r → r < many → SrcOk p' h' m' → Q (.int r) (upd H a (srcO L p' h' m')) := fun r p' h' m' r0 r1 ok => k0 r _ r0 r1 (Kp.upd S ok)
    have hA := S.at_
    have hL := S.ls
    have nLa := S.ne
    have hma := hm1
    refine ⟨_, C8.pss_cut (ps_if (pt_cmpR op_eq (pe_ix ix_list (pv 0) pe_int (fun _ _ => rfl)) pe_int (nomark _))
        (pss_cons (ps_set (i := 2) scT.nd rfl (Or.inl rfl) pe_int)
        (C8.pss_cut (ps_if (pt_cmpR op_lt (pe_ix ix_list (pv 0) pe_int (fun _ _ => rfl)) (pe_callB call_len_seq (by rfl) T.len PySem.boot_len (pa_cons (pe_ix ix_list (pv 0) pe_int (fun _ _ => rfl)) pa_nil)) (nomark _))
          (pss_one (ps_set (i := 2) scT.nd rfl (Or.inl rfl) (pe_ix ix_list (pe_ix ix_list (pv 0) pe_int (fun _ _ => rfl)) (pe_ix ix_list (pv 0) pe_int (fun _ _ => rfl)) (fun _ _ => rfl)))) pss_nil)
        (pss_cons (ps_asg (pe_op op_add (pe_ix ix_list (pv 0) pe_int (fun _ _ => rfl)) pe_int) (pg_sub (pv 0) pe_int set_list))
        (pss_one (ps_if (pt_cmpR op_ge (pv 2) (pe_op op_pow pe_int pe_int) (nomark _))
          (pss_one (ps_asg (pv 2) (pg_sub (pv 0) pe_int set_list)))
          (pss_cons (ps_set (i := 3) scT.nd rfl (Or.inl rfl) (pe_op op_mod (pe_callTy call_int1 (by rfl) T.int PyProof.Rows.boot_int (pa_cons (pe_op op_add (pe_op op_add (pe_op op_add (pe_op op_mul (pe_ix ix_list (pv 0) pe_int (fun _ _ => rfl)) pe_int) (pe_op op_mul (pe_op op_mod (pe_callTy call_int1 (by rfl) T.int PyProof.Rows.boot_int (pa_cons (pv 2) pa_nil)) pe_int) pe_int)) (pe_op op_mul (pe_ix ix_list (pv 0) pe_int (fun _ _ => rfl)) pe_int)) pe_int) pa_nil)) pe_int))
          (pss_cons (ps_set (i := 3) scT.nd rfl (Or.inl rfl) (pe_op op_mod (pe_callTy call_int1 (by rfl) T.int PyProof.Rows.boot_int (pa_cons (pe_op op_add (pe_op op_add (pe_op op_mul (pv 3) (pv 3)) (pe_op op_mul (pe_ix ix_list (pv 0) pe_int (fun _ _ => rfl)) pe_int)) pe_int) pa_nil)) pe_int))
          (pss_cons (ps_asg (pv 3) (pg_sub (pv 0) pe_int set_list))
          (pss_one (ps_ret (pe_op op_mod (pe_op op_fdiv (pv 3) pe_int) (pv 1))))))))))))
        pss_nil)
      (pss_cons (ps_set (i := 4) scT.nd rfl (Or.inl rfl) (pe_op op_mod (pe_callTy call_int1 (by rfl) T.int PyProof.Rows.boot_int (pa_cons (pe_ix ix_list (pv 0) pe_int (fun _ _ => rfl)) pa_nil)) (pv 1)))
      (pss_cons (ps_asg (pe_op op_fdivW (pe_ix ix_list (pv 0) pe_int (fun _ _ => rfl)) (pv 1)) (pg_sub (pv 0) pe_int set_list))
      (pss_one (ps_ret (pv 4))))), ?_⟩
    refine ⟨fun σ' H' => ∃ (σ2 σ3 σ4 : Option V) (p1 h1 m1 : Int), σ' = [some (.ref a), some (.int many), σ2, σ3, σ4] ∧ H' = upd H a (srcO L p1 h1 m1) ∧ SrcOk p1 h1 m1, ?_, ?_⟩
    · refine ⟨_, rfl, a, _, 2, _, rfl, rfl, SqL.of hA, rfl, rfl, _, rfl, ?_⟩
      refine ite2 (fun e0 => ?_) (fun e0 => ?_)
      · have h00 : hh = 0 := by simpa using e0
        refine ⟨fun σ' H' => ∃ c, σ' = [some (.ref a), some (.int many), some (.int c), none, none] ∧ H' = H, ?_, ?_⟩
        · refine ⟨_, rfl, a, _, 1, _, rfl, rfl, SqL.of hA, rfl, ?_⟩
          refine ⟨_, rfl, a, _, 0, _, rfl, rfl, SqL.of hA, rfl, L, _, rfl, .inl (SqL.of hL), _, _, rfl, rfl, _, rfl, ?_⟩
          refine ite2 (fun e1 => ?_) (fun e1 => ?_)
          · have hp : p < (ns.length : Int) := by
              have q := of_decide_eq_true e1
              rw [List.length_map] at q
              exact q
            obtain ⟨c, hc⟩ := atI_int S.ok.p0 hp
            exact ⟨_, rfl, a, _, 0, _, rfl, rfl, SqL.of hA, rfl, _, rfl, a, _, 1, _, rfl, rfl, SqL.of hA, rfl, L, _, p, _, rfl, rfl, SqL.of hL, hc, c, rfl, rfl⟩
          · exact ⟨0, rfl, rfl⟩
        · rintro σ' H' ⟨c, eσ, eH⟩
          rw [eσ, eH]
          refine ⟨_, rfl, a, _, 1, _, rfl, rfl, SqL.of hA, rfl, _, _, rfl, rfl, _, rfl, a, _, 1, 1, rfl, rfl, hA, rfl, ?_⟩
          have hB : upd H a (srcO L (p + 1) hh m) a = some (srcO L (p + 1) hh m) := upd_same
          refine ⟨_, rfl, _, _, rfl, rfl, ⟨by decide, by decide, by decide⟩, _, _, rfl, rfl, _, rfl, ?_⟩
          refine ite2 (fun e2 => ?_) (fun e2 => ?_)
          · have c18 : (10 : Int) ^ (18 : Nat) ≤ c := of_decide_eq_true e2
            refine ⟨_, rfl, _, rfl, a, _, 2, 2, rfl, rfl, hB, rfl, some (.int c), none, none, p + 1, c, m, rfl, ?_, ?_⟩
            · rw [upd_upd]
              rfl
            · exact ⟨by have := S.ok.p0; omega, by have : (0 : Int) ≤ 10 ^ (18 : Nat) := by decide
                                                   omega, S.ok.m0, S.ok.m1⟩
          · have bm : CMul m 69621 := .inr ⟨by decide, by decide⟩
            have bq : ∀ x : Int, CMul x 48271 := fun x => .inr ⟨by decide, by decide⟩
            have bp : ∀ x : Int, CMul x 7919 := fun x => .inr ⟨by decide, by decide⟩
            have bw : ∀ x : Int, CMul x 104729 := fun x => .inr ⟨by decide, by decide⟩
            -- mixed = int(..) % 2147483647
            refine ⟨_, rfl, a, _, 3, _, rfl, rfl, SqL.of hB, rfl, _, _, rfl, rfl, bm, ?_⟩
            refine ⟨_, rfl, .inl ⟨_, rfl, _, _, rfl, rfl, (by show (0 : Int) < 2147483629; decide), _, _, rfl, rfl, bq _, _, _, rfl, rfl, ?_⟩⟩
            refine ⟨_, rfl, a, _, 1, _, rfl, rfl, SqL.of hB, rfl, _, _, rfl, rfl, bp _, _, _, rfl, rfl, _, _, rfl, rfl, .inl ⟨_, rfl, _, _, rfl, rfl, (by show (0 : Int) < 2147483647; decide), ?_⟩⟩
            obtain ⟨x, hx⟩ : ∃ x, x = (m * 69621 + c % 2147483629 * 48271 + (p + 1) * 7919 + 1) % 2147483647 := ⟨_, rfl⟩
            have x0 : 0 ≤ x := by rw [hx]; exact Int.emod_nonneg _ (by decide)
            have x1 : x < 2147483647 := by rw [hx]; exact Int.emod_lt_of_pos _ (by decide)
            show tSeq _ _ _ [some (.ref a), some (.int many), some (.int c), some (.int ((m * 69621 + c % 2147483629 * 48271 + (p + 1) * 7919 + 1) % 2147483647)), none] _
            rw [← hx]
            refine ⟨_, rfl, _, rfl, _, _, rfl, rfl, .inl ⟨by omega, by omega⟩, ?_⟩
            refine ⟨_, rfl, a, _, 1, _, rfl, rfl, SqL.of hB, rfl, _, _, rfl, rfl, bw _, _, _, rfl, rfl, _, _, rfl, rfl, .inl ⟨_, rfl, _, _, rfl, rfl, (by show (0 : Int) < 2147483629; decide), ?_⟩⟩
            obtain ⟨y, hy⟩ : ∃ y, y = (x * x + (p + 1) * 104729 + 13) % 2147483629 := ⟨_, rfl⟩
            have y0 : 0 ≤ y := by rw [hy]; exact Int.emod_nonneg _ (by decide)
            have y1 : y < 2147483629 := by rw [hy]; exact Int.emod_lt_of_pos _ (by decide)
            show tSeq _ _ _ [some (.ref a), some (.int many), some (.int c), some (.int ((x * x + (p + 1) * 104729 + 13) % 2147483629)), none] _
            rw [← hy]
            refine ⟨_, rfl, _, rfl, a, _, 3, 3, rfl, rfl, hB, rfl, ?_⟩
            refine ⟨_, rfl, _, _, rfl, rfl, ⟨by decide, by decide⟩, _, rfl, _, _, rfl, rfl, hm0, ?_⟩
            rw [upd_upd]
            exact k _ (p + 1) hh y (Int.emod_nonneg _ (by omega)) (Int.emod_lt_of_pos _ hm0) ⟨by have := S.ok.p0; omega, S.ok.h0, y0, by omega⟩
      · refine ⟨none, none, none, p, hh, m, rfl, ?_, S.ok⟩
        funext b
        by_cases hb : b = a
        · rw [hb, upd_same, hA]
        · rw [upd_ne hb]
    · rintro σ' H' ⟨σ2, σ3, σ4, p1, h1, m1, eσ, eH, ok⟩
      rw [eσ, eH]
      have hA' : upd H a (srcO L p1 h1 m1) a = some (srcO L p1 h1 m1) := upd_same
      refine ⟨_, rfl, a, _, 2, _, rfl, rfl, SqL.of hA', rfl, .inl ⟨_, rfl, _, rfl, _, _, rfl, rfl, hm0, ?_⟩⟩
      refine ⟨_, rfl, a, _, 2, _, rfl, rfl, SqL.of hA', rfl, _, rfl, _, _, rfl, rfl, pow200 (x := h1) hm0 hm1, _, rfl, ?_⟩
      refine ⟨a, _, 2, 2, rfl, rfl, hA', rfl, ?_⟩
      refine ⟨_, rfl, ?_⟩
      rw [upd_upd]
      exact k _ _ _ _ (Int.emod_nonneg _ (by omega)) (Int.emod_lt_of_pos _ hm0) ⟨ok.p0, Int.ediv_nonneg ok.h0 (by omega), ok.m0, ok.m1⟩
/-! ### _law_source -/
def spSource (K : PySem.W.Frag) : Sp := fun vs H Q _ => ∃ (a : Addr) (ns : List Int), vs = [.ref a] ∧ SqL K H a (ns.map V.int) ∧ ∀ (p L : Addr) (H' : Hp), Same H H' → H p = none → Src H' p L ns → Q (.ref p) H'
theorem scSo : FnScope ["_law_script"] ["_law_script"] (defScope sSource) := ⟨rfl, rfl, rfl, by decide +kernel, rfl, by decide +kernel, by decide +kernel⟩
theorem ok_source {f : Addr} {fd : FuncData} (F : FnP K "_law_source" sSource f fd) (T : TxtS mg) : FnOk P w K mg base CX0 1 f fd ["_law_script"] (spSource K) := by
  refine ok0 F scSo (fun vs H Q E h => ?_) (fun cdv A outer s H vs Q E hr h => ?_)
  · obtain ⟨a, ns, rfl, _⟩ := h
    rfl
  · obtain ⟨a, ns, rfl, hS, k⟩ := h
    refine ⟨_, pss_one (ps_ret (pe_lst (pa_cons (pe_callTy call_list_of (by rfl) T.list (by decide +kernel) (pa_cons (pv 0) pa_nil)) (pa_cons pe_int (pa_cons pe_int (pa_cons pe_int pa_nil)))))), ?_⟩
    refine ⟨_, rfl, a, _, rfl, .inl hS, fun l hl => ⟨(by show 4 ≤ sizeLine; decide), fun p hp => ?_⟩⟩
    have nlp : l ≠ p := fun z => by
      rw [z, upd_same] at hp
      cases hp
    have hp0 : H p = none := by
      rw [upd_ne (Ne.symm nlp)] at hp
      exact hp
    refine k p l _ (fun b o e => ?_) hp0 ⟨0, 0, 1, ⟨by decide, by decide, by decide, by decide⟩, upd_same, ?_, nlp⟩
    · rw [upd_ne (ne_of_none e hp0), upd_ne (ne_of_none e hl)]
      exact e
    · rw [upd_ne nlp, upd_same]
/-! ### _law_pick, of a list -/
def spPick (K : PySem.W.Frag) : Sp := fun vs H Q _ => ∃ (a L t : Addr) (ns : List Int) (xs : List V), vs = [.ref a, .ref t] ∧ Src H a L ns ∧ H t = some (.lst xs) ∧ t ≠ a ∧ xs ≠ [] ∧ xs.length < 1000 ∧
  ∀ (x : V) (H' : Hp), x ∈ xs → Kp a L ns H H' → Q x H'
theorem scP : FnScope ["_law_source_here", "_law_things"] ["_law_source_here", "_law_things"] (defScope sPick) := ⟨rfl, rfl, rfl, by decide +kernel, rfl, by decide +kernel, by decide +kernel⟩
theorem ok_pick {f fT : Addr} {fd fdT : FuncData} (F : FnP K "_law_pick" sPick f fd) (FT : FnP K "_law_take" sTake fT fdT) (T : TxtS mg) (mT : mg "_law_take" = some (.ref fT)) (bT : Binds K fdT ["_law_source_here", "_law_many"] []) :
    FnOk P w K mg base CX0 2 f fd ["_law_source_here", "_law_things"] (spPick K) := by
  have GT : FnOk P w K mg base CX0 1 fT fdT ["_law_source_here", "_law_many"] spTake := ok_take FT T
  refine ok0 F scP (fun vs H Q E h => ?_) (fun cdv A outer s H vs Q E hr h => ?_)
  · obtain ⟨a, L, t, ns, xs, rfl, _⟩ := h
    rfl
  · obtain ⟨a, L, t, ns, xs, rfl, S, hT, nta, hne, hlen, k⟩ := h
    refine ⟨_, pss_one (ps_ret (pe_ix ix_list (pv 1) (pe_call GT hr (by rfl) mT FT.kp bT .nil pass0 (pa_cons (pv 0) (pa_cons (pe_callB call_len_seq (by rfl) T.len PySem.boot_len (pa_cons (pv 1) pa_nil)) pa_nil))) (fun _ _ => rfl))), ?_⟩
    refine ⟨_, rfl, _, rfl, _, rfl, t, _, rfl, .inl (SqL.of hT), a, L, ns, _, rfl, S, ?_, ?_, fun r H' r0 r1 kp => ?_⟩
    · have : 0 < xs.length := List.length_pos_iff.mpr hne
      omega
    · have e : (1000 : Int) < 2 ^ 200 := by decide +kernel
      omega
    · obtain ⟨j, rfl⟩ : ∃ j : Nat, r = (j : Int) := ⟨r.toNat, by omega⟩
      have hj : j < xs.length := by omega
      exact ⟨t, xs, _, xs[j], rfl, rfl, SqL.of (kp.keep t _ nta hT), atI_nat (by simp [hj]), k _ _ (List.getElem_mem hj) kp⟩
end
end My
set_option maxHeartbeats 4000000
/-! exceptions as values: made, their fields read, isinstance of them -/
namespace L2
open PySem PySem.Spec PyProof.Rows
section
variable {X : Cx} {o e : Expr} {es : List Expr} {to te : TE} {ta : TA} {f : Str} {p p' p1 p2 pos : Pos}
/-- C(e, ..) as a value, C's own __init__ keeping sp -/
def tMkOV (C : Addr) (sp : Sp) (dvs : List V) (ta : TA) : TE := fun σ H Q => ta σ H fun vs H1 => vs.length ≤ 1000 ∧ ∀ a, H1 a = none → sp (.ref a :: (vs ++ dvs)) (upd H1 a (exo a C none)) (fun v H2 => v = .non ∧ Q (.ref a) H2) (fun _ _ _ => False)
theorem pe_oexV {CX : CXT} {x : Str} {C fI : Addr} {k : Nat} {fd : FuncData} {ps : List Str} {sp : Sp} {ds : List Value} {dvs : List V} (T : OexC X.K C) (iC : PySem.W.findIn X.K (.ref C) "__init__" = some (some (.ref fI))) (tI : PySem.W.typeIn X.K (.ref fI) = some (.type "function"))
    (F1 : FnOk X.prog X.w X.K X.mg X.base CX k fI fd ps sp) (hr : Room (k + 1) X.A) (hb : Binds X.K fd ps ds) (hd : Vals dvs ds) (hx : Passes CX X (fun _ _ _ => False)) (hg : Gl X x) (hm : X.mg x = some (.ref C)) (ha : PA X (e :: es) ta)
    (hdb : (x == ("__debug__" : Str)) = false := by decide) (he : starEach (e :: es) X.env = (false, eval e X.env) :: starEach es X.env := by rfl) (hpl : (backTo pos (starEach es X.env)).any (·.1) = false := by rfl) :
    PE X (.Call (.Name x p) (e :: es) [] pos) (tMkOV C sp dvs ta) := by
  refine ⟨fun pins s σ H Q I h => ?_⟩
  obtain ⟨nm, q, N, bs, bm, sn, sub, ab, col, dd, k0, k1, k2, k3, k5, hC, hbm⟩ := T.cls
  refine wpAny_Call_Name_kw (ld_glob I hg hm ?_ hdb)
  refine PySem.W.callWith_K (h₀ := X.base) I.ok.mod.kin T.kC (thn (ha.run pos pins s σ H _ I h) fun us s1 ⟨vs, H1, I1, r1, hz, q1⟩ => ⟨I1.kIn, ?_⟩) he hpl
  show wpAny _ _ (call (.ref C) us) _ _ _
  obtain ⟨hp, g, dr, tk, os⟩ := s1
  have hsz : hp.objs.size ≤ hp.objs.size + 1 := Nat.le_succ _
  have hn : H1 (hp.objs.size + 1) = none := I1.hok.fresh hsz
  have hq := q1 (hp.objs.size + 1) hn
  have kk : ∀ b o, hp.get? b = some o → ((hp.push (PySem.W.kdv_tup us)).push (PySem.HandSPX.excO C hp.objs.size)).get? b = some o := fun b o e => Heap.get?_push_of_some _ (Heap.get?_push_of_some _ e)
  have hget : ((hp.push (PySem.W.kdv_tup us)).push (PySem.HandSPX.excO C hp.objs.size)).get? (hp.objs.size + 1) = some (PySem.HandSPX.excO C hp.objs.size) := by heap_get
  have I2 : Inv X pins σ (upd H1 (hp.objs.size + 1) (exo (hp.objs.size + 1) C none)) ⟨(hp.push (PySem.W.kdv_tup us)).push (PySem.HandSPX.excO C hp.objs.size), g, dr, tk, os⟩ :=
    I1.laid (t' := tk) (a := hp.objs.size + 1) (o := exo (hp.objs.size + 1) C none) (h' := (hp.push (PySem.W.kdv_tup us)).push (PySem.HandSPX.excO C hp.objs.size)) kk hsz (exo_ok hget)
  have r2 : Vals (V.ref (hp.objs.size + 1) :: (vs ++ dvs)) (Value.ref (hp.objs.size + 1) :: (us ++ ds)) := .cons rfl (r1.append hd)
  have hl : (Value.ref (hp.objs.size + 1) :: us ++ ds).length = ps.length := by
    have e := r2.length
    rw [F1.len _ _ _ _ hq] at e
    exact e.symm
  have hus : us.length ≤ sizeLine := by
    rw [← Paired.length r1, sizeLine_eq]
    omega
  refine wpAny_call (PySem.HandSPX.call_own F.excBase_ValueError (fun Y => PySem.HandSPX.refsVE_contains Y bm hbm) (I1.kIn _ _ hC) (PySem.W.looks_findIn I1.kIn iC) (fun self => PySem.W.bind_fn I1.kIn self tI) hus
    (codeAny_mono (F1.run _ X.stack _ _ ⟨Value.ref (hp.objs.size + 1) :: us, []⟩ (Value.ref (hp.objs.size + 1) :: (us ++ ds)) _ _ (fun _ _ _ => False) (hr.make C us []) (I2.env0.make C us []) (hb _ (Value.ref (hp.objs.size + 1) :: us) I2.kIn hl) r2 hq) fun r s' hq' => ?_))
  cases r with
  | error er => exact hx pins σ _ _ er s' I2 hq'
  | ok fl =>
    cases fl with
    | ret u =>
      obtain ⟨v, H2, I3, rv, ev, q2⟩ := I2.after hq'
      subst ev
      exact ⟨rv, ⟨.ref (hp.objs.size + 1), H2, I3, rfl, q2⟩⟩
    | next => exact False.elim hq'
    | brk => exact False.elim hq'
    | cont => exact False.elim hq'
/-- C() as a value, an own exception class without own __init__ -/
def tMkE0 (C : Addr) : TE := fun _ H Q => ∀ a, H a = none → Q (.ref a) (upd H a (exo a C none))
theorem pe_exc0 {C : Addr} {bmB : List Value} {x : Str} {initId : String} (F : ExcBaseFacts "ValueError" "ValueError.__new__" initId bmB) (q : PySem.W.excIn X.K C bmB "ValueError.__new__" = true) (gC : X.mg x = some (.ref C)) (kC : PySem.W.keepIn X.K (.ref C) = true) (hg : Gl X x)
    (hdb : (x == ("__debug__" : Str)) = false := by decide) : PE X (.Call (.Name x p) [] [] pos) (tMkE0 C) := by
  refine ⟨fun pins s σ H Q I h => ?_⟩
  refine wpAny_Call_Name_kw (ld_glob I hg gC ?_ hdb)
  refine PySem.W.callWith_K0 I.kIn kC ?_
  show wpAny _ _ (call (.ref C) []) _ _ _
  obtain ⟨bm, N, nm, qn, bs, hdct, sn, sub, ab, col, dd, k0, k1, k2, k3, k5, mN, hC, hN, hni, T⟩ := exc_obj I.kIn q
  refine wpAny_call_exc_subT F T hC hN hni (fun h' a hm => ?_) (Nat.zero_le _)
  have hn : H a = none := I.hok.gone hm.new
  obtain ⟨t, ht, _, _⟩ := hm.there
  exact ⟨.ref a, upd H a (exo a C none), I.laidN hm.keeps hm.new hn (exo_ok ht), rfl, h a hn⟩
/-- e.f of an exception value -/
def tXFld (K : PySem.W.Frag) (f : Str) (te : TE) : TE := fun σ H Q => te σ H fun x H1 => ∃ (a C d : Addr) (fs : List (Str × V)) (v : V), x = .ref a ∧ H1 a = some (exo a C (some d)) ∧ H1 d = some (exd d fs) ∧ ExcC K C ∧ PySem.W.findIn K (.ref C) f = some none ∧ fs.lookup f = some v ∧ Q v H1
theorem pe_xfld {e : Expr} {te : TE} {pos : Pos} (he : PE X e te) (hb : attributeBase e f X.env (eval e X.env) = eval e X.env := by rfl) : PE X (.Attribute e f pos) (tXFld X.K f te) := by
  refine ⟨fun pins s σ H Q I h => ?_⟩
  refine attr_of hb (thn (he.run pins s σ H _ I h) fun u s1 hh => ?_)
  obtain ⟨x, H1, I1, rx, a, C, d, fs, v, ex, ha, hd, T, hno, hl, q⟩ := hh
  subst ex
  obtain rfl : u = Value.ref a := rx
  obtain ⟨t1, ho⟩ := exo_at I1.hok ha
  obtain ⟨mA, hns, hr⟩ := exd_at I1.hok hd
  obtain ⟨od, hod, hlk⟩ := lookIn_ns hns
  obtain ⟨u, hu, ru⟩ := RelO.some_of (v := v) (o := mA f) (by rw [← hl]; exact hr f)
  have J : PySem.W.InstAt s1.heap a { cls := .ref C, dict := some d, data := .fields #[.ref t1, .none, .none, .none, .bool false, .none] } C (some od) := ⟨ho, rfl, rfl, hod⟩
  exact HandSPX.exc_get I1.kIn J T.hg T.hk T.hs (PySem.W.findObj_own T.hd hno rfl (by rw [hlk, hu])) (handed_of ru) ⟨v, H1, I1.tok _, ru, q⟩
/-- isinstance(e, c) of an exception value -/
def rIsX (K : PySem.W.Frag) : List V → Hp → VK → Prop := fun xs H Q => ∃ (a C : Addr) (d : Option Addr) (c : V) (u : Value) (b : Bool), xs = [.ref a, c] ∧ ClsV c u ∧ H a = some (exo a C d) ∧ (∀ dd, d = some dd → ∃ fs, H dd = some (exd dd fs)) ∧ ExcC K C ∧ PySem.W.kitOne K (.ref C) u = some b ∧ Q (.bl b) H
theorem call_isX : CallR X (.builtin "isinstance") (rIsX X.K) := by
  intro pins s σ H xs us Q I r h
  obtain ⟨a, C, d, c, u, b, rfl, k, ha, hd, T, e, q⟩ := h
  obtain ⟨u1, u2, rfl, r1, r2⟩ := vals2 r
  have e2 := k.eq r2
  subst e2
  obtain rfl : u1 = Value.ref a := r1
  obtain ⟨t1, ho⟩ := exo_at I.hok ha
  have hcl : (PySem.W.clsIn X.K C).isSome = true := by
    obtain ⟨cd, hc, _⟩ := PySem.W.any_some T.hd
    rw [hc] <;> rfl
  cases d with
  | none =>
    have J : PySem.W.InstAt s.heap a { cls := .ref C, dict := none, data := .fields #[.ref t1, .none, .none, .none, .bool false, .none] } C none := ⟨ho, rfl, rfl, trivial⟩
    exact PySem.W.kia_one (PySem.W.kitx_exc hcl T.hg T.hk T.hs T.ha T.hn T.ht T.hm) I.kIn J e (fun z => nomatch z) fun tk => ⟨.bl b, H, I.tok tk, rfl, q⟩
  | some dd =>
    obtain ⟨fs, hdd⟩ := hd dd rfl
    obtain ⟨mA, hns, hr⟩ := exd_at I.hok hdd
    obtain ⟨od, hod, hlk⟩ := lookIn_ns hns
    have J : PySem.W.InstAt s.heap a { cls := .ref C, dict := some dd, data := .fields #[.ref t1, .none, .none, .none, .bool false, .none] } C (some od) := ⟨ho, rfl, rfl, hod⟩
    exact PySem.W.kia_one (PySem.W.kitx_exc hcl T.hg T.hk T.hs T.ha T.hn T.ht T.hm) I.kIn J e (fun z => nomatch z) fun tk => ⟨.bl b, H, I.tok tk, rfl, q⟩
end
end L2
set_option maxHeartbeats 4000000
/-! a Hook that looks at any Boolean of one's own -/
namespace Hm
open PySem PySem.Spec PyProof.Rows L2 He
def obsM (ck : PySem.W.Frag → Bool) (fn : List DefD) (K : PySem.W.Frag) : AlD := (ck K && fn.all fun d => d.ok K, fn.map fun d => fnW K d.at_)
def SaysM (ck : PySem.W.Frag → Bool) (fn : List DefD) (K : PySem.W.Frag) : Prop := obsM ck fn K = valD fn
def obsMG (n : Nat) (ck : PySem.W.Frag → Bool) (fn : List DefD) (g : Addr → Option Obj) : AlD := obsM ck fn (frG g (asD g n))
def hookM (n : Nat) (ck : PySem.W.Frag → Bool) (fn : List DefD) : PySem.W.Hook where
  α := AlD
  obs := fun s => obsMG n ck fn s.heap.get?
  val := fun _ => valD fn
  says := fun _ h => ∃ K : PySem.W.Frag, K.In h ∧ SaysM ck fn K
  of := fun _ _ e => ⟨_, frG_in, e⟩
  keeps := fun _ _ _ ⟨K, hK, c⟩ k => ⟨K, PySem.W.Frag.In.keeps hK k, c⟩
theorem obsMG_eq {n : Nat} {ck : PySem.W.Frag → Bool} {fn : List DefD} {g : Addr → Option Obj} {s : Shared} (h : ∀ a, g a = s.heap.get? a) : obsMG n ck fn g = (hookM n ck fn).obs s := by
  have e : g = s.heap.get? := funext h
  rw [e] <;> rfl
section
variable {ck : PySem.W.Frag → Bool} {fn : List DefD} {K : PySem.W.Frag}
theorem SaysM.ckT (c : SaysM ck fn K) : ck K = true :=
  (ba (show (ck K && fn.all fun d => d.ok K) = true from congrArg (fun z : AlD => z.1) c)).1
theorem SaysM.def_ (c : SaysM ck fn K) (i : Nat) {d : DefD} (h : fn[i]? = some d := by rfl) : ∃ fd, FunD K d.name d.qual d.params d.body d.scope (d.dvs K) (d.kws K) (fAd K d.at_) fd := by
  have c2 := (ba (show (ck K && fn.all fun d => d.ok K) = true from congrArg (fun z : AlD => z.1) c)).2
  have e : fn.map (fun d => fnW K d.at_) = fn.map DefD.val := congrArg (fun z : AlD => z.2) c
  have e2 : (fn.map fun d => fnW K d.at_)[i]? = (fn.map DefD.val)[i]? := by rw [e]
  rw [List.getElem?_map, List.getElem?_map, h] at e2
  exact DefD.funD (Option.some.inj e2) (List.all_eq_true.mp c2 d (List.mem_of_getElem? h))
end
/-! ### exception classes over ValueError, by an own base -/
def oexB (K : PySem.W.Frag) (C : Addr) (bm : List Value) : Bool := match K.lookup C with
  | some ⟨.type "type", _, .cls cd, sl⟩ => (match cd.mro, sl.toList with
    | .ref C' :: bm', [_, _, _, _, some (.builtin n), _] => decide (C' = C) && (decide (n = "ValueError.__new__") && (!cd.hasDel && (cd.hasDict && decide (bm' = bm))))
    | _, _ => false)
  | _ => false
theorem oexB_ok {K : PySem.W.Frag} {C : Addr} {bm : List Value} (q : oexB K C bm = true) :
    ∃ nm qn N bs sn sub ab col dd k0 k1 k2 k3 k5, K.lookup C = some (excClassObj nm qn C N bs bm true sn sub ab col dd k0 k1 k2 k3 k5 "ValueError.__new__") := by
  unfold oexB at q
  split at q
  · rename_i dd cd sl ho
    split at q
    · rename_i C' bm' k0 k1 k2 k3 n k5 hm hs
      simp only [Bool.and_eq_true, decide_eq_true_eq, Bool.not_eq_true'] at q
      obtain ⟨rfl, rfl, hdel, hdc, rfl⟩ := q
      obtain ⟨nm, bs, mro, ns, qn, hd, sn, sub, ab, col, del⟩ := cd
      dsimp only at hm hdel hdc
      subst hm hdel hdc
      have hsl : sl = #[k0, k1, k2, k3, some (.builtin "ValueError.__new__"), k5] := by
        obtain ⟨l⟩ := sl
        simp only at hs
        rw [hs]
      subst hsl
      exact ⟨nm, qn, ns, bs, sn, sub, ab, col, dd, k0, k1, k2, k3, k5, ho⟩
    · cases q
  · cases q
def excB (K : PySem.W.Frag) (C : Addr) (fs : List Str) : Bool :=
  eqO (PySem.W.findIn K (.ref C) "__setattr__") (some (some (.builtin "object.__setattr__"))) && (decide (PySem.W.subIn K (.ref C) (.type "BaseException") = some true) && (decide (PySem.W.typeIn K (.ref C) = some (.type "type")) && (PySem.W.keepIn K (.ref C) &&
  (eqO (PySem.W.findIn K (.ref C) "__getattribute__") (some (some (.builtin "BaseException.__getattribute__"))) && (eqO (PySem.W.findIn K (.ref C) "__getattr__") (some none) && (PySem.W.hasDictIn K C && (eqO (PySem.W.findIn K (.ref C) "__class__") (some (some (.builtin "object.__class__"))) &&
  (decide (PySem.W.mroIn K C (.type "object") = some true) && fs.all fun f => eqO (PySem.W.findIn K (.ref C) f) (some none)))))))))
def comB (K : PySem.W.Frag) : Bool := decide (PySem.W.specialIn K (.builtin "object.__class__") "__get__" = some (some (.builtin "getset_descriptor.__get__"))) && decide (PySem.W.takesIn K (.builtin "object.__class__") = some true)
/-- what is known of an exception class -/
structure XC (K : PySem.W.Frag) (C : Addr) (bm : List Value) (fs : List Str) : Prop where
  ox : OexC K C
  xc : ExcC K C
  cd : ∃ cd, PySem.W.clsIn K C = some cd ∧ cd.mro = .ref C :: bm
  no : ∀ f ∈ fs, PySem.W.findIn K (.ref C) f = some none
theorem xc_ok {K : PySem.W.Frag} {C : Addr} {bm : List Value} {fs : List Str} (c : comB K = true) (h1 : oexB K C bm = true) (h2 : excB K C fs = true) (hbm : PySem.HandSPX.refsVE bm = true) : XC K C bm fs := by
  obtain ⟨c1, c2⟩ := ba c
  obtain ⟨a1, h2⟩ := ba h2
  obtain ⟨a2, h2⟩ := ba h2
  obtain ⟨a3, h2⟩ := ba h2
  obtain ⟨a4, h2⟩ := ba h2
  obtain ⟨a5, h2⟩ := ba h2
  obtain ⟨a6, h2⟩ := ba h2
  obtain ⟨a7, h2⟩ := ba h2
  obtain ⟨a8, h2⟩ := ba h2
  obtain ⟨a9, a10⟩ := ba h2
  obtain ⟨nm, qn, N, bs, sn, sub, ab, col, dd, k0, k1, k2, k3, k5, hC⟩ := oexB_ok h1
  refine ⟨⟨⟨nm, qn, N, bs, bm, sn, sub, ab, col, dd, k0, k1, k2, k3, k5, hC, hbm⟩, eqO_ok a1, of_decide_eq_true a2, of_decide_eq_true a3, a4⟩, ⟨eqO_ok a5, eqO_ok a6, of_decide_eq_true a2, a7, eqO_ok a8, of_decide_eq_true c1, of_decide_eq_true c2, of_decide_eq_true a9⟩, ?_, fun f hf => eqO_ok (List.all_eq_true.mp a10 f hf)⟩
  refine ⟨{ name := nm, bases := bs, mro := .ref C :: bm, ns := N, qualname := qn, hasDict := true, slotNames := sn, subclasses := sub, abstract := ab, collection := col, hasDel := false }, ?_, rfl⟩
  unfold PySem.W.clsIn
  rw [hC] <;> rfl
/-- isinstance of an instance of C: of an own class D, of a built-in one -/
theorem kit_own {K : PySem.W.Frag} {C D : Addr} {bm bm' : List Value} {fs fs' : List Str} (x : XC K C bm fs) (y : XC K D bm' fs') : PySem.W.kitOne K (.ref C) (.ref D) = some (decide (C = D) || bm.contains (.ref D)) := by
  unfold PySem.W.kitOne
  by_cases e : C = D
  · subst e
    rw [if_pos (by simp)]
    simp
  · have ne : (Value.ref C == Value.ref D) = false := by simpa using e
    rw [ne, if_neg Bool.false_ne_true]
    obtain ⟨cd, hc, hm⟩ := x.cd
    obtain ⟨cd', hc', _⟩ := y.cd
    have e2 : ((PySem.W.clsIn K D).isSome && PySem.W.typeIn K (.ref D) == some (.type "type")) = true := by rw [hc', y.ox.tyC] <;> rfl
    show (if ((PySem.W.clsIn K D).isSome && PySem.W.typeIn K (.ref D) == some (.type "type")) = true then PySem.W.subIn K (.ref C) (.ref D) else none) = _
    rw [if_pos e2]
    show PySem.W.mroIn K C (.ref D) = _
    unfold PySem.W.mroIn
    rw [hc]
    show (if cd.mro.isEmpty = true then none else some (cd.mro.contains (.ref D))) = _
    rw [hm]
    have ne2 : (Value.ref D == Value.ref C) = false := by
      have : ¬ D = C := fun z => e z.symm
      simpa using this
    have ne3 : ¬ D = C := fun z => e z.symm
    simp [List.contains_cons, ne2, e, ne3]
theorem kit_bt {K : PySem.W.Frag} {C : Addr} {bm : List Value} {fs : List Str} {T : String} (x : XC K C bm fs) (hT : PySem.W.kitMeta T = true) : PySem.W.kitOne K (.ref C) (.type T) = some (bm.contains (.type T)) := by
  unfold PySem.W.kitOne
  have ne : (Value.ref C == Value.type T) = false := beq_eq_false_iff_ne.mpr (fun z => by cases z)
  rw [ne, if_neg Bool.false_ne_true]
  obtain ⟨cd, hc, hm⟩ := x.cd
  show (if PySem.W.kitMeta T = true then PySem.W.subIn K (.ref C) (.type T) else none) = _
  rw [if_pos hT]
  show PySem.W.mroIn K C (.type T) = _
  unfold PySem.W.mroIn
  rw [hc]
  show (if cd.mro.isEmpty = true then none else some (cd.mro.contains (.type T))) = _
  rw [hm]
  have ne2 : (Value.type T == Value.ref C) = false := beq_eq_false_iff_ne.mpr (fun z => by cases z)
  simp [List.contains_cons, ne2]
end Hm
set_option maxHeartbeats 4000000
/-! facts looked at over small pieces of the heap, carried to the whole -/
namespace Hm
open PySem PySem.Spec PyProof.Rows L2 He
def Sub (K1 K2 : PySem.W.Frag) : Prop := ∀ a o, K1.lookup a = some o → K2.lookup a = some o
section
variable {K1 K2 : PySem.W.Frag}
theorem Sub.cls (s : Sub K1 K2) {C : Addr} {cd : ClassData} (h : PySem.W.clsIn K1 C = some cd) : PySem.W.clsIn K2 C = some cd := by
  unfold PySem.W.clsIn at h ⊢
  split at h
  · rename_i c d cd' sl ho
    rw [s _ _ ho]
    exact h
  · cases h
theorem Sub.typ (s : Sub K1 K2) {a : Addr} {t : Value} (h : PySem.W.typeIn K1 (.ref a) = some t) : PySem.W.typeIn K2 (.ref a) = some t := by
  obtain ⟨o, ho, e⟩ := Option.map_eq_some_iff.mp h
  show (K2.lookup a).map _ = _
  rw [s _ _ ho]
  exact congrArg some e
theorem Sub.typeV (s : Sub K1 K2) {v t : Value} (h : PySem.W.typeIn K1 v = some t) : PySem.W.typeIn K2 v = some t := by
  cases v with
  | ref a => exact s.typ h
  | _ => exact h
theorem Sub.ns (s : Sub K1 K2) {N : Addr} {x : Str} {r : Option Value} (h : PySem.W.nsIn K1 N x = some r) : PySem.W.nsIn K2 N x = some r := by
  unfold PySem.W.nsIn at h ⊢
  split at h
  · rename_i c d es n sl ho
    rw [s _ _ ho]
    exact h
  · cases h
theorem Sub.own (s : Sub K1 K2) {x : Str} {v : Value} {r : Option Value} (h : PySem.W.ownIn K1 x v = some r) : PySem.W.ownIn K2 x v = some r := by
  cases v with
  | ref a =>
    unfold PySem.W.ownIn at h ⊢
    dsimp only at h ⊢
    split at h
    · rename_i c d cd sl ho
      rw [s _ _ ho]
      exact s.ns h
    · cases h
  | _ => exact h
theorem Sub.along (s : Sub K1 K2) {x : Str} : ∀ {l : List Value} {r : Option Value}, PySem.W.alongIn K1 x l = some r → PySem.W.alongIn K2 x l = some r
  | [], _, h => h
  | c :: l, r, h => by
    unfold PySem.W.alongIn at h ⊢
    cases e : PySem.W.ownIn K1 x c with
    | none =>
      rw [e] at h
      cases h
    | some q =>
      rw [e] at h
      rw [s.own e]
      cases q with
      | none => exact Sub.along s h
      | some v => exact h
theorem Sub.find (s : Sub K1 K2) {v : Value} {x : Str} {r : Option Value} (h : PySem.W.findIn K1 v x = some r) : PySem.W.findIn K2 v x = some r := by
  cases v with
  | ref a =>
    unfold PySem.W.findIn at h ⊢
    dsimp only at h ⊢
    split at h
    · rename_i c d cd sl ho
      rw [s _ _ ho]
      exact s.along h
    · cases h
  | _ => exact h
theorem Sub.mro (s : Sub K1 K2) {C : Addr} {b : Value} {r : Bool} (h : PySem.W.mroIn K1 C b = some r) : PySem.W.mroIn K2 C b = some r := by
  obtain ⟨cd, hc, e⟩ := Option.bind_eq_some_iff.mp h
  show (PySem.W.clsIn K2 C).bind _ = _
  rw [s.cls hc]
  exact e
theorem Sub.sub (s : Sub K1 K2) {t b : Value} {r : Bool} (h : PySem.W.subIn K1 t b = some r) : PySem.W.subIn K2 t b = some r := by
  cases t with
  | ref C => exact s.mro h
  | _ => exact h
theorem Sub.special (s : Sub K1 K2) {v : Value} {x : Str} {r : Option Value} (h : PySem.W.specialIn K1 v x = some r) : PySem.W.specialIn K2 v x = some r := by
  obtain ⟨t, ht, e⟩ := Option.bind_eq_some_iff.mp h
  show (PySem.W.typeIn K2 v).bind _ = _
  rw [s.typeV ht]
  exact s.find e
theorem Sub.keep (s : Sub K1 K2) {v : Value} (h : PySem.W.keepIn K1 v = true) : PySem.W.keepIn K2 v = true := by
  cases v with
  | ref a =>
    unfold PySem.W.keepIn at h ⊢
    dsimp only at h ⊢
    split at h
    · rename_i ho
      rw [s _ _ ho]
    · rename_i ho
      rw [s _ _ ho]
      have e : PySem.W.specialIn K1 (.ref a) "__call__" = some (some (.builtin "type.__call__")) := eq_of_beq h
      rw [s.special e]
      rfl
    · cases h
  | _ => exact h
theorem Sub.hasDict (s : Sub K1 K2) {C : Addr} (h : PySem.W.hasDictIn K1 C = true) : PySem.W.hasDictIn K2 C = true := by
  obtain ⟨cd, hc, e⟩ := PySem.W.any_some h
  unfold PySem.W.hasDictIn
  rw [s.cls hc]
  exact e
theorem Sub.code (s : Sub K1 K2) {cd : Value} {q : Str} (h : PySem.W.codeIn K1 cd q = true) : PySem.W.codeIn K2 cd q = true := by
  cases cd with
  | ref c =>
    unfold PySem.W.codeIn at h ⊢
    dsimp only at h ⊢
    split at h
    · rename_i ho
      rw [s _ _ ho]
      exact h
    · cases h
  | _ => exact h
theorem Sub.nsOk (s : Sub K1 K2) {N : Addr} (h : PySem.W.nsOkIn K1 N = true) : PySem.W.nsOkIn K2 N = true := by
  unfold PySem.W.nsOkIn at h ⊢
  split at h
  · rename_i ho
    rw [s _ _ ho]
    exact h
  · cases h
theorem Sub.tail (s : Sub K1 K2) {bm : List Value} : ∀ {l : List Value}, PySem.W.tailIn K1 bm l = true → PySem.W.tailIn K2 bm l = true
  | [], h => h
  | v :: r, h => by
    unfold PySem.W.tailIn at h ⊢
    rcases Bool.or_eq_true_iff.mp h with h | h
    · rw [h, Bool.true_or]
    · refine Bool.or_eq_true_iff.mpr (.inr ?_)
      cases v with
      | ref A =>
        dsimp only at h ⊢
        split at h
        · rename_i ho
          rw [s _ _ ho]
          obtain ⟨h1, h3⟩ := ba h
          obtain ⟨h1, h2⟩ := ba h1
          have e := eq_of_beq h2
          show (PySem.W.nsOkIn K2 _ && PySem.W.nsIn K2 _ "__init__" == some none && PySem.W.tailIn K2 bm r) = true
          rw [s.nsOk h1, s.ns e, Sub.tail s h3]
          rfl
        · cases h
      | _ => cases h
theorem Sub.exc (s : Sub K1 K2) {C : Addr} {bm : List Value} {n : String} (h : PySem.W.excIn K1 C bm n = true) : PySem.W.excIn K2 C bm n = true := by
  unfold PySem.W.excIn at h ⊢
  split at h
  · rename_i dd cd sl ho
    rw [s _ _ ho]
    split at h
    · rename_i hm hs
      simp only [hm, hs]
      obtain ⟨h, h6⟩ := ba h
      obtain ⟨h, h5⟩ := ba h
      obtain ⟨h, h4⟩ := ba h
      rw [h, s.tail h4, s.nsOk h5, s.ns (eq_of_beq h6)]
      rfl
    · cases h
  · cases h
theorem Sub.takes (s : Sub K1 K2) {a : Value} {r : Bool} (h : PySem.W.takesIn K1 a = some r) : PySem.W.takesIn K2 a = some r := by
  unfold PySem.W.takesIn at h ⊢
  split at h
  · rename_i q
    rw [s.special q]
    exact h
  · rename_i q
    rw [s.special q]
    obtain ⟨y, hy, e⟩ := Option.map_eq_some_iff.mp h
    show (PySem.W.specialIn K2 a "__delete__").map _ = _
    rw [s.special hy]
    exact congrArg some e
  · cases h
theorem Sub.xc (s : Sub K1 K2) {C : Addr} {bm : List Value} {fs : List Str} (x : XC K1 C bm fs) : XC K2 C bm fs := by
  obtain ⟨⟨⟨nm, q, N, bs, bm', sn, sub, ab, col, dd, k0, k1, k2, k3, k5, hC, hbm⟩, a1, a2, a3, a4⟩, ⟨b1, b2, b3, b4, b5, b6, b7, b8⟩, ⟨cd, hc, hm⟩, no⟩ := x
  exact ⟨⟨⟨nm, q, N, bs, bm', sn, sub, ab, col, dd, k0, k1, k2, k3, k5, s _ _ hC, hbm⟩, s.find a1, s.sub a2, s.typ a3, s.keep a4⟩, ⟨s.find b1, s.find b2, s.sub b3, s.hasDict b4, s.find b5, s.special b6, s.takes b7, s.mro b8⟩, ⟨cd, s.cls hc, hm⟩, fun f hf => s.find (no f hf)⟩
theorem Sub.fund (s : Sub K1 K2) {x qual : Str} {params : Arguments} {body : List Stmt} {scope : Scope} {f : Addr} {fd : FuncData} (F : FunD K1 x qual params body scope [] [] f fd) : FunD K2 x qual params body scope [] [] f fd := by
  obtain ⟨⟨oc, od, dV, kV, doc, pm, an, cdv, ct, osl, rfl, lk, hcd, hD, hK⟩, kp⟩ := F
  refine ⟨⟨oc, od, dV, kV, doc, pm, an, cdv, ct, osl, rfl, s _ _ lk, s.code hcd, ?_, .inl rfl⟩, s.keep kp⟩
  rcases hD with ⟨_, e⟩ | ⟨e, _⟩
  · exact .inl ⟨rfl, e⟩
  · exact absurd rfl e
end
/-! ### pieces of the heap -/
theorem frG_mem {g : Addr → Option Obj} {a : Addr} {o : Obj} : ∀ {as : List Addr}, a ∈ as → g a = some o → (frG g as).lookup a = some o
  | [], h, _ => nomatch h
  | b :: r, h, e => by
    unfold frG
    rw [List.filterMap_cons]
    by_cases hb : a = b
    · subst hb
      rw [e]
      show (List.lookup a ((a, o) :: _)) = some o
      simp [List.lookup]
    · have hr : a ∈ r := by
        rcases List.mem_cons.mp h with q | q
        · exact absurd q hb
        · exact q
      have ih := frG_mem hr e
      unfold frG at ih
      cases hg : g b with
      | none => exact ih
      | some ob =>
        show (List.lookup a ((b, ob) :: _)) = some o
        have ne : (a == b) = false := by simpa using hb
        simp only [List.lookup, ne]
        exact ih
theorem frG_keys {g : Addr → Option Obj} {a : Addr} {o : Obj} : ∀ {as : List Addr}, (frG g as).lookup a = some o → a ∈ as
  | [], h => by cases h
  | b :: r, h => by
    by_cases hb : a = b
    · rw [hb]
      exact List.mem_cons_self ..
    · refine List.mem_cons_of_mem _ (frG_keys (g := g) (o := o) ?_)
      unfold frG at h ⊢
      rw [List.filterMap_cons] at h
      cases hg : g b with
      | none =>
        rw [hg] at h
        exact h
      | some ob =>
        rw [hg] at h
        have ne : (a == b) = false := by simpa using hb
        have h2 : List.lookup a ((b, ob) :: r.filterMap fun a => (g a).map fun o => (a, o)) = some o := h
        simp only [List.lookup, ne] at h2
        exact h2
theorem sub_of {g : Addr → Option Obj} {as bs : List Addr} (h : ∀ a ∈ as, a ∈ bs) : Sub (frG g as) (frG g bs) := fun a o e => frG_mem (h a (frG_keys e)) (frG_at as e)
def growFrom (g : Addr → Option Obj) : Nat → List Addr → List Addr
  | 0, as => as
  | n + 1, as => growFrom g n (growD g as)
def gaG (g : Addr → Option Obj) (x : Str) : Addr := ga (frG g [mainGlobals]) x
/-- one name of the module: what is looked at, n steps from its object -/
structure Itm where
  x : Str
  n : Nat
  ck : (Str → Addr) → PySem.W.Frag → Addr → Bool
def Itm.as (g : Addr → Option Obj) (i : Itm) : List Addr := growFrom g i.n [gaG g i.x]
def Itm.ok (g : Addr → Option Obj) (i : Itm) : Bool := eqO (PySem.W.nsIn (frG g [mainGlobals]) mainGlobals i.x) (some (some (.ref (gaG g i.x)))) && i.ck (gaG g) (frG g (i.as g)) (gaG g i.x)
/-- one def, or one __init__ -/
structure Fn where
  x : Str
  m : Option Str
  name : Str
  qual : Str
  params : Arguments
  body : List Stmt
  scope : Scope
def Fn.adr (g : Addr → Option Obj) (d : Fn) : Addr := match d.m with
  | none => gaG g d.x
  | some m => ma (frG g (growFrom g 2 [gaG g d.x])) (gaG g d.x) m
def Fn.as (g : Addr → Option Obj) (d : Fn) : List Addr := growFrom g 1 [d.adr g]
def Fn.as2 (g : Addr → Option Obj) (d : Fn) : List Addr := match d.m with
  | none => []
  | some _ => growFrom g 2 [gaG g d.x]
def fnB (K : PySem.W.Frag) (a : Addr) (q : Str) : Bool := PySem.W.keepIn K (.ref a) && (match K.lookup a with
  | some ⟨_, _, .func fd, _⟩ => PySem.W.codeIn K fd.code q && dflB K fd.defaults []
  | _ => false)
def Fn.ok (g : Addr → Option Obj) (d : Fn) : Bool := fnB (frG g (d.as g)) (d.adr g) d.qual && (match d.m with
  | none => true
  | some m => eqO (PySem.W.findIn (frG g (growFrom g 2 [gaG g d.x])) (.ref (gaG g d.x)) m) (some (some (.ref (d.adr g)))))
def Fn.w (g : Addr → Option Obj) (d : Fn) : FnW := match g (d.adr g) with
  | some ⟨_, _, .func fd, _⟩ => some (fd.name, fd.qualname, fd.params, fd.body, fd.scope, fd.globals, fd.closure, fd.builtins)
  | _ => none
def Fn.val (d : Fn) : FnW := some (d.name, d.qual, d.params, .stmts d.body, d.scope, mainGlobals, [], builtinsNs)
theorem Fn.fund {g : Addr → Option Obj} {d : Fn} (e : d.w g = d.val) (c : d.ok g = true) : ∃ fd, FunD (frG g (d.as g)) d.name d.qual d.params d.body d.scope [] [] (d.adr g) fd := by
  obtain ⟨kp, c2⟩ := ba (show (PySem.W.keepIn (frG g (d.as g)) (.ref (d.adr g)) && _) = true from (ba c).1)
  cases q : (frG g (d.as g)).lookup (d.adr g) with
  | none =>
    rw [q] at c2
    cases c2
  | some o =>
    have hg := frG_at _ q
    unfold Fn.w at e
    rw [hg] at e
    obtain ⟨oc, od, dt, osl⟩ := o
    rw [q] at c2
    cases dt with
    | func fd =>
      obtain ⟨n1, n2, n3, n4, n5, n6, n7, n8, n9, n10, n11, n12, n13, n14, n15⟩ := fd
      have e2 : (some (n1, n2, n3, n4, n5, n6, n7, n15) : FnW) = some (d.name, d.qual, d.params, .stmts d.body, d.scope, mainGlobals, [], builtinsNs) := e
      simp only [Option.some.injEq, Prod.mk.injEq] at e2
      obtain ⟨h1, h2, h3, h4, h5, h6, h7, h8⟩ := e2
      subst h1 h2 h3 h4 h5 h6 h7 h8
      obtain ⟨k1, k3⟩ := ba (show (PySem.W.codeIn (frG g (d.as g)) n13 d.qual && dflB (frG g (d.as g)) n8 []) = true from c2)
      exact ⟨_, ⟨oc, od, n8, n9, n10, n11, n12, n13, n14, osl, rfl, q, k1, dflB_ok k3, .inl rfl⟩, kp⟩
    | _ => cases c2
/-! ### the Hook -/
def obsS (its : List Itm) (fns : List Fn) (frees : List Str) (ex : (Str → Addr) → Bool) (g : Addr → Option Obj) : AlD :=
  (its.all (Itm.ok g) && (fns.all (Fn.ok g) && (frees.all (fun x => eqO (PySem.W.nsIn (frG g [mainGlobals]) mainGlobals x) (some none)) && ex (gaG g))), fns.map (Fn.w g))
def wholeK (its : List Itm) (fns : List Fn) (g : Addr → Option Obj) : PySem.W.Frag := frG g (mainGlobals :: (its.flatMap (Itm.as g) ++ (fns.flatMap (Fn.as g) ++ fns.flatMap (Fn.as2 g))))
/-- what the end leans on -/
structure SaysS (its : List Itm) (fns : List Fn) (frees : List Str) (ex : (Str → Addr) → Bool) (K : PySem.W.Frag) : Prop where
  glo : ∀ (j : Nat) (i : Itm), its[j]? = some i → PySem.W.nsIn K mainGlobals i.x = some (some (.ref (ga K i.x)))
  it : ∃ γ : Str → Addr, (∀ (j : Nat) (i : Itm), its[j]? = some i → γ i.x = ga K i.x ∧ ∃ K1, Sub K1 K ∧ i.ck γ K1 (ga K i.x) = true) ∧ ex γ = true
  fn : ∀ (j : Nat) (d : Fn), fns[j]? = some d → (∃ (k : Nat) (i : Itm), its[k]? = some i ∧ i.x = d.x) → ∃ (a : Addr) (fd : FuncData), FunD K d.name d.qual d.params d.body d.scope [] [] a fd ∧ (d.m = none → a = ga K d.x) ∧ ∀ m, d.m = some m → PySem.W.findIn K (.ref (ga K d.x)) m = some (some (.ref a))
  free : ∀ x ∈ frees, PySem.W.nsIn K mainGlobals x = some none
theorem says_of {its : List Itm} {fns : List Fn} {frees : List Str} {ex : (Str → Addr) → Bool} {g : Addr → Option Obj} (e : obsS its fns frees ex g = (true, fns.map Fn.val)) : SaysS its fns frees ex (wholeK its fns g) := by
  have e1 : (its.all (Itm.ok g) && (fns.all (Fn.ok g) && (frees.all (fun x => eqO (PySem.W.nsIn (frG g [mainGlobals]) mainGlobals x) (some none)) && ex (gaG g)))) = true := congrArg (fun z : AlD => z.1) e
  have e2 : fns.map (Fn.w g) = fns.map Fn.val := congrArg (fun z : AlD => z.2) e
  obtain ⟨c1, c2⟩ := ba e1
  obtain ⟨c2, c3⟩ := ba c2
  obtain ⟨c3, c4⟩ := ba c3
  have s0 : Sub (frG g [mainGlobals]) (wholeK its fns g) := sub_of fun a h => by
    have : a = mainGlobals := by simpa using h
    rw [this]
    exact List.mem_cons_self ..
  have gl : ∀ (j : Nat) (i : Itm), its[j]? = some i → PySem.W.nsIn (wholeK its fns g) mainGlobals i.x = some (some (.ref (gaG g i.x))) := fun j i h =>
    s0.ns (eqO_ok (ba (List.all_eq_true.mp c1 i (List.mem_of_getElem? h))).1)
  have ge : ∀ (j : Nat) (i : Itm), its[j]? = some i → gaG g i.x = ga (wholeK its fns g) i.x := fun j i h => by
    unfold ga
    rw [gl j i h]
  refine ⟨fun j i h => by rw [← ge j i h]; exact gl j i h, ⟨gaG g, fun j i h => ⟨ge j i h, frG g (i.as g), ?_, ?_⟩, c4⟩, fun j d h hx => ?_, fun x hx => s0.ns (eqO_ok (List.all_eq_true.mp c3 x hx))⟩
  · exact sub_of fun a ha => List.mem_cons_of_mem _ (List.mem_append_left _ (List.mem_flatMap.mpr ⟨i, List.mem_of_getElem? h, ha⟩))
  · rw [← ge j i h]
    exact (ba (List.all_eq_true.mp c1 i (List.mem_of_getElem? h))).2
  · have e3 : (fns.map (Fn.w g))[j]? = (fns.map Fn.val)[j]? := by rw [e2]
    rw [List.getElem?_map, List.getElem?_map, h] at e3
    obtain ⟨fd, F⟩ := Fn.fund (Option.some.inj e3) (List.all_eq_true.mp c2 d (List.mem_of_getElem? h))
    have sd : Sub (frG g (d.as g)) (wholeK its fns g) := sub_of fun a ha => List.mem_cons_of_mem _ (List.mem_append_right _ (List.mem_append_left _ (List.mem_flatMap.mpr ⟨d, List.mem_of_getElem? h, ha⟩)))
    obtain ⟨k, i, hk, hix⟩ := hx
    have gx : gaG g d.x = ga (wholeK its fns g) d.x := by
      rw [← hix]
      exact ge k i hk
    refine ⟨d.adr g, fd, sd.fund F, fun hm => ?_, fun m hm => ?_⟩
    · unfold Fn.adr
      rw [hm, ← gx]
    · have sm : Sub (frG g (growFrom g 2 [gaG g d.x])) (wholeK its fns g) := sub_of fun a ha => List.mem_cons_of_mem _ (List.mem_append_right _ (List.mem_append_right _ (List.mem_flatMap.mpr ⟨d, List.mem_of_getElem? h, by
        unfold Fn.as2
        rw [hm]
        exact ha⟩)))
      have q := (ba (List.all_eq_true.mp c2 d (List.mem_of_getElem? h))).2
      rw [hm] at q
      have z := sm.find (eqO_ok q)
      rw [gx] at z
      exact z
def hookS (its : List Itm) (fns : List Fn) (frees : List Str) (ex : (Str → Addr) → Bool) : PySem.W.Hook where
  α := AlD
  obs := fun s => obsS its fns frees ex s.heap.get?
  val := fun _ => (true, fns.map Fn.val)
  says := fun _ h => ∃ K : PySem.W.Frag, K.In h ∧ SaysS its fns frees ex K
  of := fun _ _ e => ⟨_, frG_in, says_of e⟩
  keeps := fun _ _ _ ⟨K, hK, c⟩ k => ⟨K, PySem.W.Frag.In.keeps hK k, c⟩
theorem obsS_eq {its : List Itm} {fns : List Fn} {frees : List Str} {ex : (Str → Addr) → Bool} {g : Addr → Option Obj} {s : Shared} (h : ∀ a, g a = s.heap.get? a) : obsS its fns frees ex g = (hookS its fns frees ex).obs s := by
  have e : g = s.heap.get? := funext h
  rw [e] <;> rfl
end Hm
set_option maxHeartbeats 4000000
namespace My
open PySem L2 He Hm
/-! ### evaluation that leaves what is known as it was -/
def EE (te : TE) (σ : L2.St) (H : Hp) (P : Hp → V → Prop) : Prop := ∀ H1, Same H H1 → ∀ Q : VK, (∀ v H2, Same H1 H2 → P H2 v → Q v H2) → te σ H1 Q
def EA (ta : TA) (σ : L2.St) (H : Hp) (n : Nat) (P : Hp → V → Prop) : Prop := ∀ H1, Same H H1 → ∀ Q : List V → Hp → Prop, (∀ vs H2, Same H1 H2 → vs.length = n → (∀ v ∈ vs, P H2 v) → Q vs H2) → ta σ H1 Q
def Mono (P : Hp → V → Prop) : Prop := ∀ H H' v, Same H H' → P H v → P H' v
theorem same_new' {H : Hp} {p : Addr} {o : HO} (h : H p = none) : Same H (upd H p o) := same_new h
theorem ea_nil {σ : L2.St} {H : Hp} {P : Hp → V → Prop} : EA tNil σ H 0 P := fun H1 _ Q q => q [] H1 (Same.refl _) rfl (fun _ h => nomatch h)
theorem ea_cons {σ : L2.St} {H : Hp} {P : Hp → V → Prop} {te : TE} {ta : TA} {n : Nat} (m : Mono P) (he : EE te σ H P) (ha : EA ta σ H n P) : EA (tCons te ta) σ H (n + 1) P := fun H1 s1 Q q =>
  he H1 s1 _ fun v H2 s2 pv => ha H2 (s1.trans s2) _ fun vs H3 s3 hl hv => q (v :: vs) H3 (s2.trans s3) (by rw [List.length_cons, hl]) (by
    intro y hy
    rcases List.mem_cons.mp hy with e | e
    · rw [e]
      exact m _ _ _ s3 pv
    · exact hv y e)
/-! ### the errors -/
def errs : List (Str × List Str) := [(("BadBook" : Str), (["what"] : List Str)), (("BadLetters" : Str), ([] : List Str)), (("BadSaying" : Str), (["what"] : List Str)), (("BadText" : Str), (["line", "place"] : List Str)), (("BadExpression" : Str), (["what"] : List Str)), (("TooMany" : Str), ([] : List Str)), (("BadStep" : Str), ([] : List Str)), (("BadEquation" : Str), (["at", "what"] : List Str)), (("BadOrder" : Str), ([] : List Str)), (("BadRoom" : Str), ([] : List Str)), (("NotFilled" : Str), ([] : List Str)), (("Ended" : Str), (["how"] : List Str)), (("NoBook" : Str), (["number"] : List Str)), (("NotOpen" : Str), (["number"] : List Str)), (("NotLooked" : Str), (["number"] : List Str)), (("TooFull" : Str), (["waiting"] : List Str)), (("BadMany" : Str), ([] : List Str)), (("NoHand" : Str), (["hand"] : List Str)), (("Busy" : Str), (["hand"] : List Str)), (("Idle" : Str), (["hand"] : List Str)), (("NoReport" : Str), (["report"] : List Str)), (("BadGrammar" : Str), (["at"] : List Str)), (("NoSymbol" : Str), (["symbol"] : List Str)), (("NoSign" : Str), (["at"] : List Str)), (("TooLong" : Str), (["length"] : List Str)), (("EmptyWord" : Str), ([] : List Str)), (("NoCut" : Str), (["begin", "end"] : List Str)), (("BadFilling" : Str), (["at"] : List Str)), (("NoName" : Str), (["name"] : List Str)), (("NotShut" : Str), ([] : List Str)), (("OtherDeeds" : Str), ([] : List Str)), (("BadPaperText" : Str), ([] : List Str)), (("TooWide" : Str), (["what"] : List Str)), (("BadScript" : Str), (["what", "road"] : List Str)), (("ShortInputs" : Str), (["used"] : List Str)), (("NoIf" : Str), (["road"] : List Str)), (("NoWay" : Str), (["turns"] : List Str)), (("UnlikeScripts" : Str), ([] : List Str)), (("BadDeed" : Str), (["what"] : List Str)), (("FullDesk" : Str), ([] : List Str)), (("NoBack" : Str), ([] : List Str)), (("IsCut" : Str), ([] : List Str)), (("NotCut" : Str), ([] : List Str)), (("NoEngine" : Str), ([] : List Str)), (("NoPaper" : Str), (["at"] : List Str)), (("NoScript" : Str), ([] : List Str)), (("NoStatement" : Str), (["road"] : List Str))]
abbrev C (K : PySem.W.Frag) (x : Str) : Addr := ga K x
def press (K : PySem.W.Frag) : List Value := [.ref (ga K "PressError"), .type "ValueError", .type "Exception", .type "BaseException", .type "object"]
def spInit1 (K : PySem.W.Frag) (C : Addr) (f : Str) : Sp := fun vs H Q _ => ∃ (a : Addr) (v : V), vs = [.ref a, v] ∧ H a = some (exo a C none) ∧
  ∀ (H' : Hp) (dx : Addr), H dx = none → dx ≠ a → H' a = some (exo a C (some dx)) → H' dx = some (exd dx [(f, v)]) → (∀ b o, b ≠ a → H b = some o → H' b = some o) → Q .non H'
def spInit2 (K : PySem.W.Frag) (C : Addr) (f g : Str) : Sp := fun vs H Q _ => ∃ (a : Addr) (v u : V), vs = [.ref a, v, u] ∧ H a = some (exo a C none) ∧
  ∀ (H' : Hp) (dx : Addr), H dx = none → dx ≠ a → H' a = some (exo a C (some dx)) → H' dx = some (exd dx [(g, u), (f, v)]) → (∀ b o, b ≠ a → H b = some o → H' b = some o) → Q .non H'
section
variable {P : Program} {w : World} {K : PySem.W.Frag} {mg : Str → Option Value} {base : Heap}
theorem rd_init1 {C : Addr} {bm : List Value} {fs : List Str} {f : Str} (x : XC K C bm fs) (hf : f ∈ fs) (vs : List V) (H : Hp) (Q : VK) (E : XK) (N : List Str) (h : spInit1 K C f vs H Q E) :
    tSeq (tOst K f (tVar 0) (tVar 1)) tNext { nx := fun _ H' => Q .non H', rt := Q } (L2.start N vs) H := by
  obtain ⟨a, v, rfl, hA, k⟩ := h
  refine ⟨_, rfl, _, rfl, a, C, rfl, x.ox, x.no f hf, .inl ⟨hA, fun dx n ne => ?_⟩⟩
  refine k _ dx n ne upd_same (by rw [upd_ne ne, upd_same]) fun b o hb e => ?_
  rw [upd_ne hb, upd_ne (ne_of_none e n)]
  exact e
theorem rd_init2 {C : Addr} {bm : List Value} {fs : List Str} {f g : Str} (x : XC K C bm fs) (hf : f ∈ fs) (hg : g ∈ fs) (vs : List V) (H : Hp) (Q : VK) (E : XK) (N : List Str) (h : spInit2 K C f g vs H Q E) :
    tSeq (tOst K f (tVar 0) (tVar 1)) (tSeq (tOst K g (tVar 0) (tVar 2)) tNext) { nx := fun _ H' => Q .non H', rt := Q } (L2.start N vs) H := by
  obtain ⟨a, v, u, rfl, hA, k⟩ := h
  refine ⟨_, rfl, _, rfl, a, C, rfl, x.ox, x.no f hf, .inl ⟨hA, fun dx n ne => ?_⟩⟩
  refine ⟨_, rfl, _, rfl, a, C, rfl, x.ox, x.no g hg, .inr ⟨dx, _, upd_same, (by rw [upd_ne ne, upd_same]), (by show 1 ≤ 900; decide), ?_⟩⟩
  refine k _ dx n ne (by rw [upd_ne (Ne.symm ne), upd_same]) upd_same fun b o hb e => ?_
  have nb : b ≠ dx := ne_of_none e n
  rw [upd_ne nb, upd_ne hb, upd_ne nb]
  exact e
/-! ### a couple (number, error) -/
def PairOk (K : PySem.W.Frag) (f : Str) (v : V) (H : Hp) (x : V) : Prop := ∃ (tt e d : Addr) (i : Nat) (er : Str × List Str), x = .ref tt ∧ H tt = some (.tup [.int i, .ref e]) ∧ errs[i]? = some er ∧ H e = some (exo e (ga K er.1) (some d)) ∧ H d = some (exd d [(f, v)]) ∧ f ∈ er.2
theorem pair_mono {f : Str} {v : V} : Mono (PairOk K f v) := fun H H' x s ⟨tt, e, d, i, er, h1, h2, h3, h4, h5, h6⟩ => ⟨tt, e, d, i, er, h1, s _ _ h2, h3, s _ _ h4, s _ _ h5, h6⟩
theorem ee_pair {σ : L2.St} {H : Hp} {f : Str} {v : V} {i : Nat} {er : Str × List Str} (hσ : σ[0]? = some (some v)) (he : errs[i]? = some er) (hf : f ∈ er.2) :
    EE (tTup (tCons (tC (.int (i : Int))) (tCons (tMkOV (ga K er.1) (spInit1 K (ga K er.1) f) [] (tCons (tVar 0) tNil)) tNil))) σ H (PairOk K f v) := by
  intro H1 s1 Q q
  refine ⟨v, hσ, (by show 1 ≤ 1000; decide), fun e ne => ⟨e, v, rfl, upd_same, fun H2 dx n1 n2 g1 g2 g3 => ⟨rfl, ?_⟩⟩⟩
  have ndx : H1 dx = none := by
    rw [upd_ne n2] at n1
    exact n1
  have s2 : Same H1 H2 := fun b o hb => g3 b o (ne_of_none hb ne) (by rw [upd_ne (ne_of_none hb ne)]; exact hb)
  refine ⟨(by show 2 ≤ sizeLine; decide), fun t nt => ?_⟩
  refine q _ _ (s2.trans (same_new' nt)) ⟨t, e, dx, i, er, rfl, upd_same, he, ?_, ?_, hf⟩
  · rw [upd_ne (ne_of_none g1 nt)]
    exact g1
  · rw [upd_ne (ne_of_none g2 nt)]
    exact g2
/-! ### a row (number, error, what it keeps) -/
def RowOk (K : PySem.W.Frag) (v : V) (H : Hp) (x : V) : Prop := ∃ (tt e d : Addr) (i : Nat) (er : Str × List Str) (fs : List (Str × V)), x = .ref tt ∧ H tt = some (.tup [.int i, .ref e, v]) ∧ errs[i]? = some er ∧ H e = some (exo e (ga K er.1) (some d)) ∧ H d = some (exd d fs)
theorem row_mono {v : V} : Mono (RowOk K v) := fun H H' x s ⟨tt, e, d, i, er, fs, h1, h2, h3, h4, h5⟩ => ⟨tt, e, d, i, er, fs, h1, s _ _ h2, h3, s _ _ h4, s _ _ h5⟩
theorem ne_lst {H : Hp} {a D : Addr} {o : HO} {xs : List V} (h : H a = some o) (hD : H D = some (.lst xs)) (ne : o ≠ .lst xs) : a ≠ D := ne_of h hD ne
theorem exo_lst {e c : Addr} {d : Option Addr} {xs : List V} : exo e c d ≠ .lst xs := fun z => by
  have z' : HO.ext _ = HO.lst xs := z
  cases z'
theorem exd_lst {e : Addr} {fs : List (Str × V)} {xs : List V} : exd e fs ≠ .lst xs := fun z => by
  have z' : HO.ext _ = HO.lst xs := z
  cases z'
theorem tup_lst {ys xs : List V} : HO.tup ys ≠ .lst xs := fun z => by cases z
/-- a list changes: rows and couples stand -/
theorem row_upd {v : V} {H : Hp} {D : Addr} {xs : List V} {o : HO} {x : V} (hD : H D = some (.lst xs)) (h : RowOk K v H x) : RowOk K v (upd H D o) x := by
  obtain ⟨tt, e, d, i, er, fs, h1, h2, h3, h4, h5⟩ := h
  exact ⟨tt, e, d, i, er, fs, h1, by rw [upd_ne (ne_lst h2 hD tup_lst)]; exact h2, h3, by rw [upd_ne (ne_lst h4 hD exo_lst)]; exact h4, by rw [upd_ne (ne_lst h5 hD exd_lst)]; exact h5⟩
theorem pair_upd {f : Str} {v : V} {H : Hp} {D : Addr} {xs : List V} {o : HO} {x : V} (hD : H D = some (.lst xs)) (h : PairOk K f v H x) : PairOk K f v (upd H D o) x := by
  obtain ⟨tt, e, d, i, er, h1, h2, h3, h4, h5, h6⟩ := h
  exact ⟨tt, e, d, i, er, h1, by rw [upd_ne (ne_lst h2 hD tup_lst)]; exact h2, h3, by rw [upd_ne (ne_lst h4 hD exo_lst)]; exact h4, by rw [upd_ne (ne_lst h5 hD exd_lst)]; exact h5, h6⟩
/-- for number, raised in (..): told.append((number, raised, raised.f)) -/
def t_rows (K : PySem.W.Frag) (f : Str) (ta : TA) : TS := tSeq (tAsg (tLst tNil) (gName 1)) (tSeq (tFor (iTup K (tTup ta)) (gTup K 2 (gCons (gName 2) (gCons (gName 3) gNil)))
  (tSeq (tDrop (tBM K "list" rAppend (tVar 1) (tCons (tTup (tCons (tVar 2) (tCons (tVar 3) (tCons (tXFld K f (tVar 3)) tNil)))) tNil))) tNext)) (tSeq (tRet (tVar 1)) tNext))
def spRows (K : PySem.W.Frag) : Sp := fun vs H Q _ => ∃ v : V, vs = [v] ∧ ∀ (p : Addr) (xs : List V) (H' : Hp), Same H H' → H p = none → H' p = some (.lst xs) → xs.length ≤ 10 → (∀ x ∈ xs, RowOk K v H' x) → Q (.ref p) H'
/-- what is known of the text -/
structure TX (K : PySem.W.Frag) (mg : Str → Option Value) : Prop where
  g : ∀ (i : Nat) (er : Str × List Str), errs[i]? = some er → mg er.1 = some (.ref (ga K er.1))
  x : ∀ (i : Nat) (er : Str × List Str), errs[i]? = some er → XC K (ga K er.1) (press K) er.2
  gP : mg "PressError" = some (.ref (ga K "PressError"))
  xP : XC K (ga K "PressError") [.type "ValueError", .type "Exception", .type "BaseException", .type "object"] []
  nd : (ga K "PressError" :: errs.map fun e => ga K e.1).Nodup
  s : TxtS mg
  isi : mg "isinstance" = none
  rng : mg "range" = none
  ve : mg "ValueError" = none
theorem pure_rows {f : Str} {ta : TA} {n : Nat} (T : TX K mg) (hn : n ≤ 10) (hta : ∀ (σ : L2.St) (H : Hp) (v : V), σ[0]? = some (some v) → EA ta σ H n (PairOk K f v))
    (vs : List V) (H : Hp) (Q : VK) (E : XK) (h : spRows K vs H Q E) : t_rows K f ta { nx := fun _ H' => Q .non H', rt := Q } (L2.start ["_law_thing_here", "_law_told", "_law_at", "_law_raised"] vs) H := by
  obtain ⟨v, rfl, k⟩ := h
  refine ⟨Nat.zero_le _, fun D hD => ?_⟩
  have sD : Same H (upd H D (.lst [])) := same_new' hD
  refine hta _ (upd H D (.lst [])) v rfl _ (Same.refl _) _ fun xs H2 s2 hl hv => ?_
  refine ⟨by rw [hl]; exact Nat.le_trans hn (by decide), fun T0 hT0 => ?_⟩
  have hD2 : H2 D = some (.lst []) := s2 _ _ upd_same
  have nTD : D ≠ T0 := ne_of_none hD2 hT0
  refine ⟨T0, rfl, ⟨xs, SqT.of upd_same⟩, for_tup (K := K) (a := T0) (xs := xs) (fun i σ' H' => ∃ (acc : List V) (a2 a3 : Option V), σ' = [some v, some (.ref D), a2, a3] ∧ H' D = some (.lst acc) ∧ acc.length = i ∧ (∀ x ∈ acc, RowOk K v H' x) ∧ (∀ b o, H b = some o → H' b = some o) ∧
      H' T0 = some (.tup xs) ∧ ∀ x ∈ xs, PairOk K f v H' x) ?_ (fun i σ' H' _ ⟨_, _, _, _, _, _, _, _, hT, _⟩ => SqT.of hT) ?_ ?_⟩
  · refine ⟨[], none, none, rfl, by rw [upd_ne nTD]; exact hD2, rfl, (fun _ h => nomatch h), fun b o e => ?_, upd_same, fun x hx => pair_mono _ _ _ (same_new' hT0) (hv x hx)⟩
    exact same_new hT0 b o (s2 b o (sD b o e))
  · rintro i x σ' H' hi ⟨acc, a2, a3, rfl, hDa, ha, hr, hs, hT, hp⟩
    have hx : x ∈ xs := List.mem_of_getElem? hi
    obtain ⟨tt, e, d, j, er, rfl, ht, he, hE, hd, hff⟩ := hp x hx
    refine ⟨tt, _, rfl, SqT.of ht, rfl, _, _, rfl, _, _, rfl, rfl, ?_⟩
    refine ⟨_, rfl, .inl ⟨rfl, _, SqL.of hDa⟩, ?_⟩
    refine ⟨_, rfl, _, rfl, _, rfl, e, _, d, _, v, rfl, hE, hd, (T.x j er he).xc, (T.x j er he).no f hff, (by simp [List.lookup]), (by show 3 ≤ sizeLine; decide), fun t nt => ?_⟩
    have nDt : D ≠ t := ne_of_none hDa nt
    have hDt : upd H' t (.tup [.int j, .ref e, v]) D = some (.lst acc) := by
      rw [upd_ne nDt]
      exact hDa
    have hlen : acc.length < 10 := by
      have : i < xs.length := (List.getElem?_eq_some_iff.mp hi).1
      omega
    refine ⟨D, acc, _, rfl, rfl, hDt, Nat.lt_of_lt_of_le hlen (by decide), ?_⟩
    refine ⟨acc ++ [.ref t], _, _, rfl, upd_same, by simp [ha], ?_, fun b o hb => ?_, ?_, fun y hy => pair_upd hDt (pair_mono _ _ _ (same_new' nt) (hp y hy))⟩
    · intro y hy
      rcases List.mem_append.mp hy with hy | hy
      · exact row_upd hDt (row_mono _ _ _ (same_new' nt) (hr y hy))
      · have ey : y = .ref t := by simpa using hy
        subst ey
        refine row_upd hDt ⟨t, e, d, j, er, [(f, v)], rfl, upd_same, he, ?_, ?_⟩
        · rw [upd_ne (ne_of_none hE nt)]
          exact hE
        · rw [upd_ne (ne_of_none hd nt)]
          exact hd
    · have nb : b ≠ D := fun z => by
        rw [z, hD] at hb
        cases hb
      rw [upd_ne nb]
      exact same_new nt b o (hs b o hb)
    · have nT : T0 ≠ D := ne_lst hT hDa tup_lst
      rw [upd_ne nT, upd_ne (ne_of_none hT nt)]
      exact hT
  · rintro σ' H' ⟨acc, a2, a3, rfl, hDa, ha, hr, hs, hT, hp⟩
    exact ⟨_, rfl, k D acc H' hs hD hDa (by omega) hr⟩
end
end My
set_option maxHeartbeats 8000000
namespace My
open PySem L2 He Hm
/-- an error's __init__ as it stands behind the top -/
structure XI (K : PySem.W.Frag) (n qual : Str) (st : Stmt) (fd : FuncData) : Prop where
  iC : PySem.W.findIn K (.ref (ga K n)) "__init__" = some (some (.ref (ma K (ga K n) "__init__")))
  tI : PySem.W.typeIn K (.ref (ma K (ga K n) "__init__")) = some (.type "function")
  F : FunD K "__init__" qual (defArgs st) (defBody st) (defScope st) [] [] (ma K (ga K n) "__init__") fd
section
variable {P : Program} {w : World} {K : PySem.W.Frag} {mg : Str → Option Value} {base : Heap}
theorem scIBadBook : FnScope ["self", "what"] ["self", "what"] (defScope (inClass (topS 2) 0)) := ⟨rfl, rfl, rfl, by decide +kernel, rfl, by decide +kernel, by decide +kernel⟩
theorem okIBadBook {fd : FuncData} (I : XI K "BadBook" "BadBook.__init__" (inClass (topS 2) 0) fd) (T : TX K mg) : FnOk P w K mg base CX0 1 (ma K (ga K "BadBook") "__init__") fd ["self", "what"] (spInit1 K (ga K "BadBook") "what") := by
  refine ok0 I.F scIBadBook (fun vs H Q E h => by obtain ⟨a, v, rfl, _⟩ := h; rfl) (fun cdv A outer s H vs Q E hr h => ⟨_, pss_cons (ps_ost (pv 0) (pv 1)) pss_nil, rd_init1 (T.x 0 (("BadBook" : Str), (["what"] : List Str)) rfl) (List.mem_cons_self ..) vs H Q E _ h⟩)
theorem bIBadBook {fd : FuncData} (I : XI K "BadBook" "BadBook.__init__" (inClass (topS 2) 0) fd) : Binds K fd ["self", "what"] [] := I.F.bindsN fun _ _ _ _ _ _ us hl => match us, hl with | [_, _], _ => rfl
theorem scIBadSaying : FnScope ["self", "what"] ["self", "what"] (defScope (inClass (topS 4) 0)) := ⟨rfl, rfl, rfl, by decide +kernel, rfl, by decide +kernel, by decide +kernel⟩
theorem okIBadSaying {fd : FuncData} (I : XI K "BadSaying" "BadSaying.__init__" (inClass (topS 4) 0) fd) (T : TX K mg) : FnOk P w K mg base CX0 1 (ma K (ga K "BadSaying") "__init__") fd ["self", "what"] (spInit1 K (ga K "BadSaying") "what") := by
  refine ok0 I.F scIBadSaying (fun vs H Q E h => by obtain ⟨a, v, rfl, _⟩ := h; rfl) (fun cdv A outer s H vs Q E hr h => ⟨_, pss_cons (ps_ost (pv 0) (pv 1)) pss_nil, rd_init1 (T.x 2 (("BadSaying" : Str), (["what"] : List Str)) rfl) (List.mem_cons_self ..) vs H Q E _ h⟩)
theorem bIBadSaying {fd : FuncData} (I : XI K "BadSaying" "BadSaying.__init__" (inClass (topS 4) 0) fd) : Binds K fd ["self", "what"] [] := I.F.bindsN fun _ _ _ _ _ _ us hl => match us, hl with | [_, _], _ => rfl
theorem scIBadText : FnScope ["self", "line", "place"] ["self", "line", "place"] (defScope (inClass (topS 5) 0)) := ⟨rfl, rfl, rfl, by decide +kernel, rfl, by decide +kernel, by decide +kernel⟩
theorem okIBadText {fd : FuncData} (I : XI K "BadText" "BadText.__init__" (inClass (topS 5) 0) fd) (T : TX K mg) : FnOk P w K mg base CX0 1 (ma K (ga K "BadText") "__init__") fd ["self", "line", "place"] (spInit2 K (ga K "BadText") "line" "place") := by
  refine ok0 I.F scIBadText (fun vs H Q E h => by obtain ⟨a, v, u, rfl, _⟩ := h; rfl) (fun cdv A outer s H vs Q E hr h => ⟨_, pss_cons (ps_ost (pv 0) (pv 1)) (pss_cons (ps_ost (pv 0) (pv 2)) pss_nil), rd_init2 (T.x 3 (("BadText" : Str), (["line", "place"] : List Str)) rfl) (List.mem_cons_self ..) (List.mem_cons_of_mem _ (List.mem_cons_self ..)) vs H Q E _ h⟩)
theorem bIBadText {fd : FuncData} (I : XI K "BadText" "BadText.__init__" (inClass (topS 5) 0) fd) : Binds K fd ["self", "line", "place"] [] := I.F.bindsN fun _ _ _ _ _ _ us hl => match us, hl with | [_, _, _], _ => rfl
theorem scIBadExpression : FnScope ["self", "what"] ["self", "what"] (defScope (inClass (topS 6) 0)) := ⟨rfl, rfl, rfl, by decide +kernel, rfl, by decide +kernel, by decide +kernel⟩
theorem okIBadExpression {fd : FuncData} (I : XI K "BadExpression" "BadExpression.__init__" (inClass (topS 6) 0) fd) (T : TX K mg) : FnOk P w K mg base CX0 1 (ma K (ga K "BadExpression") "__init__") fd ["self", "what"] (spInit1 K (ga K "BadExpression") "what") := by
  refine ok0 I.F scIBadExpression (fun vs H Q E h => by obtain ⟨a, v, rfl, _⟩ := h; rfl) (fun cdv A outer s H vs Q E hr h => ⟨_, pss_cons (ps_ost (pv 0) (pv 1)) pss_nil, rd_init1 (T.x 4 (("BadExpression" : Str), (["what"] : List Str)) rfl) (List.mem_cons_self ..) vs H Q E _ h⟩)
theorem bIBadExpression {fd : FuncData} (I : XI K "BadExpression" "BadExpression.__init__" (inClass (topS 6) 0) fd) : Binds K fd ["self", "what"] [] := I.F.bindsN fun _ _ _ _ _ _ us hl => match us, hl with | [_, _], _ => rfl
theorem scIBadEquation : FnScope ["self", "at", "what"] ["self", "at", "what"] (defScope (inClass (topS 9) 0)) := ⟨rfl, rfl, rfl, by decide +kernel, rfl, by decide +kernel, by decide +kernel⟩
theorem okIBadEquation {fd : FuncData} (I : XI K "BadEquation" "BadEquation.__init__" (inClass (topS 9) 0) fd) (T : TX K mg) : FnOk P w K mg base CX0 1 (ma K (ga K "BadEquation") "__init__") fd ["self", "at", "what"] (spInit2 K (ga K "BadEquation") "at" "what") := by
  refine ok0 I.F scIBadEquation (fun vs H Q E h => by obtain ⟨a, v, u, rfl, _⟩ := h; rfl) (fun cdv A outer s H vs Q E hr h => ⟨_, pss_cons (ps_ost (pv 0) (pv 1)) (pss_cons (ps_ost (pv 0) (pv 2)) pss_nil), rd_init2 (T.x 7 (("BadEquation" : Str), (["at", "what"] : List Str)) rfl) (List.mem_cons_self ..) (List.mem_cons_of_mem _ (List.mem_cons_self ..)) vs H Q E _ h⟩)
theorem bIBadEquation {fd : FuncData} (I : XI K "BadEquation" "BadEquation.__init__" (inClass (topS 9) 0) fd) : Binds K fd ["self", "at", "what"] [] := I.F.bindsN fun _ _ _ _ _ _ us hl => match us, hl with | [_, _, _], _ => rfl
theorem scIEnded : FnScope ["self", "how"] ["self", "how"] (defScope (inClass (topS 13) 0)) := ⟨rfl, rfl, rfl, by decide +kernel, rfl, by decide +kernel, by decide +kernel⟩
theorem okIEnded {fd : FuncData} (I : XI K "Ended" "Ended.__init__" (inClass (topS 13) 0) fd) (T : TX K mg) : FnOk P w K mg base CX0 1 (ma K (ga K "Ended") "__init__") fd ["self", "how"] (spInit1 K (ga K "Ended") "how") := by
  refine ok0 I.F scIEnded (fun vs H Q E h => by obtain ⟨a, v, rfl, _⟩ := h; rfl) (fun cdv A outer s H vs Q E hr h => ⟨_, pss_cons (ps_ost (pv 0) (pv 1)) pss_nil, rd_init1 (T.x 11 (("Ended" : Str), (["how"] : List Str)) rfl) (List.mem_cons_self ..) vs H Q E _ h⟩)
theorem bIEnded {fd : FuncData} (I : XI K "Ended" "Ended.__init__" (inClass (topS 13) 0) fd) : Binds K fd ["self", "how"] [] := I.F.bindsN fun _ _ _ _ _ _ us hl => match us, hl with | [_, _], _ => rfl
theorem scINoBook : FnScope ["self", "number"] ["self", "number"] (defScope (inClass (topS 14) 0)) := ⟨rfl, rfl, rfl, by decide +kernel, rfl, by decide +kernel, by decide +kernel⟩
theorem okINoBook {fd : FuncData} (I : XI K "NoBook" "NoBook.__init__" (inClass (topS 14) 0) fd) (T : TX K mg) : FnOk P w K mg base CX0 1 (ma K (ga K "NoBook") "__init__") fd ["self", "number"] (spInit1 K (ga K "NoBook") "number") := by
  refine ok0 I.F scINoBook (fun vs H Q E h => by obtain ⟨a, v, rfl, _⟩ := h; rfl) (fun cdv A outer s H vs Q E hr h => ⟨_, pss_cons (ps_ost (pv 0) (pv 1)) pss_nil, rd_init1 (T.x 12 (("NoBook" : Str), (["number"] : List Str)) rfl) (List.mem_cons_self ..) vs H Q E _ h⟩)
theorem bINoBook {fd : FuncData} (I : XI K "NoBook" "NoBook.__init__" (inClass (topS 14) 0) fd) : Binds K fd ["self", "number"] [] := I.F.bindsN fun _ _ _ _ _ _ us hl => match us, hl with | [_, _], _ => rfl
theorem scINotOpen : FnScope ["self", "number"] ["self", "number"] (defScope (inClass (topS 15) 0)) := ⟨rfl, rfl, rfl, by decide +kernel, rfl, by decide +kernel, by decide +kernel⟩
theorem okINotOpen {fd : FuncData} (I : XI K "NotOpen" "NotOpen.__init__" (inClass (topS 15) 0) fd) (T : TX K mg) : FnOk P w K mg base CX0 1 (ma K (ga K "NotOpen") "__init__") fd ["self", "number"] (spInit1 K (ga K "NotOpen") "number") := by
  refine ok0 I.F scINotOpen (fun vs H Q E h => by obtain ⟨a, v, rfl, _⟩ := h; rfl) (fun cdv A outer s H vs Q E hr h => ⟨_, pss_cons (ps_ost (pv 0) (pv 1)) pss_nil, rd_init1 (T.x 13 (("NotOpen" : Str), (["number"] : List Str)) rfl) (List.mem_cons_self ..) vs H Q E _ h⟩)
theorem bINotOpen {fd : FuncData} (I : XI K "NotOpen" "NotOpen.__init__" (inClass (topS 15) 0) fd) : Binds K fd ["self", "number"] [] := I.F.bindsN fun _ _ _ _ _ _ us hl => match us, hl with | [_, _], _ => rfl
theorem scINotLooked : FnScope ["self", "number"] ["self", "number"] (defScope (inClass (topS 16) 0)) := ⟨rfl, rfl, rfl, by decide +kernel, rfl, by decide +kernel, by decide +kernel⟩
theorem okINotLooked {fd : FuncData} (I : XI K "NotLooked" "NotLooked.__init__" (inClass (topS 16) 0) fd) (T : TX K mg) : FnOk P w K mg base CX0 1 (ma K (ga K "NotLooked") "__init__") fd ["self", "number"] (spInit1 K (ga K "NotLooked") "number") := by
  refine ok0 I.F scINotLooked (fun vs H Q E h => by obtain ⟨a, v, rfl, _⟩ := h; rfl) (fun cdv A outer s H vs Q E hr h => ⟨_, pss_cons (ps_ost (pv 0) (pv 1)) pss_nil, rd_init1 (T.x 14 (("NotLooked" : Str), (["number"] : List Str)) rfl) (List.mem_cons_self ..) vs H Q E _ h⟩)
theorem bINotLooked {fd : FuncData} (I : XI K "NotLooked" "NotLooked.__init__" (inClass (topS 16) 0) fd) : Binds K fd ["self", "number"] [] := I.F.bindsN fun _ _ _ _ _ _ us hl => match us, hl with | [_, _], _ => rfl
theorem scITooFull : FnScope ["self", "waiting"] ["self", "waiting"] (defScope (inClass (topS 17) 0)) := ⟨rfl, rfl, rfl, by decide +kernel, rfl, by decide +kernel, by decide +kernel⟩
theorem okITooFull {fd : FuncData} (I : XI K "TooFull" "TooFull.__init__" (inClass (topS 17) 0) fd) (T : TX K mg) : FnOk P w K mg base CX0 1 (ma K (ga K "TooFull") "__init__") fd ["self", "waiting"] (spInit1 K (ga K "TooFull") "waiting") := by
  refine ok0 I.F scITooFull (fun vs H Q E h => by obtain ⟨a, v, rfl, _⟩ := h; rfl) (fun cdv A outer s H vs Q E hr h => ⟨_, pss_cons (ps_ost (pv 0) (pv 1)) pss_nil, rd_init1 (T.x 15 (("TooFull" : Str), (["waiting"] : List Str)) rfl) (List.mem_cons_self ..) vs H Q E _ h⟩)
theorem bITooFull {fd : FuncData} (I : XI K "TooFull" "TooFull.__init__" (inClass (topS 17) 0) fd) : Binds K fd ["self", "waiting"] [] := I.F.bindsN fun _ _ _ _ _ _ us hl => match us, hl with | [_, _], _ => rfl
theorem scINoHand : FnScope ["self", "hand"] ["self", "hand"] (defScope (inClass (topS 19) 0)) := ⟨rfl, rfl, rfl, by decide +kernel, rfl, by decide +kernel, by decide +kernel⟩
theorem okINoHand {fd : FuncData} (I : XI K "NoHand" "NoHand.__init__" (inClass (topS 19) 0) fd) (T : TX K mg) : FnOk P w K mg base CX0 1 (ma K (ga K "NoHand") "__init__") fd ["self", "hand"] (spInit1 K (ga K "NoHand") "hand") := by
  refine ok0 I.F scINoHand (fun vs H Q E h => by obtain ⟨a, v, rfl, _⟩ := h; rfl) (fun cdv A outer s H vs Q E hr h => ⟨_, pss_cons (ps_ost (pv 0) (pv 1)) pss_nil, rd_init1 (T.x 17 (("NoHand" : Str), (["hand"] : List Str)) rfl) (List.mem_cons_self ..) vs H Q E _ h⟩)
theorem bINoHand {fd : FuncData} (I : XI K "NoHand" "NoHand.__init__" (inClass (topS 19) 0) fd) : Binds K fd ["self", "hand"] [] := I.F.bindsN fun _ _ _ _ _ _ us hl => match us, hl with | [_, _], _ => rfl
theorem scIBusy : FnScope ["self", "hand"] ["self", "hand"] (defScope (inClass (topS 20) 0)) := ⟨rfl, rfl, rfl, by decide +kernel, rfl, by decide +kernel, by decide +kernel⟩
theorem okIBusy {fd : FuncData} (I : XI K "Busy" "Busy.__init__" (inClass (topS 20) 0) fd) (T : TX K mg) : FnOk P w K mg base CX0 1 (ma K (ga K "Busy") "__init__") fd ["self", "hand"] (spInit1 K (ga K "Busy") "hand") := by
  refine ok0 I.F scIBusy (fun vs H Q E h => by obtain ⟨a, v, rfl, _⟩ := h; rfl) (fun cdv A outer s H vs Q E hr h => ⟨_, pss_cons (ps_ost (pv 0) (pv 1)) pss_nil, rd_init1 (T.x 18 (("Busy" : Str), (["hand"] : List Str)) rfl) (List.mem_cons_self ..) vs H Q E _ h⟩)
theorem bIBusy {fd : FuncData} (I : XI K "Busy" "Busy.__init__" (inClass (topS 20) 0) fd) : Binds K fd ["self", "hand"] [] := I.F.bindsN fun _ _ _ _ _ _ us hl => match us, hl with | [_, _], _ => rfl
theorem scIIdle : FnScope ["self", "hand"] ["self", "hand"] (defScope (inClass (topS 21) 0)) := ⟨rfl, rfl, rfl, by decide +kernel, rfl, by decide +kernel, by decide +kernel⟩
theorem okIIdle {fd : FuncData} (I : XI K "Idle" "Idle.__init__" (inClass (topS 21) 0) fd) (T : TX K mg) : FnOk P w K mg base CX0 1 (ma K (ga K "Idle") "__init__") fd ["self", "hand"] (spInit1 K (ga K "Idle") "hand") := by
  refine ok0 I.F scIIdle (fun vs H Q E h => by obtain ⟨a, v, rfl, _⟩ := h; rfl) (fun cdv A outer s H vs Q E hr h => ⟨_, pss_cons (ps_ost (pv 0) (pv 1)) pss_nil, rd_init1 (T.x 19 (("Idle" : Str), (["hand"] : List Str)) rfl) (List.mem_cons_self ..) vs H Q E _ h⟩)
theorem bIIdle {fd : FuncData} (I : XI K "Idle" "Idle.__init__" (inClass (topS 21) 0) fd) : Binds K fd ["self", "hand"] [] := I.F.bindsN fun _ _ _ _ _ _ us hl => match us, hl with | [_, _], _ => rfl
theorem scINoReport : FnScope ["self", "report"] ["self", "report"] (defScope (inClass (topS 22) 0)) := ⟨rfl, rfl, rfl, by decide +kernel, rfl, by decide +kernel, by decide +kernel⟩
theorem okINoReport {fd : FuncData} (I : XI K "NoReport" "NoReport.__init__" (inClass (topS 22) 0) fd) (T : TX K mg) : FnOk P w K mg base CX0 1 (ma K (ga K "NoReport") "__init__") fd ["self", "report"] (spInit1 K (ga K "NoReport") "report") := by
  refine ok0 I.F scINoReport (fun vs H Q E h => by obtain ⟨a, v, rfl, _⟩ := h; rfl) (fun cdv A outer s H vs Q E hr h => ⟨_, pss_cons (ps_ost (pv 0) (pv 1)) pss_nil, rd_init1 (T.x 20 (("NoReport" : Str), (["report"] : List Str)) rfl) (List.mem_cons_self ..) vs H Q E _ h⟩)
theorem bINoReport {fd : FuncData} (I : XI K "NoReport" "NoReport.__init__" (inClass (topS 22) 0) fd) : Binds K fd ["self", "report"] [] := I.F.bindsN fun _ _ _ _ _ _ us hl => match us, hl with | [_, _], _ => rfl
theorem scIBadGrammar : FnScope ["self", "at"] ["self", "at"] (defScope (inClass (topS 23) 0)) := ⟨rfl, rfl, rfl, by decide +kernel, rfl, by decide +kernel, by decide +kernel⟩
theorem okIBadGrammar {fd : FuncData} (I : XI K "BadGrammar" "BadGrammar.__init__" (inClass (topS 23) 0) fd) (T : TX K mg) : FnOk P w K mg base CX0 1 (ma K (ga K "BadGrammar") "__init__") fd ["self", "at"] (spInit1 K (ga K "BadGrammar") "at") := by
  refine ok0 I.F scIBadGrammar (fun vs H Q E h => by obtain ⟨a, v, rfl, _⟩ := h; rfl) (fun cdv A outer s H vs Q E hr h => ⟨_, pss_cons (ps_ost (pv 0) (pv 1)) pss_nil, rd_init1 (T.x 21 (("BadGrammar" : Str), (["at"] : List Str)) rfl) (List.mem_cons_self ..) vs H Q E _ h⟩)
theorem bIBadGrammar {fd : FuncData} (I : XI K "BadGrammar" "BadGrammar.__init__" (inClass (topS 23) 0) fd) : Binds K fd ["self", "at"] [] := I.F.bindsN fun _ _ _ _ _ _ us hl => match us, hl with | [_, _], _ => rfl
theorem scINoSymbol : FnScope ["self", "symbol"] ["self", "symbol"] (defScope (inClass (topS 24) 0)) := ⟨rfl, rfl, rfl, by decide +kernel, rfl, by decide +kernel, by decide +kernel⟩
theorem okINoSymbol {fd : FuncData} (I : XI K "NoSymbol" "NoSymbol.__init__" (inClass (topS 24) 0) fd) (T : TX K mg) : FnOk P w K mg base CX0 1 (ma K (ga K "NoSymbol") "__init__") fd ["self", "symbol"] (spInit1 K (ga K "NoSymbol") "symbol") := by
  refine ok0 I.F scINoSymbol (fun vs H Q E h => by obtain ⟨a, v, rfl, _⟩ := h; rfl) (fun cdv A outer s H vs Q E hr h => ⟨_, pss_cons (ps_ost (pv 0) (pv 1)) pss_nil, rd_init1 (T.x 22 (("NoSymbol" : Str), (["symbol"] : List Str)) rfl) (List.mem_cons_self ..) vs H Q E _ h⟩)
theorem bINoSymbol {fd : FuncData} (I : XI K "NoSymbol" "NoSymbol.__init__" (inClass (topS 24) 0) fd) : Binds K fd ["self", "symbol"] [] := I.F.bindsN fun _ _ _ _ _ _ us hl => match us, hl with | [_, _], _ => rfl
theorem scINoSign : FnScope ["self", "at"] ["self", "at"] (defScope (inClass (topS 25) 0)) := ⟨rfl, rfl, rfl, by decide +kernel, rfl, by decide +kernel, by decide +kernel⟩
theorem okINoSign {fd : FuncData} (I : XI K "NoSign" "NoSign.__init__" (inClass (topS 25) 0) fd) (T : TX K mg) : FnOk P w K mg base CX0 1 (ma K (ga K "NoSign") "__init__") fd ["self", "at"] (spInit1 K (ga K "NoSign") "at") := by
  refine ok0 I.F scINoSign (fun vs H Q E h => by obtain ⟨a, v, rfl, _⟩ := h; rfl) (fun cdv A outer s H vs Q E hr h => ⟨_, pss_cons (ps_ost (pv 0) (pv 1)) pss_nil, rd_init1 (T.x 23 (("NoSign" : Str), (["at"] : List Str)) rfl) (List.mem_cons_self ..) vs H Q E _ h⟩)
theorem bINoSign {fd : FuncData} (I : XI K "NoSign" "NoSign.__init__" (inClass (topS 25) 0) fd) : Binds K fd ["self", "at"] [] := I.F.bindsN fun _ _ _ _ _ _ us hl => match us, hl with | [_, _], _ => rfl
theorem scITooLong : FnScope ["self", "length"] ["self", "length"] (defScope (inClass (topS 26) 0)) := ⟨rfl, rfl, rfl, by decide +kernel, rfl, by decide +kernel, by decide +kernel⟩
theorem okITooLong {fd : FuncData} (I : XI K "TooLong" "TooLong.__init__" (inClass (topS 26) 0) fd) (T : TX K mg) : FnOk P w K mg base CX0 1 (ma K (ga K "TooLong") "__init__") fd ["self", "length"] (spInit1 K (ga K "TooLong") "length") := by
  refine ok0 I.F scITooLong (fun vs H Q E h => by obtain ⟨a, v, rfl, _⟩ := h; rfl) (fun cdv A outer s H vs Q E hr h => ⟨_, pss_cons (ps_ost (pv 0) (pv 1)) pss_nil, rd_init1 (T.x 24 (("TooLong" : Str), (["length"] : List Str)) rfl) (List.mem_cons_self ..) vs H Q E _ h⟩)
theorem bITooLong {fd : FuncData} (I : XI K "TooLong" "TooLong.__init__" (inClass (topS 26) 0) fd) : Binds K fd ["self", "length"] [] := I.F.bindsN fun _ _ _ _ _ _ us hl => match us, hl with | [_, _], _ => rfl
theorem scINoCut : FnScope ["self", "begin", "end"] ["self", "begin", "end"] (defScope (inClass (topS 28) 0)) := ⟨rfl, rfl, rfl, by decide +kernel, rfl, by decide +kernel, by decide +kernel⟩
theorem okINoCut {fd : FuncData} (I : XI K "NoCut" "NoCut.__init__" (inClass (topS 28) 0) fd) (T : TX K mg) : FnOk P w K mg base CX0 1 (ma K (ga K "NoCut") "__init__") fd ["self", "begin", "end"] (spInit2 K (ga K "NoCut") "begin" "end") := by
  refine ok0 I.F scINoCut (fun vs H Q E h => by obtain ⟨a, v, u, rfl, _⟩ := h; rfl) (fun cdv A outer s H vs Q E hr h => ⟨_, pss_cons (ps_ost (pv 0) (pv 1)) (pss_cons (ps_ost (pv 0) (pv 2)) pss_nil), rd_init2 (T.x 26 (("NoCut" : Str), (["begin", "end"] : List Str)) rfl) (List.mem_cons_self ..) (List.mem_cons_of_mem _ (List.mem_cons_self ..)) vs H Q E _ h⟩)
theorem bINoCut {fd : FuncData} (I : XI K "NoCut" "NoCut.__init__" (inClass (topS 28) 0) fd) : Binds K fd ["self", "begin", "end"] [] := I.F.bindsN fun _ _ _ _ _ _ us hl => match us, hl with | [_, _, _], _ => rfl
theorem scIBadFilling : FnScope ["self", "at"] ["self", "at"] (defScope (inClass (topS 29) 0)) := ⟨rfl, rfl, rfl, by decide +kernel, rfl, by decide +kernel, by decide +kernel⟩
theorem okIBadFilling {fd : FuncData} (I : XI K "BadFilling" "BadFilling.__init__" (inClass (topS 29) 0) fd) (T : TX K mg) : FnOk P w K mg base CX0 1 (ma K (ga K "BadFilling") "__init__") fd ["self", "at"] (spInit1 K (ga K "BadFilling") "at") := by
  refine ok0 I.F scIBadFilling (fun vs H Q E h => by obtain ⟨a, v, rfl, _⟩ := h; rfl) (fun cdv A outer s H vs Q E hr h => ⟨_, pss_cons (ps_ost (pv 0) (pv 1)) pss_nil, rd_init1 (T.x 27 (("BadFilling" : Str), (["at"] : List Str)) rfl) (List.mem_cons_self ..) vs H Q E _ h⟩)
theorem bIBadFilling {fd : FuncData} (I : XI K "BadFilling" "BadFilling.__init__" (inClass (topS 29) 0) fd) : Binds K fd ["self", "at"] [] := I.F.bindsN fun _ _ _ _ _ _ us hl => match us, hl with | [_, _], _ => rfl
theorem scINoName : FnScope ["self", "name"] ["self", "name"] (defScope (inClass (topS 30) 0)) := ⟨rfl, rfl, rfl, by decide +kernel, rfl, by decide +kernel, by decide +kernel⟩
theorem okINoName {fd : FuncData} (I : XI K "NoName" "NoName.__init__" (inClass (topS 30) 0) fd) (T : TX K mg) : FnOk P w K mg base CX0 1 (ma K (ga K "NoName") "__init__") fd ["self", "name"] (spInit1 K (ga K "NoName") "name") := by
  refine ok0 I.F scINoName (fun vs H Q E h => by obtain ⟨a, v, rfl, _⟩ := h; rfl) (fun cdv A outer s H vs Q E hr h => ⟨_, pss_cons (ps_ost (pv 0) (pv 1)) pss_nil, rd_init1 (T.x 28 (("NoName" : Str), (["name"] : List Str)) rfl) (List.mem_cons_self ..) vs H Q E _ h⟩)
theorem bINoName {fd : FuncData} (I : XI K "NoName" "NoName.__init__" (inClass (topS 30) 0) fd) : Binds K fd ["self", "name"] [] := I.F.bindsN fun _ _ _ _ _ _ us hl => match us, hl with | [_, _], _ => rfl
theorem scITooWide : FnScope ["self", "what"] ["self", "what"] (defScope (inClass (topS 34) 0)) := ⟨rfl, rfl, rfl, by decide +kernel, rfl, by decide +kernel, by decide +kernel⟩
theorem okITooWide {fd : FuncData} (I : XI K "TooWide" "TooWide.__init__" (inClass (topS 34) 0) fd) (T : TX K mg) : FnOk P w K mg base CX0 1 (ma K (ga K "TooWide") "__init__") fd ["self", "what"] (spInit1 K (ga K "TooWide") "what") := by
  refine ok0 I.F scITooWide (fun vs H Q E h => by obtain ⟨a, v, rfl, _⟩ := h; rfl) (fun cdv A outer s H vs Q E hr h => ⟨_, pss_cons (ps_ost (pv 0) (pv 1)) pss_nil, rd_init1 (T.x 32 (("TooWide" : Str), (["what"] : List Str)) rfl) (List.mem_cons_self ..) vs H Q E _ h⟩)
theorem bITooWide {fd : FuncData} (I : XI K "TooWide" "TooWide.__init__" (inClass (topS 34) 0) fd) : Binds K fd ["self", "what"] [] := I.F.bindsN fun _ _ _ _ _ _ us hl => match us, hl with | [_, _], _ => rfl
theorem scIBadScript : FnScope ["self", "what", "road"] ["self", "what", "road"] (defScope (inClass (topS 35) 0)) := ⟨rfl, rfl, rfl, by decide +kernel, rfl, by decide +kernel, by decide +kernel⟩
theorem okIBadScript {fd : FuncData} (I : XI K "BadScript" "BadScript.__init__" (inClass (topS 35) 0) fd) (T : TX K mg) : FnOk P w K mg base CX0 1 (ma K (ga K "BadScript") "__init__") fd ["self", "what", "road"] (spInit2 K (ga K "BadScript") "what" "road") := by
  refine ok0 I.F scIBadScript (fun vs H Q E h => by obtain ⟨a, v, u, rfl, _⟩ := h; rfl) (fun cdv A outer s H vs Q E hr h => ⟨_, pss_cons (ps_ost (pv 0) (pv 1)) (pss_cons (ps_ost (pv 0) (pv 2)) pss_nil), rd_init2 (T.x 33 (("BadScript" : Str), (["what", "road"] : List Str)) rfl) (List.mem_cons_self ..) (List.mem_cons_of_mem _ (List.mem_cons_self ..)) vs H Q E _ h⟩)
theorem bIBadScript {fd : FuncData} (I : XI K "BadScript" "BadScript.__init__" (inClass (topS 35) 0) fd) : Binds K fd ["self", "what", "road"] [] := I.F.bindsN fun _ _ _ _ _ _ us hl => match us, hl with | [_, _, _], _ => rfl
theorem scIShortInputs : FnScope ["self", "used"] ["self", "used"] (defScope (inClass (topS 36) 0)) := ⟨rfl, rfl, rfl, by decide +kernel, rfl, by decide +kernel, by decide +kernel⟩
theorem okIShortInputs {fd : FuncData} (I : XI K "ShortInputs" "ShortInputs.__init__" (inClass (topS 36) 0) fd) (T : TX K mg) : FnOk P w K mg base CX0 1 (ma K (ga K "ShortInputs") "__init__") fd ["self", "used"] (spInit1 K (ga K "ShortInputs") "used") := by
  refine ok0 I.F scIShortInputs (fun vs H Q E h => by obtain ⟨a, v, rfl, _⟩ := h; rfl) (fun cdv A outer s H vs Q E hr h => ⟨_, pss_cons (ps_ost (pv 0) (pv 1)) pss_nil, rd_init1 (T.x 34 (("ShortInputs" : Str), (["used"] : List Str)) rfl) (List.mem_cons_self ..) vs H Q E _ h⟩)
theorem bIShortInputs {fd : FuncData} (I : XI K "ShortInputs" "ShortInputs.__init__" (inClass (topS 36) 0) fd) : Binds K fd ["self", "used"] [] := I.F.bindsN fun _ _ _ _ _ _ us hl => match us, hl with | [_, _], _ => rfl
theorem scINoIf : FnScope ["self", "road"] ["self", "road"] (defScope (inClass (topS 37) 0)) := ⟨rfl, rfl, rfl, by decide +kernel, rfl, by decide +kernel, by decide +kernel⟩
theorem okINoIf {fd : FuncData} (I : XI K "NoIf" "NoIf.__init__" (inClass (topS 37) 0) fd) (T : TX K mg) : FnOk P w K mg base CX0 1 (ma K (ga K "NoIf") "__init__") fd ["self", "road"] (spInit1 K (ga K "NoIf") "road") := by
  refine ok0 I.F scINoIf (fun vs H Q E h => by obtain ⟨a, v, rfl, _⟩ := h; rfl) (fun cdv A outer s H vs Q E hr h => ⟨_, pss_cons (ps_ost (pv 0) (pv 1)) pss_nil, rd_init1 (T.x 35 (("NoIf" : Str), (["road"] : List Str)) rfl) (List.mem_cons_self ..) vs H Q E _ h⟩)
theorem bINoIf {fd : FuncData} (I : XI K "NoIf" "NoIf.__init__" (inClass (topS 37) 0) fd) : Binds K fd ["self", "road"] [] := I.F.bindsN fun _ _ _ _ _ _ us hl => match us, hl with | [_, _], _ => rfl
theorem scINoWay : FnScope ["self", "turns"] ["self", "turns"] (defScope (inClass (topS 38) 0)) := ⟨rfl, rfl, rfl, by decide +kernel, rfl, by decide +kernel, by decide +kernel⟩
theorem okINoWay {fd : FuncData} (I : XI K "NoWay" "NoWay.__init__" (inClass (topS 38) 0) fd) (T : TX K mg) : FnOk P w K mg base CX0 1 (ma K (ga K "NoWay") "__init__") fd ["self", "turns"] (spInit1 K (ga K "NoWay") "turns") := by
  refine ok0 I.F scINoWay (fun vs H Q E h => by obtain ⟨a, v, rfl, _⟩ := h; rfl) (fun cdv A outer s H vs Q E hr h => ⟨_, pss_cons (ps_ost (pv 0) (pv 1)) pss_nil, rd_init1 (T.x 36 (("NoWay" : Str), (["turns"] : List Str)) rfl) (List.mem_cons_self ..) vs H Q E _ h⟩)
theorem bINoWay {fd : FuncData} (I : XI K "NoWay" "NoWay.__init__" (inClass (topS 38) 0) fd) : Binds K fd ["self", "turns"] [] := I.F.bindsN fun _ _ _ _ _ _ us hl => match us, hl with | [_, _], _ => rfl
theorem scIBadDeed : FnScope ["self", "what"] ["self", "what"] (defScope (inClass (topS 40) 0)) := ⟨rfl, rfl, rfl, by decide +kernel, rfl, by decide +kernel, by decide +kernel⟩
theorem okIBadDeed {fd : FuncData} (I : XI K "BadDeed" "BadDeed.__init__" (inClass (topS 40) 0) fd) (T : TX K mg) : FnOk P w K mg base CX0 1 (ma K (ga K "BadDeed") "__init__") fd ["self", "what"] (spInit1 K (ga K "BadDeed") "what") := by
  refine ok0 I.F scIBadDeed (fun vs H Q E h => by obtain ⟨a, v, rfl, _⟩ := h; rfl) (fun cdv A outer s H vs Q E hr h => ⟨_, pss_cons (ps_ost (pv 0) (pv 1)) pss_nil, rd_init1 (T.x 38 (("BadDeed" : Str), (["what"] : List Str)) rfl) (List.mem_cons_self ..) vs H Q E _ h⟩)
theorem bIBadDeed {fd : FuncData} (I : XI K "BadDeed" "BadDeed.__init__" (inClass (topS 40) 0) fd) : Binds K fd ["self", "what"] [] := I.F.bindsN fun _ _ _ _ _ _ us hl => match us, hl with | [_, _], _ => rfl
theorem scINoPaper : FnScope ["self", "at"] ["self", "at"] (defScope (inClass (topS 46) 0)) := ⟨rfl, rfl, rfl, by decide +kernel, rfl, by decide +kernel, by decide +kernel⟩
theorem okINoPaper {fd : FuncData} (I : XI K "NoPaper" "NoPaper.__init__" (inClass (topS 46) 0) fd) (T : TX K mg) : FnOk P w K mg base CX0 1 (ma K (ga K "NoPaper") "__init__") fd ["self", "at"] (spInit1 K (ga K "NoPaper") "at") := by
  refine ok0 I.F scINoPaper (fun vs H Q E h => by obtain ⟨a, v, rfl, _⟩ := h; rfl) (fun cdv A outer s H vs Q E hr h => ⟨_, pss_cons (ps_ost (pv 0) (pv 1)) pss_nil, rd_init1 (T.x 44 (("NoPaper" : Str), (["at"] : List Str)) rfl) (List.mem_cons_self ..) vs H Q E _ h⟩)
theorem bINoPaper {fd : FuncData} (I : XI K "NoPaper" "NoPaper.__init__" (inClass (topS 46) 0) fd) : Binds K fd ["self", "at"] [] := I.F.bindsN fun _ _ _ _ _ _ us hl => match us, hl with | [_, _], _ => rfl
theorem scINoStatement : FnScope ["self", "road"] ["self", "road"] (defScope (inClass (topS 48) 0)) := ⟨rfl, rfl, rfl, by decide +kernel, rfl, by decide +kernel, by decide +kernel⟩
theorem okINoStatement {fd : FuncData} (I : XI K "NoStatement" "NoStatement.__init__" (inClass (topS 48) 0) fd) (T : TX K mg) : FnOk P w K mg base CX0 1 (ma K (ga K "NoStatement") "__init__") fd ["self", "road"] (spInit1 K (ga K "NoStatement") "road") := by
  refine ok0 I.F scINoStatement (fun vs H Q E h => by obtain ⟨a, v, rfl, _⟩ := h; rfl) (fun cdv A outer s H vs Q E hr h => ⟨_, pss_cons (ps_ost (pv 0) (pv 1)) pss_nil, rd_init1 (T.x 46 (("NoStatement" : Str), (["road"] : List Str)) rfl) (List.mem_cons_self ..) vs H Q E _ h⟩)
theorem bINoStatement {fd : FuncData} (I : XI K "NoStatement" "NoStatement.__init__" (inClass (topS 48) 0) fd) : Binds K fd ["self", "road"] [] := I.F.bindsN fun _ _ _ _ _ _ us hl => match us, hl with | [_, _], _ => rfl
theorem sc_law_what_rows : FnScope ["_law_thing_here", "_law_told", "_law_at", "_law_raised"] ["_law_thing_here"] (defScope (topS 56)) := ⟨rfl, rfl, rfl, by decide +kernel, rfl, by decide +kernel, by decide +kernel⟩
theorem ok_law_what_rows {f : Addr} {fd : FuncData} (F : FnP K "_law_what_rows" (topS 56) f fd) (T : TX K mg) {fdBadBook : FuncData} (IBadBook : XI K "BadBook" "BadBook.__init__" (inClass (topS 2) 0) fdBadBook) {fdBadSaying : FuncData} (IBadSaying : XI K "BadSaying" "BadSaying.__init__" (inClass (topS 4) 0) fdBadSaying) {fdBadExpression : FuncData} (IBadExpression : XI K "BadExpression" "BadExpression.__init__" (inClass (topS 6) 0) fdBadExpression) {fdTooWide : FuncData} (ITooWide : XI K "TooWide" "TooWide.__init__" (inClass (topS 34) 0) fdTooWide) {fdBadDeed : FuncData} (IBadDeed : XI K "BadDeed" "BadDeed.__init__" (inClass (topS 40) 0) fdBadDeed) : FnOk P w K mg base CX0 3 f fd ["_law_thing_here"] (spRows K) := by
  refine ok0 F sc_law_what_rows (fun vs H Q E h => by obtain ⟨v, rfl, _⟩ := h; rfl) (fun cdv A outer s H vs Q E hr h => ?_)
  have hr2 : Room 2 _ := hr
  exact ⟨_, pss_cons (ps_set (i := 1) sc_law_what_rows.nd rfl (Or.inl rfl) (pe_lst pa_nil)) (pss_cons (ps_for PassesOwn.never rfl (pi_tup (pe_tup (pa_cons (pe_tup (pa_cons pe_int (pa_cons (pe_oexV (T.x 0 (("BadBook" : Str), (["what"] : List Str)) rfl).ox IBadBook.iC IBadBook.tI (okIBadBook IBadBook T) hr2 (bIBadBook IBadBook) .nil pass0 (by rfl) (T.g 0 (("BadBook" : Str), (["what"] : List Str)) rfl) (pa_cons (pv 0) pa_nil)) pa_nil))) (pa_cons (pe_tup (pa_cons pe_int (pa_cons (pe_oexV (T.x 2 (("BadSaying" : Str), (["what"] : List Str)) rfl).ox IBadSaying.iC IBadSaying.tI (okIBadSaying IBadSaying T) hr2 (bIBadSaying IBadSaying) .nil pass0 (by rfl) (T.g 2 (("BadSaying" : Str), (["what"] : List Str)) rfl) (pa_cons (pv 0) pa_nil)) pa_nil))) (pa_cons (pe_tup (pa_cons pe_int (pa_cons (pe_oexV (T.x 4 (("BadExpression" : Str), (["what"] : List Str)) rfl).ox IBadExpression.iC IBadExpression.tI (okIBadExpression IBadExpression T) hr2 (bIBadExpression IBadExpression) .nil pass0 (by rfl) (T.g 4 (("BadExpression" : Str), (["what"] : List Str)) rfl) (pa_cons (pv 0) pa_nil)) pa_nil))) (pa_cons (pe_tup (pa_cons pe_int (pa_cons (pe_oexV (T.x 32 (("TooWide" : Str), (["what"] : List Str)) rfl).ox ITooWide.iC ITooWide.tI (okITooWide ITooWide T) hr2 (bITooWide ITooWide) .nil pass0 (by rfl) (T.g 32 (("TooWide" : Str), (["what"] : List Str)) rfl) (pa_cons (pv 0) pa_nil)) pa_nil))) (pa_cons (pe_tup (pa_cons pe_int (pa_cons (pe_oexV (T.x 38 (("BadDeed" : Str), (["what"] : List Str)) rfl).ox IBadDeed.iC IBadDeed.tI (okIBadDeed IBadDeed T) hr2 (bIBadDeed IBadDeed) .nil pass0 (by rfl) (T.g 38 (("BadDeed" : Str), (["what"] : List Str)) rfl) (pa_cons (pv 0) pa_nil)) pa_nil))) pa_nil))))))) (pg_tup (by rfl) (pgs_cons (pg_name (i := 2) sc_law_what_rows.nd rfl (Or.inl rfl)) (pgs_cons (pg_name (i := 3) sc_law_what_rows.nd rfl (Or.inl rfl)) pgs_nil)))
      (pss_cons (ps_expr (pe_bm PySem.F.plainAttrs_list PySem.F.slot_list_append PySem.F.type_list_append mt_append (pv 1) (pa_cons (pe_tup (pa_cons (pv 2) (pa_cons (pv 3) (pa_cons (pe_xfld (pv 3)) pa_nil)))) pa_nil))) pss_nil)) (pss_cons (ps_ret (pv 1)) pss_nil)),
    pure_rows (f := "what") (n := 5) T (by decide) (fun σ H v hσ => (ea_cons pair_mono (ee_pair (i := 0) (er := (("BadBook" : Str), (["what"] : List Str))) hσ rfl (List.mem_cons_self ..)) (ea_cons pair_mono (ee_pair (i := 2) (er := (("BadSaying" : Str), (["what"] : List Str))) hσ rfl (List.mem_cons_self ..)) (ea_cons pair_mono (ee_pair (i := 4) (er := (("BadExpression" : Str), (["what"] : List Str))) hσ rfl (List.mem_cons_self ..)) (ea_cons pair_mono (ee_pair (i := 32) (er := (("TooWide" : Str), (["what"] : List Str))) hσ rfl (List.mem_cons_self ..)) (ea_cons pair_mono (ee_pair (i := 38) (er := (("BadDeed" : Str), (["what"] : List Str))) hσ rfl (List.mem_cons_self ..)) ea_nil)))))) vs H Q E h⟩
theorem sc_law_how_rows : FnScope ["_law_thing_here", "_law_told", "_law_at", "_law_raised"] ["_law_thing_here"] (defScope (topS 57)) := ⟨rfl, rfl, rfl, by decide +kernel, rfl, by decide +kernel, by decide +kernel⟩
theorem ok_law_how_rows {f : Addr} {fd : FuncData} (F : FnP K "_law_how_rows" (topS 57) f fd) (T : TX K mg) {fdEnded : FuncData} (IEnded : XI K "Ended" "Ended.__init__" (inClass (topS 13) 0) fdEnded) : FnOk P w K mg base CX0 3 f fd ["_law_thing_here"] (spRows K) := by
  refine ok0 F sc_law_how_rows (fun vs H Q E h => by obtain ⟨v, rfl, _⟩ := h; rfl) (fun cdv A outer s H vs Q E hr h => ?_)
  have hr2 : Room 2 _ := hr
  exact ⟨_, pss_cons (ps_set (i := 1) sc_law_how_rows.nd rfl (Or.inl rfl) (pe_lst pa_nil)) (pss_cons (ps_for PassesOwn.never rfl (pi_tup (pe_tup (pa_cons (pe_tup (pa_cons pe_int (pa_cons (pe_oexV (T.x 11 (("Ended" : Str), (["how"] : List Str)) rfl).ox IEnded.iC IEnded.tI (okIEnded IEnded T) hr2 (bIEnded IEnded) .nil pass0 (by rfl) (T.g 11 (("Ended" : Str), (["how"] : List Str)) rfl) (pa_cons (pv 0) pa_nil)) pa_nil))) pa_nil))) (pg_tup (by rfl) (pgs_cons (pg_name (i := 2) sc_law_how_rows.nd rfl (Or.inl rfl)) (pgs_cons (pg_name (i := 3) sc_law_how_rows.nd rfl (Or.inl rfl)) pgs_nil)))
      (pss_cons (ps_expr (pe_bm PySem.F.plainAttrs_list PySem.F.slot_list_append PySem.F.type_list_append mt_append (pv 1) (pa_cons (pe_tup (pa_cons (pv 2) (pa_cons (pv 3) (pa_cons (pe_xfld (pv 3)) pa_nil)))) pa_nil))) pss_nil)) (pss_cons (ps_ret (pv 1)) pss_nil)),
    pure_rows (f := "how") (n := 1) T (by decide) (fun σ H v hσ => (ea_cons pair_mono (ee_pair (i := 11) (er := (("Ended" : Str), (["how"] : List Str))) hσ rfl (List.mem_cons_self ..)) ea_nil)) vs H Q E h⟩
theorem sc_law_number_rows : FnScope ["_law_thing_here", "_law_told", "_law_at", "_law_raised"] ["_law_thing_here"] (defScope (topS 58)) := ⟨rfl, rfl, rfl, by decide +kernel, rfl, by decide +kernel, by decide +kernel⟩
theorem ok_law_number_rows {f : Addr} {fd : FuncData} (F : FnP K "_law_number_rows" (topS 58) f fd) (T : TX K mg) {fdNoBook : FuncData} (INoBook : XI K "NoBook" "NoBook.__init__" (inClass (topS 14) 0) fdNoBook) {fdNotOpen : FuncData} (INotOpen : XI K "NotOpen" "NotOpen.__init__" (inClass (topS 15) 0) fdNotOpen) {fdNotLooked : FuncData} (INotLooked : XI K "NotLooked" "NotLooked.__init__" (inClass (topS 16) 0) fdNotLooked) : FnOk P w K mg base CX0 3 f fd ["_law_thing_here"] (spRows K) := by
  refine ok0 F sc_law_number_rows (fun vs H Q E h => by obtain ⟨v, rfl, _⟩ := h; rfl) (fun cdv A outer s H vs Q E hr h => ?_)
  have hr2 : Room 2 _ := hr
  exact ⟨_, pss_cons (ps_set (i := 1) sc_law_number_rows.nd rfl (Or.inl rfl) (pe_lst pa_nil)) (pss_cons (ps_for PassesOwn.never rfl (pi_tup (pe_tup (pa_cons (pe_tup (pa_cons pe_int (pa_cons (pe_oexV (T.x 12 (("NoBook" : Str), (["number"] : List Str)) rfl).ox INoBook.iC INoBook.tI (okINoBook INoBook T) hr2 (bINoBook INoBook) .nil pass0 (by rfl) (T.g 12 (("NoBook" : Str), (["number"] : List Str)) rfl) (pa_cons (pv 0) pa_nil)) pa_nil))) (pa_cons (pe_tup (pa_cons pe_int (pa_cons (pe_oexV (T.x 13 (("NotOpen" : Str), (["number"] : List Str)) rfl).ox INotOpen.iC INotOpen.tI (okINotOpen INotOpen T) hr2 (bINotOpen INotOpen) .nil pass0 (by rfl) (T.g 13 (("NotOpen" : Str), (["number"] : List Str)) rfl) (pa_cons (pv 0) pa_nil)) pa_nil))) (pa_cons (pe_tup (pa_cons pe_int (pa_cons (pe_oexV (T.x 14 (("NotLooked" : Str), (["number"] : List Str)) rfl).ox INotLooked.iC INotLooked.tI (okINotLooked INotLooked T) hr2 (bINotLooked INotLooked) .nil pass0 (by rfl) (T.g 14 (("NotLooked" : Str), (["number"] : List Str)) rfl) (pa_cons (pv 0) pa_nil)) pa_nil))) pa_nil))))) (pg_tup (by rfl) (pgs_cons (pg_name (i := 2) sc_law_number_rows.nd rfl (Or.inl rfl)) (pgs_cons (pg_name (i := 3) sc_law_number_rows.nd rfl (Or.inl rfl)) pgs_nil)))
      (pss_cons (ps_expr (pe_bm PySem.F.plainAttrs_list PySem.F.slot_list_append PySem.F.type_list_append mt_append (pv 1) (pa_cons (pe_tup (pa_cons (pv 2) (pa_cons (pv 3) (pa_cons (pe_xfld (pv 3)) pa_nil)))) pa_nil))) pss_nil)) (pss_cons (ps_ret (pv 1)) pss_nil)),
    pure_rows (f := "number") (n := 3) T (by decide) (fun σ H v hσ => (ea_cons pair_mono (ee_pair (i := 12) (er := (("NoBook" : Str), (["number"] : List Str))) hσ rfl (List.mem_cons_self ..)) (ea_cons pair_mono (ee_pair (i := 13) (er := (("NotOpen" : Str), (["number"] : List Str))) hσ rfl (List.mem_cons_self ..)) (ea_cons pair_mono (ee_pair (i := 14) (er := (("NotLooked" : Str), (["number"] : List Str))) hσ rfl (List.mem_cons_self ..)) ea_nil)))) vs H Q E h⟩
theorem sc_law_waiting_rows : FnScope ["_law_thing_here", "_law_told", "_law_at", "_law_raised"] ["_law_thing_here"] (defScope (topS 59)) := ⟨rfl, rfl, rfl, by decide +kernel, rfl, by decide +kernel, by decide +kernel⟩
theorem ok_law_waiting_rows {f : Addr} {fd : FuncData} (F : FnP K "_law_waiting_rows" (topS 59) f fd) (T : TX K mg) {fdTooFull : FuncData} (ITooFull : XI K "TooFull" "TooFull.__init__" (inClass (topS 17) 0) fdTooFull) : FnOk P w K mg base CX0 3 f fd ["_law_thing_here"] (spRows K) := by
  refine ok0 F sc_law_waiting_rows (fun vs H Q E h => by obtain ⟨v, rfl, _⟩ := h; rfl) (fun cdv A outer s H vs Q E hr h => ?_)
  have hr2 : Room 2 _ := hr
  exact ⟨_, pss_cons (ps_set (i := 1) sc_law_waiting_rows.nd rfl (Or.inl rfl) (pe_lst pa_nil)) (pss_cons (ps_for PassesOwn.never rfl (pi_tup (pe_tup (pa_cons (pe_tup (pa_cons pe_int (pa_cons (pe_oexV (T.x 15 (("TooFull" : Str), (["waiting"] : List Str)) rfl).ox ITooFull.iC ITooFull.tI (okITooFull ITooFull T) hr2 (bITooFull ITooFull) .nil pass0 (by rfl) (T.g 15 (("TooFull" : Str), (["waiting"] : List Str)) rfl) (pa_cons (pv 0) pa_nil)) pa_nil))) pa_nil))) (pg_tup (by rfl) (pgs_cons (pg_name (i := 2) sc_law_waiting_rows.nd rfl (Or.inl rfl)) (pgs_cons (pg_name (i := 3) sc_law_waiting_rows.nd rfl (Or.inl rfl)) pgs_nil)))
      (pss_cons (ps_expr (pe_bm PySem.F.plainAttrs_list PySem.F.slot_list_append PySem.F.type_list_append mt_append (pv 1) (pa_cons (pe_tup (pa_cons (pv 2) (pa_cons (pv 3) (pa_cons (pe_xfld (pv 3)) pa_nil)))) pa_nil))) pss_nil)) (pss_cons (ps_ret (pv 1)) pss_nil)),
    pure_rows (f := "waiting") (n := 1) T (by decide) (fun σ H v hσ => (ea_cons pair_mono (ee_pair (i := 15) (er := (("TooFull" : Str), (["waiting"] : List Str))) hσ rfl (List.mem_cons_self ..)) ea_nil)) vs H Q E h⟩
theorem sc_law_hand_rows : FnScope ["_law_thing_here", "_law_told", "_law_at", "_law_raised"] ["_law_thing_here"] (defScope (topS 60)) := ⟨rfl, rfl, rfl, by decide +kernel, rfl, by decide +kernel, by decide +kernel⟩
theorem ok_law_hand_rows {f : Addr} {fd : FuncData} (F : FnP K "_law_hand_rows" (topS 60) f fd) (T : TX K mg) {fdNoHand : FuncData} (INoHand : XI K "NoHand" "NoHand.__init__" (inClass (topS 19) 0) fdNoHand) {fdBusy : FuncData} (IBusy : XI K "Busy" "Busy.__init__" (inClass (topS 20) 0) fdBusy) {fdIdle : FuncData} (IIdle : XI K "Idle" "Idle.__init__" (inClass (topS 21) 0) fdIdle) : FnOk P w K mg base CX0 3 f fd ["_law_thing_here"] (spRows K) := by
  refine ok0 F sc_law_hand_rows (fun vs H Q E h => by obtain ⟨v, rfl, _⟩ := h; rfl) (fun cdv A outer s H vs Q E hr h => ?_)
  have hr2 : Room 2 _ := hr
  exact ⟨_, pss_cons (ps_set (i := 1) sc_law_hand_rows.nd rfl (Or.inl rfl) (pe_lst pa_nil)) (pss_cons (ps_for PassesOwn.never rfl (pi_tup (pe_tup (pa_cons (pe_tup (pa_cons pe_int (pa_cons (pe_oexV (T.x 17 (("NoHand" : Str), (["hand"] : List Str)) rfl).ox INoHand.iC INoHand.tI (okINoHand INoHand T) hr2 (bINoHand INoHand) .nil pass0 (by rfl) (T.g 17 (("NoHand" : Str), (["hand"] : List Str)) rfl) (pa_cons (pv 0) pa_nil)) pa_nil))) (pa_cons (pe_tup (pa_cons pe_int (pa_cons (pe_oexV (T.x 18 (("Busy" : Str), (["hand"] : List Str)) rfl).ox IBusy.iC IBusy.tI (okIBusy IBusy T) hr2 (bIBusy IBusy) .nil pass0 (by rfl) (T.g 18 (("Busy" : Str), (["hand"] : List Str)) rfl) (pa_cons (pv 0) pa_nil)) pa_nil))) (pa_cons (pe_tup (pa_cons pe_int (pa_cons (pe_oexV (T.x 19 (("Idle" : Str), (["hand"] : List Str)) rfl).ox IIdle.iC IIdle.tI (okIIdle IIdle T) hr2 (bIIdle IIdle) .nil pass0 (by rfl) (T.g 19 (("Idle" : Str), (["hand"] : List Str)) rfl) (pa_cons (pv 0) pa_nil)) pa_nil))) pa_nil))))) (pg_tup (by rfl) (pgs_cons (pg_name (i := 2) sc_law_hand_rows.nd rfl (Or.inl rfl)) (pgs_cons (pg_name (i := 3) sc_law_hand_rows.nd rfl (Or.inl rfl)) pgs_nil)))
      (pss_cons (ps_expr (pe_bm PySem.F.plainAttrs_list PySem.F.slot_list_append PySem.F.type_list_append mt_append (pv 1) (pa_cons (pe_tup (pa_cons (pv 2) (pa_cons (pv 3) (pa_cons (pe_xfld (pv 3)) pa_nil)))) pa_nil))) pss_nil)) (pss_cons (ps_ret (pv 1)) pss_nil)),
    pure_rows (f := "hand") (n := 3) T (by decide) (fun σ H v hσ => (ea_cons pair_mono (ee_pair (i := 17) (er := (("NoHand" : Str), (["hand"] : List Str))) hσ rfl (List.mem_cons_self ..)) (ea_cons pair_mono (ee_pair (i := 18) (er := (("Busy" : Str), (["hand"] : List Str))) hσ rfl (List.mem_cons_self ..)) (ea_cons pair_mono (ee_pair (i := 19) (er := (("Idle" : Str), (["hand"] : List Str))) hσ rfl (List.mem_cons_self ..)) ea_nil)))) vs H Q E h⟩
theorem sc_law_report_rows : FnScope ["_law_thing_here", "_law_told", "_law_at", "_law_raised"] ["_law_thing_here"] (defScope (topS 61)) := ⟨rfl, rfl, rfl, by decide +kernel, rfl, by decide +kernel, by decide +kernel⟩
theorem ok_law_report_rows {f : Addr} {fd : FuncData} (F : FnP K "_law_report_rows" (topS 61) f fd) (T : TX K mg) {fdNoReport : FuncData} (INoReport : XI K "NoReport" "NoReport.__init__" (inClass (topS 22) 0) fdNoReport) : FnOk P w K mg base CX0 3 f fd ["_law_thing_here"] (spRows K) := by
  refine ok0 F sc_law_report_rows (fun vs H Q E h => by obtain ⟨v, rfl, _⟩ := h; rfl) (fun cdv A outer s H vs Q E hr h => ?_)
  have hr2 : Room 2 _ := hr
  exact ⟨_, pss_cons (ps_set (i := 1) sc_law_report_rows.nd rfl (Or.inl rfl) (pe_lst pa_nil)) (pss_cons (ps_for PassesOwn.never rfl (pi_tup (pe_tup (pa_cons (pe_tup (pa_cons pe_int (pa_cons (pe_oexV (T.x 20 (("NoReport" : Str), (["report"] : List Str)) rfl).ox INoReport.iC INoReport.tI (okINoReport INoReport T) hr2 (bINoReport INoReport) .nil pass0 (by rfl) (T.g 20 (("NoReport" : Str), (["report"] : List Str)) rfl) (pa_cons (pv 0) pa_nil)) pa_nil))) pa_nil))) (pg_tup (by rfl) (pgs_cons (pg_name (i := 2) sc_law_report_rows.nd rfl (Or.inl rfl)) (pgs_cons (pg_name (i := 3) sc_law_report_rows.nd rfl (Or.inl rfl)) pgs_nil)))
      (pss_cons (ps_expr (pe_bm PySem.F.plainAttrs_list PySem.F.slot_list_append PySem.F.type_list_append mt_append (pv 1) (pa_cons (pe_tup (pa_cons (pv 2) (pa_cons (pv 3) (pa_cons (pe_xfld (pv 3)) pa_nil)))) pa_nil))) pss_nil)) (pss_cons (ps_ret (pv 1)) pss_nil)),
    pure_rows (f := "report") (n := 1) T (by decide) (fun σ H v hσ => (ea_cons pair_mono (ee_pair (i := 20) (er := (("NoReport" : Str), (["report"] : List Str))) hσ rfl (List.mem_cons_self ..)) ea_nil)) vs H Q E h⟩
theorem sc_law_at_rows : FnScope ["_law_thing_here", "_law_told", "_law_at", "_law_raised"] ["_law_thing_here"] (defScope (topS 62)) := ⟨rfl, rfl, rfl, by decide +kernel, rfl, by decide +kernel, by decide +kernel⟩
theorem ok_law_at_rows {f : Addr} {fd : FuncData} (F : FnP K "_law_at_rows" (topS 62) f fd) (T : TX K mg) {fdBadGrammar : FuncData} (IBadGrammar : XI K "BadGrammar" "BadGrammar.__init__" (inClass (topS 23) 0) fdBadGrammar) {fdNoSign : FuncData} (INoSign : XI K "NoSign" "NoSign.__init__" (inClass (topS 25) 0) fdNoSign) {fdBadFilling : FuncData} (IBadFilling : XI K "BadFilling" "BadFilling.__init__" (inClass (topS 29) 0) fdBadFilling) {fdNoPaper : FuncData} (INoPaper : XI K "NoPaper" "NoPaper.__init__" (inClass (topS 46) 0) fdNoPaper) : FnOk P w K mg base CX0 3 f fd ["_law_thing_here"] (spRows K) := by
  refine ok0 F sc_law_at_rows (fun vs H Q E h => by obtain ⟨v, rfl, _⟩ := h; rfl) (fun cdv A outer s H vs Q E hr h => ?_)
  have hr2 : Room 2 _ := hr
  exact ⟨_, pss_cons (ps_set (i := 1) sc_law_at_rows.nd rfl (Or.inl rfl) (pe_lst pa_nil)) (pss_cons (ps_for PassesOwn.never rfl (pi_tup (pe_tup (pa_cons (pe_tup (pa_cons pe_int (pa_cons (pe_oexV (T.x 21 (("BadGrammar" : Str), (["at"] : List Str)) rfl).ox IBadGrammar.iC IBadGrammar.tI (okIBadGrammar IBadGrammar T) hr2 (bIBadGrammar IBadGrammar) .nil pass0 (by rfl) (T.g 21 (("BadGrammar" : Str), (["at"] : List Str)) rfl) (pa_cons (pv 0) pa_nil)) pa_nil))) (pa_cons (pe_tup (pa_cons pe_int (pa_cons (pe_oexV (T.x 23 (("NoSign" : Str), (["at"] : List Str)) rfl).ox INoSign.iC INoSign.tI (okINoSign INoSign T) hr2 (bINoSign INoSign) .nil pass0 (by rfl) (T.g 23 (("NoSign" : Str), (["at"] : List Str)) rfl) (pa_cons (pv 0) pa_nil)) pa_nil))) (pa_cons (pe_tup (pa_cons pe_int (pa_cons (pe_oexV (T.x 27 (("BadFilling" : Str), (["at"] : List Str)) rfl).ox IBadFilling.iC IBadFilling.tI (okIBadFilling IBadFilling T) hr2 (bIBadFilling IBadFilling) .nil pass0 (by rfl) (T.g 27 (("BadFilling" : Str), (["at"] : List Str)) rfl) (pa_cons (pv 0) pa_nil)) pa_nil))) (pa_cons (pe_tup (pa_cons pe_int (pa_cons (pe_oexV (T.x 44 (("NoPaper" : Str), (["at"] : List Str)) rfl).ox INoPaper.iC INoPaper.tI (okINoPaper INoPaper T) hr2 (bINoPaper INoPaper) .nil pass0 (by rfl) (T.g 44 (("NoPaper" : Str), (["at"] : List Str)) rfl) (pa_cons (pv 0) pa_nil)) pa_nil))) pa_nil)))))) (pg_tup (by rfl) (pgs_cons (pg_name (i := 2) sc_law_at_rows.nd rfl (Or.inl rfl)) (pgs_cons (pg_name (i := 3) sc_law_at_rows.nd rfl (Or.inl rfl)) pgs_nil)))
      (pss_cons (ps_expr (pe_bm PySem.F.plainAttrs_list PySem.F.slot_list_append PySem.F.type_list_append mt_append (pv 1) (pa_cons (pe_tup (pa_cons (pv 2) (pa_cons (pv 3) (pa_cons (pe_xfld (pv 3)) pa_nil)))) pa_nil))) pss_nil)) (pss_cons (ps_ret (pv 1)) pss_nil)),
    pure_rows (f := "at") (n := 4) T (by decide) (fun σ H v hσ => (ea_cons pair_mono (ee_pair (i := 21) (er := (("BadGrammar" : Str), (["at"] : List Str))) hσ rfl (List.mem_cons_self ..)) (ea_cons pair_mono (ee_pair (i := 23) (er := (("NoSign" : Str), (["at"] : List Str))) hσ rfl (List.mem_cons_self ..)) (ea_cons pair_mono (ee_pair (i := 27) (er := (("BadFilling" : Str), (["at"] : List Str))) hσ rfl (List.mem_cons_self ..)) (ea_cons pair_mono (ee_pair (i := 44) (er := (("NoPaper" : Str), (["at"] : List Str))) hσ rfl (List.mem_cons_self ..)) ea_nil))))) vs H Q E h⟩
theorem sc_law_symbol_rows : FnScope ["_law_thing_here", "_law_told", "_law_at", "_law_raised"] ["_law_thing_here"] (defScope (topS 63)) := ⟨rfl, rfl, rfl, by decide +kernel, rfl, by decide +kernel, by decide +kernel⟩
theorem ok_law_symbol_rows {f : Addr} {fd : FuncData} (F : FnP K "_law_symbol_rows" (topS 63) f fd) (T : TX K mg) {fdNoSymbol : FuncData} (INoSymbol : XI K "NoSymbol" "NoSymbol.__init__" (inClass (topS 24) 0) fdNoSymbol) : FnOk P w K mg base CX0 3 f fd ["_law_thing_here"] (spRows K) := by
  refine ok0 F sc_law_symbol_rows (fun vs H Q E h => by obtain ⟨v, rfl, _⟩ := h; rfl) (fun cdv A outer s H vs Q E hr h => ?_)
  have hr2 : Room 2 _ := hr
  exact ⟨_, pss_cons (ps_set (i := 1) sc_law_symbol_rows.nd rfl (Or.inl rfl) (pe_lst pa_nil)) (pss_cons (ps_for PassesOwn.never rfl (pi_tup (pe_tup (pa_cons (pe_tup (pa_cons pe_int (pa_cons (pe_oexV (T.x 22 (("NoSymbol" : Str), (["symbol"] : List Str)) rfl).ox INoSymbol.iC INoSymbol.tI (okINoSymbol INoSymbol T) hr2 (bINoSymbol INoSymbol) .nil pass0 (by rfl) (T.g 22 (("NoSymbol" : Str), (["symbol"] : List Str)) rfl) (pa_cons (pv 0) pa_nil)) pa_nil))) pa_nil))) (pg_tup (by rfl) (pgs_cons (pg_name (i := 2) sc_law_symbol_rows.nd rfl (Or.inl rfl)) (pgs_cons (pg_name (i := 3) sc_law_symbol_rows.nd rfl (Or.inl rfl)) pgs_nil)))
      (pss_cons (ps_expr (pe_bm PySem.F.plainAttrs_list PySem.F.slot_list_append PySem.F.type_list_append mt_append (pv 1) (pa_cons (pe_tup (pa_cons (pv 2) (pa_cons (pv 3) (pa_cons (pe_xfld (pv 3)) pa_nil)))) pa_nil))) pss_nil)) (pss_cons (ps_ret (pv 1)) pss_nil)),
    pure_rows (f := "symbol") (n := 1) T (by decide) (fun σ H v hσ => (ea_cons pair_mono (ee_pair (i := 22) (er := (("NoSymbol" : Str), (["symbol"] : List Str))) hσ rfl (List.mem_cons_self ..)) ea_nil)) vs H Q E h⟩
theorem sc_law_length_rows : FnScope ["_law_thing_here", "_law_told", "_law_at", "_law_raised"] ["_law_thing_here"] (defScope (topS 64)) := ⟨rfl, rfl, rfl, by decide +kernel, rfl, by decide +kernel, by decide +kernel⟩
theorem ok_law_length_rows {f : Addr} {fd : FuncData} (F : FnP K "_law_length_rows" (topS 64) f fd) (T : TX K mg) {fdTooLong : FuncData} (ITooLong : XI K "TooLong" "TooLong.__init__" (inClass (topS 26) 0) fdTooLong) : FnOk P w K mg base CX0 3 f fd ["_law_thing_here"] (spRows K) := by
  refine ok0 F sc_law_length_rows (fun vs H Q E h => by obtain ⟨v, rfl, _⟩ := h; rfl) (fun cdv A outer s H vs Q E hr h => ?_)
  have hr2 : Room 2 _ := hr
  exact ⟨_, pss_cons (ps_set (i := 1) sc_law_length_rows.nd rfl (Or.inl rfl) (pe_lst pa_nil)) (pss_cons (ps_for PassesOwn.never rfl (pi_tup (pe_tup (pa_cons (pe_tup (pa_cons pe_int (pa_cons (pe_oexV (T.x 24 (("TooLong" : Str), (["length"] : List Str)) rfl).ox ITooLong.iC ITooLong.tI (okITooLong ITooLong T) hr2 (bITooLong ITooLong) .nil pass0 (by rfl) (T.g 24 (("TooLong" : Str), (["length"] : List Str)) rfl) (pa_cons (pv 0) pa_nil)) pa_nil))) pa_nil))) (pg_tup (by rfl) (pgs_cons (pg_name (i := 2) sc_law_length_rows.nd rfl (Or.inl rfl)) (pgs_cons (pg_name (i := 3) sc_law_length_rows.nd rfl (Or.inl rfl)) pgs_nil)))
      (pss_cons (ps_expr (pe_bm PySem.F.plainAttrs_list PySem.F.slot_list_append PySem.F.type_list_append mt_append (pv 1) (pa_cons (pe_tup (pa_cons (pv 2) (pa_cons (pv 3) (pa_cons (pe_xfld (pv 3)) pa_nil)))) pa_nil))) pss_nil)) (pss_cons (ps_ret (pv 1)) pss_nil)),
    pure_rows (f := "length") (n := 1) T (by decide) (fun σ H v hσ => (ea_cons pair_mono (ee_pair (i := 24) (er := (("TooLong" : Str), (["length"] : List Str))) hσ rfl (List.mem_cons_self ..)) ea_nil)) vs H Q E h⟩
theorem sc_law_name_rows : FnScope ["_law_thing_here", "_law_told", "_law_at", "_law_raised"] ["_law_thing_here"] (defScope (topS 65)) := ⟨rfl, rfl, rfl, by decide +kernel, rfl, by decide +kernel, by decide +kernel⟩
theorem ok_law_name_rows {f : Addr} {fd : FuncData} (F : FnP K "_law_name_rows" (topS 65) f fd) (T : TX K mg) {fdNoName : FuncData} (INoName : XI K "NoName" "NoName.__init__" (inClass (topS 30) 0) fdNoName) : FnOk P w K mg base CX0 3 f fd ["_law_thing_here"] (spRows K) := by
  refine ok0 F sc_law_name_rows (fun vs H Q E h => by obtain ⟨v, rfl, _⟩ := h; rfl) (fun cdv A outer s H vs Q E hr h => ?_)
  have hr2 : Room 2 _ := hr
  exact ⟨_, pss_cons (ps_set (i := 1) sc_law_name_rows.nd rfl (Or.inl rfl) (pe_lst pa_nil)) (pss_cons (ps_for PassesOwn.never rfl (pi_tup (pe_tup (pa_cons (pe_tup (pa_cons pe_int (pa_cons (pe_oexV (T.x 28 (("NoName" : Str), (["name"] : List Str)) rfl).ox INoName.iC INoName.tI (okINoName INoName T) hr2 (bINoName INoName) .nil pass0 (by rfl) (T.g 28 (("NoName" : Str), (["name"] : List Str)) rfl) (pa_cons (pv 0) pa_nil)) pa_nil))) pa_nil))) (pg_tup (by rfl) (pgs_cons (pg_name (i := 2) sc_law_name_rows.nd rfl (Or.inl rfl)) (pgs_cons (pg_name (i := 3) sc_law_name_rows.nd rfl (Or.inl rfl)) pgs_nil)))
      (pss_cons (ps_expr (pe_bm PySem.F.plainAttrs_list PySem.F.slot_list_append PySem.F.type_list_append mt_append (pv 1) (pa_cons (pe_tup (pa_cons (pv 2) (pa_cons (pv 3) (pa_cons (pe_xfld (pv 3)) pa_nil)))) pa_nil))) pss_nil)) (pss_cons (ps_ret (pv 1)) pss_nil)),
    pure_rows (f := "name") (n := 1) T (by decide) (fun σ H v hσ => (ea_cons pair_mono (ee_pair (i := 28) (er := (("NoName" : Str), (["name"] : List Str))) hσ rfl (List.mem_cons_self ..)) ea_nil)) vs H Q E h⟩
theorem sc_law_used_rows : FnScope ["_law_thing_here", "_law_told", "_law_at", "_law_raised"] ["_law_thing_here"] (defScope (topS 66)) := ⟨rfl, rfl, rfl, by decide +kernel, rfl, by decide +kernel, by decide +kernel⟩
theorem ok_law_used_rows {f : Addr} {fd : FuncData} (F : FnP K "_law_used_rows" (topS 66) f fd) (T : TX K mg) {fdShortInputs : FuncData} (IShortInputs : XI K "ShortInputs" "ShortInputs.__init__" (inClass (topS 36) 0) fdShortInputs) : FnOk P w K mg base CX0 3 f fd ["_law_thing_here"] (spRows K) := by
  refine ok0 F sc_law_used_rows (fun vs H Q E h => by obtain ⟨v, rfl, _⟩ := h; rfl) (fun cdv A outer s H vs Q E hr h => ?_)
  have hr2 : Room 2 _ := hr
  exact ⟨_, pss_cons (ps_set (i := 1) sc_law_used_rows.nd rfl (Or.inl rfl) (pe_lst pa_nil)) (pss_cons (ps_for PassesOwn.never rfl (pi_tup (pe_tup (pa_cons (pe_tup (pa_cons pe_int (pa_cons (pe_oexV (T.x 34 (("ShortInputs" : Str), (["used"] : List Str)) rfl).ox IShortInputs.iC IShortInputs.tI (okIShortInputs IShortInputs T) hr2 (bIShortInputs IShortInputs) .nil pass0 (by rfl) (T.g 34 (("ShortInputs" : Str), (["used"] : List Str)) rfl) (pa_cons (pv 0) pa_nil)) pa_nil))) pa_nil))) (pg_tup (by rfl) (pgs_cons (pg_name (i := 2) sc_law_used_rows.nd rfl (Or.inl rfl)) (pgs_cons (pg_name (i := 3) sc_law_used_rows.nd rfl (Or.inl rfl)) pgs_nil)))
      (pss_cons (ps_expr (pe_bm PySem.F.plainAttrs_list PySem.F.slot_list_append PySem.F.type_list_append mt_append (pv 1) (pa_cons (pe_tup (pa_cons (pv 2) (pa_cons (pv 3) (pa_cons (pe_xfld (pv 3)) pa_nil)))) pa_nil))) pss_nil)) (pss_cons (ps_ret (pv 1)) pss_nil)),
    pure_rows (f := "used") (n := 1) T (by decide) (fun σ H v hσ => (ea_cons pair_mono (ee_pair (i := 34) (er := (("ShortInputs" : Str), (["used"] : List Str))) hσ rfl (List.mem_cons_self ..)) ea_nil)) vs H Q E h⟩
theorem sc_law_road_rows : FnScope ["_law_thing_here", "_law_told", "_law_at", "_law_raised"] ["_law_thing_here"] (defScope (topS 67)) := ⟨rfl, rfl, rfl, by decide +kernel, rfl, by decide +kernel, by decide +kernel⟩
theorem ok_law_road_rows {f : Addr} {fd : FuncData} (F : FnP K "_law_road_rows" (topS 67) f fd) (T : TX K mg) {fdNoIf : FuncData} (INoIf : XI K "NoIf" "NoIf.__init__" (inClass (topS 37) 0) fdNoIf) {fdNoStatement : FuncData} (INoStatement : XI K "NoStatement" "NoStatement.__init__" (inClass (topS 48) 0) fdNoStatement) : FnOk P w K mg base CX0 3 f fd ["_law_thing_here"] (spRows K) := by
  refine ok0 F sc_law_road_rows (fun vs H Q E h => by obtain ⟨v, rfl, _⟩ := h; rfl) (fun cdv A outer s H vs Q E hr h => ?_)
  have hr2 : Room 2 _ := hr
  exact ⟨_, pss_cons (ps_set (i := 1) sc_law_road_rows.nd rfl (Or.inl rfl) (pe_lst pa_nil)) (pss_cons (ps_for PassesOwn.never rfl (pi_tup (pe_tup (pa_cons (pe_tup (pa_cons pe_int (pa_cons (pe_oexV (T.x 35 (("NoIf" : Str), (["road"] : List Str)) rfl).ox INoIf.iC INoIf.tI (okINoIf INoIf T) hr2 (bINoIf INoIf) .nil pass0 (by rfl) (T.g 35 (("NoIf" : Str), (["road"] : List Str)) rfl) (pa_cons (pv 0) pa_nil)) pa_nil))) (pa_cons (pe_tup (pa_cons pe_int (pa_cons (pe_oexV (T.x 46 (("NoStatement" : Str), (["road"] : List Str)) rfl).ox INoStatement.iC INoStatement.tI (okINoStatement INoStatement T) hr2 (bINoStatement INoStatement) .nil pass0 (by rfl) (T.g 46 (("NoStatement" : Str), (["road"] : List Str)) rfl) (pa_cons (pv 0) pa_nil)) pa_nil))) pa_nil)))) (pg_tup (by rfl) (pgs_cons (pg_name (i := 2) sc_law_road_rows.nd rfl (Or.inl rfl)) (pgs_cons (pg_name (i := 3) sc_law_road_rows.nd rfl (Or.inl rfl)) pgs_nil)))
      (pss_cons (ps_expr (pe_bm PySem.F.plainAttrs_list PySem.F.slot_list_append PySem.F.type_list_append mt_append (pv 1) (pa_cons (pe_tup (pa_cons (pv 2) (pa_cons (pv 3) (pa_cons (pe_xfld (pv 3)) pa_nil)))) pa_nil))) pss_nil)) (pss_cons (ps_ret (pv 1)) pss_nil)),
    pure_rows (f := "road") (n := 2) T (by decide) (fun σ H v hσ => (ea_cons pair_mono (ee_pair (i := 35) (er := (("NoIf" : Str), (["road"] : List Str))) hσ rfl (List.mem_cons_self ..)) (ea_cons pair_mono (ee_pair (i := 46) (er := (("NoStatement" : Str), (["road"] : List Str))) hσ rfl (List.mem_cons_self ..)) ea_nil))) vs H Q E h⟩
theorem sc_law_turns_rows : FnScope ["_law_thing_here", "_law_told", "_law_at", "_law_raised"] ["_law_thing_here"] (defScope (topS 68)) := ⟨rfl, rfl, rfl, by decide +kernel, rfl, by decide +kernel, by decide +kernel⟩
theorem ok_law_turns_rows {f : Addr} {fd : FuncData} (F : FnP K "_law_turns_rows" (topS 68) f fd) (T : TX K mg) {fdNoWay : FuncData} (INoWay : XI K "NoWay" "NoWay.__init__" (inClass (topS 38) 0) fdNoWay) : FnOk P w K mg base CX0 3 f fd ["_law_thing_here"] (spRows K) := by
  refine ok0 F sc_law_turns_rows (fun vs H Q E h => by obtain ⟨v, rfl, _⟩ := h; rfl) (fun cdv A outer s H vs Q E hr h => ?_)
  have hr2 : Room 2 _ := hr
  exact ⟨_, pss_cons (ps_set (i := 1) sc_law_turns_rows.nd rfl (Or.inl rfl) (pe_lst pa_nil)) (pss_cons (ps_for PassesOwn.never rfl (pi_tup (pe_tup (pa_cons (pe_tup (pa_cons pe_int (pa_cons (pe_oexV (T.x 36 (("NoWay" : Str), (["turns"] : List Str)) rfl).ox INoWay.iC INoWay.tI (okINoWay INoWay T) hr2 (bINoWay INoWay) .nil pass0 (by rfl) (T.g 36 (("NoWay" : Str), (["turns"] : List Str)) rfl) (pa_cons (pv 0) pa_nil)) pa_nil))) pa_nil))) (pg_tup (by rfl) (pgs_cons (pg_name (i := 2) sc_law_turns_rows.nd rfl (Or.inl rfl)) (pgs_cons (pg_name (i := 3) sc_law_turns_rows.nd rfl (Or.inl rfl)) pgs_nil)))
      (pss_cons (ps_expr (pe_bm PySem.F.plainAttrs_list PySem.F.slot_list_append PySem.F.type_list_append mt_append (pv 1) (pa_cons (pe_tup (pa_cons (pv 2) (pa_cons (pv 3) (pa_cons (pe_xfld (pv 3)) pa_nil)))) pa_nil))) pss_nil)) (pss_cons (ps_ret (pv 1)) pss_nil)),
    pure_rows (f := "turns") (n := 1) T (by decide) (fun σ H v hσ => (ea_cons pair_mono (ee_pair (i := 36) (er := (("NoWay" : Str), (["turns"] : List Str))) hσ rfl (List.mem_cons_self ..)) ea_nil)) vs H Q E h⟩
end
end My
set_option maxHeartbeats 8000000
namespace My
open PySem L2 He Hm
def VA (ta : TA) (σ : L2.St) (H : Hp) (vs : List V) : Prop := ∀ Q : List V → Hp → Prop, Q vs H → ta σ H Q
theorem va_nil {σ : L2.St} {H : Hp} : VA tNil σ H [] := fun _ q => q
theorem va_cons {σ : L2.St} {H : Hp} {te : TE} {ta : TA} {v : V} {vs : List V} (he : Val te σ H v) (ha : VA ta σ H vs) : VA (tCons te ta) σ H (v :: vs) := fun Q q => he _ (ha _ q)
theorem rd_retlst {t : TA} {D : Ends} {σ : L2.St} {H : Hp} {vs : List V} (hv : VA t σ H vs) (h : vs.length ≤ sizeLine) (k : ∀ p, H p = none → D.rt (.ref p) (upd H p (.lst vs))) : tRet (tLst t) D σ H := hv _ ⟨h, k⟩
section
variable {P : Program} {w : World} {K : PySem.W.Frag} {mg : Str → Option Value} {base : Heap}
/-- two errors' numbers and their classes -/
theorem cls_inj (T : TX K mg) {i j : Nat} {er er' : Str × List Str} (h : errs[i]? = some er) (h' : errs[j]? = some er') : (ga K er.1 = ga K er'.1) ↔ i = j := by
  have nd := (List.nodup_cons.mp T.nd).2
  have e1 : (errs.map fun e => ga K e.1)[i]? = some (ga K er.1) := by rw [List.getElem?_map, h] <;> rfl
  have e2 : (errs.map fun e => ga K e.1)[j]? = some (ga K er'.1) := by rw [List.getElem?_map, h'] <;> rfl
  constructor
  · intro e
    rw [e] at e1
    exact nd_ix nd e1 e2
  · intro e
    subst e
    rw [h] at h'
    rw [Option.some.inj h']
theorem not_press (T : TX K mg) {j : Nat} {er : Str × List Str} (h : errs[j]? = some er) : ga K "PressError" ≠ ga K er.1 := by
  have nd := (List.nodup_cons.mp T.nd).1
  intro e
  exact nd (by rw [e]; exact List.mem_map.mpr ⟨er, List.mem_of_getElem? h, rfl⟩)
theorem kit_ij (T : TX K mg) {i j : Nat} {er er' : Str × List Str} (h : errs[i]? = some er) (h' : errs[j]? = some er') : PySem.W.kitOne K (.ref (ga K er.1)) (.ref (ga K er'.1)) = some (decide (i = j)) := by
  rw [kit_own (T.x i er h) (T.x j er' h')]
  have n := not_press T h'
  have e : (press K).contains (.ref (ga K er'.1)) = false := by
    have ne : (Value.ref (ga K er'.1) == Value.ref (ga K "PressError")) = false := beq_eq_false_iff_ne.mpr (fun z => n (Value.ref.inj z).symm)
    unfold press
    rw [List.contains_cons, ne]
    rfl
  rw [e, Bool.or_false]
  congr 1
  exact decide_eq_decide.mpr (cls_inj T h h')
/-- an error of the number i stands at e -/
def ErrAt (K : PySem.W.Frag) (H : Hp) (i : Nat) (e : Addr) : Prop := ∃ (er : Str × List Str) (d : Option Addr), errs[i]? = some er ∧ H e = some (exo e (ga K er.1) d) ∧ ∀ dd, d = some dd → ∃ fs, H dd = some (exd dd fs)
theorem ErrAt.keep {H H' : Hp} {i : Nat} {e : Addr} (x : ErrAt K H i e) (k : ∀ b o, (∀ xs, o ≠ .lst xs) → H b = some o → H' b = some o) : ErrAt K H' i e := by
  obtain ⟨er, d, h1, h2, h3⟩ := x
  exact ⟨er, d, h1, k _ _ (fun _ => exo_lst) h2, fun dd hd => by
    obtain ⟨fs, h⟩ := h3 dd hd
    exact ⟨fs, k _ _ (fun _ => exd_lst) h⟩⟩
theorem val_isx (T : TX K mg) {σ : L2.St} {H : Hp} {i j k : Nat} {e : Addr} {er' : Str × List Str} (hσ : σ[k]? = some (some (.ref e))) (x : ErrAt K H i e) (h' : errs[j]? = some er') :
    Val (tCB (rIsX K) (tCons (tVar k) (tCons (tC (.ref (ga K er'.1))) tNil))) σ H (.bl (decide (i = j))) := by
  obtain ⟨er, d, h1, h2, h3⟩ := x
  exact fun Q q => ⟨_, hσ, e, _, d, _, _, _, rfl, ClsV.own _, h2, h3, (T.x i er h1).xc, kit_ij T h1 h', q⟩
abbrev sKinds : Stmt := topS 70
theorem scK : FnScope ["_law_raised"] ["_law_raised"] (defScope sKinds) := ⟨rfl, rfl, rfl, by decide +kernel, rfl, by decide +kernel, by decide +kernel⟩
def spKinds (K : PySem.W.Frag) : Sp := fun vs H Q _ => ∃ (e : Addr) (i : Nat), vs = [.ref e] ∧ ErrAt K H i e ∧ ∀ p, H p = none → Q (.ref p) (upd H p (.lst ((List.range 47).map fun j => V.bl (decide (i = j)))))
theorem range47 {α : Type} (f : Nat → α) : (List.range 47).map f = [f 0, f 1, f 2, f 3, f 4, f 5, f 6, f 7, f 8, f 9, f 10, f 11, f 12, f 13, f 14, f 15, f 16, f 17, f 18, f 19, f 20, f 21, f 22, f 23, f 24, f 25, f 26, f 27, f 28, f 29, f 30, f 31, f 32, f 33, f 34, f 35, f 36, f 37, f 38, f 39, f 40, f 41, f 42, f 43, f 44, f 45, f 46] := rfl
theorem ok_kinds {f : Addr} {fd : FuncData} (F : FnP K "_law_kinds" sKinds f fd) (T : TX K mg) : FnOk P w K mg base CX0 1 f fd ["_law_raised"] (spKinds K) := by
  refine ok0 F scK (fun vs H Q E h => by obtain ⟨e, i, rfl, _⟩ := h; rfl) (fun cdv A outer s H vs Q E hr h => ?_)
  obtain ⟨e, i, rfl, x, k⟩ := h
  refine ⟨_, pss_one (ps_ret (pe_lst (pa_cons (pe_callB call_isX (by rfl) T.isi (by decide +kernel) (pa_cons (pv 0) (pa_cons (pe_glob (v := .ref (ga K "BadBook")) (by rfl) (T.g 0 (("BadBook" : Str), (["what"] : List Str)) rfl) rfl) pa_nil))) (pa_cons (pe_callB call_isX (by rfl) T.isi (by decide +kernel) (pa_cons (pv 0) (pa_cons (pe_glob (v := .ref (ga K "BadLetters")) (by rfl) (T.g 1 (("BadLetters" : Str), ([] : List Str)) rfl) rfl) pa_nil))) (pa_cons (pe_callB call_isX (by rfl) T.isi (by decide +kernel) (pa_cons (pv 0) (pa_cons (pe_glob (v := .ref (ga K "BadSaying")) (by rfl) (T.g 2 (("BadSaying" : Str), (["what"] : List Str)) rfl) rfl) pa_nil))) (pa_cons (pe_callB call_isX (by rfl) T.isi (by decide +kernel) (pa_cons (pv 0) (pa_cons (pe_glob (v := .ref (ga K "BadText")) (by rfl) (T.g 3 (("BadText" : Str), (["line", "place"] : List Str)) rfl) rfl) pa_nil))) (pa_cons (pe_callB call_isX (by rfl) T.isi (by decide +kernel) (pa_cons (pv 0) (pa_cons (pe_glob (v := .ref (ga K "BadExpression")) (by rfl) (T.g 4 (("BadExpression" : Str), (["what"] : List Str)) rfl) rfl) pa_nil))) (pa_cons (pe_callB call_isX (by rfl) T.isi (by decide +kernel) (pa_cons (pv 0) (pa_cons (pe_glob (v := .ref (ga K "TooMany")) (by rfl) (T.g 5 (("TooMany" : Str), ([] : List Str)) rfl) rfl) pa_nil))) (pa_cons (pe_callB call_isX (by rfl) T.isi (by decide +kernel) (pa_cons (pv 0) (pa_cons (pe_glob (v := .ref (ga K "BadStep")) (by rfl) (T.g 6 (("BadStep" : Str), ([] : List Str)) rfl) rfl) pa_nil))) (pa_cons (pe_callB call_isX (by rfl) T.isi (by decide +kernel) (pa_cons (pv 0) (pa_cons (pe_glob (v := .ref (ga K "BadEquation")) (by rfl) (T.g 7 (("BadEquation" : Str), (["at", "what"] : List Str)) rfl) rfl) pa_nil))) (pa_cons (pe_callB call_isX (by rfl) T.isi (by decide +kernel) (pa_cons (pv 0) (pa_cons (pe_glob (v := .ref (ga K "BadOrder")) (by rfl) (T.g 8 (("BadOrder" : Str), ([] : List Str)) rfl) rfl) pa_nil))) (pa_cons (pe_callB call_isX (by rfl) T.isi (by decide +kernel) (pa_cons (pv 0) (pa_cons (pe_glob (v := .ref (ga K "BadRoom")) (by rfl) (T.g 9 (("BadRoom" : Str), ([] : List Str)) rfl) rfl) pa_nil))) (pa_cons (pe_callB call_isX (by rfl) T.isi (by decide +kernel) (pa_cons (pv 0) (pa_cons (pe_glob (v := .ref (ga K "NotFilled")) (by rfl) (T.g 10 (("NotFilled" : Str), ([] : List Str)) rfl) rfl) pa_nil))) (pa_cons (pe_callB call_isX (by rfl) T.isi (by decide +kernel) (pa_cons (pv 0) (pa_cons (pe_glob (v := .ref (ga K "Ended")) (by rfl) (T.g 11 (("Ended" : Str), (["how"] : List Str)) rfl) rfl) pa_nil))) (pa_cons (pe_callB call_isX (by rfl) T.isi (by decide +kernel) (pa_cons (pv 0) (pa_cons (pe_glob (v := .ref (ga K "NoBook")) (by rfl) (T.g 12 (("NoBook" : Str), (["number"] : List Str)) rfl) rfl) pa_nil))) (pa_cons (pe_callB call_isX (by rfl) T.isi (by decide +kernel) (pa_cons (pv 0) (pa_cons (pe_glob (v := .ref (ga K "NotOpen")) (by rfl) (T.g 13 (("NotOpen" : Str), (["number"] : List Str)) rfl) rfl) pa_nil))) (pa_cons (pe_callB call_isX (by rfl) T.isi (by decide +kernel) (pa_cons (pv 0) (pa_cons (pe_glob (v := .ref (ga K "NotLooked")) (by rfl) (T.g 14 (("NotLooked" : Str), (["number"] : List Str)) rfl) rfl) pa_nil))) (pa_cons (pe_callB call_isX (by rfl) T.isi (by decide +kernel) (pa_cons (pv 0) (pa_cons (pe_glob (v := .ref (ga K "TooFull")) (by rfl) (T.g 15 (("TooFull" : Str), (["waiting"] : List Str)) rfl) rfl) pa_nil))) (pa_cons (pe_callB call_isX (by rfl) T.isi (by decide +kernel) (pa_cons (pv 0) (pa_cons (pe_glob (v := .ref (ga K "BadMany")) (by rfl) (T.g 16 (("BadMany" : Str), ([] : List Str)) rfl) rfl) pa_nil))) (pa_cons (pe_callB call_isX (by rfl) T.isi (by decide +kernel) (pa_cons (pv 0) (pa_cons (pe_glob (v := .ref (ga K "NoHand")) (by rfl) (T.g 17 (("NoHand" : Str), (["hand"] : List Str)) rfl) rfl) pa_nil))) (pa_cons (pe_callB call_isX (by rfl) T.isi (by decide +kernel) (pa_cons (pv 0) (pa_cons (pe_glob (v := .ref (ga K "Busy")) (by rfl) (T.g 18 (("Busy" : Str), (["hand"] : List Str)) rfl) rfl) pa_nil))) (pa_cons (pe_callB call_isX (by rfl) T.isi (by decide +kernel) (pa_cons (pv 0) (pa_cons (pe_glob (v := .ref (ga K "Idle")) (by rfl) (T.g 19 (("Idle" : Str), (["hand"] : List Str)) rfl) rfl) pa_nil))) (pa_cons (pe_callB call_isX (by rfl) T.isi (by decide +kernel) (pa_cons (pv 0) (pa_cons (pe_glob (v := .ref (ga K "NoReport")) (by rfl) (T.g 20 (("NoReport" : Str), (["report"] : List Str)) rfl) rfl) pa_nil))) (pa_cons (pe_callB call_isX (by rfl) T.isi (by decide +kernel) (pa_cons (pv 0) (pa_cons (pe_glob (v := .ref (ga K "BadGrammar")) (by rfl) (T.g 21 (("BadGrammar" : Str), (["at"] : List Str)) rfl) rfl) pa_nil))) (pa_cons (pe_callB call_isX (by rfl) T.isi (by decide +kernel) (pa_cons (pv 0) (pa_cons (pe_glob (v := .ref (ga K "NoSymbol")) (by rfl) (T.g 22 (("NoSymbol" : Str), (["symbol"] : List Str)) rfl) rfl) pa_nil))) (pa_cons (pe_callB call_isX (by rfl) T.isi (by decide +kernel) (pa_cons (pv 0) (pa_cons (pe_glob (v := .ref (ga K "NoSign")) (by rfl) (T.g 23 (("NoSign" : Str), (["at"] : List Str)) rfl) rfl) pa_nil))) (pa_cons (pe_callB call_isX (by rfl) T.isi (by decide +kernel) (pa_cons (pv 0) (pa_cons (pe_glob (v := .ref (ga K "TooLong")) (by rfl) (T.g 24 (("TooLong" : Str), (["length"] : List Str)) rfl) rfl) pa_nil))) (pa_cons (pe_callB call_isX (by rfl) T.isi (by decide +kernel) (pa_cons (pv 0) (pa_cons (pe_glob (v := .ref (ga K "EmptyWord")) (by rfl) (T.g 25 (("EmptyWord" : Str), ([] : List Str)) rfl) rfl) pa_nil))) (pa_cons (pe_callB call_isX (by rfl) T.isi (by decide +kernel) (pa_cons (pv 0) (pa_cons (pe_glob (v := .ref (ga K "NoCut")) (by rfl) (T.g 26 (("NoCut" : Str), (["begin", "end"] : List Str)) rfl) rfl) pa_nil))) (pa_cons (pe_callB call_isX (by rfl) T.isi (by decide +kernel) (pa_cons (pv 0) (pa_cons (pe_glob (v := .ref (ga K "BadFilling")) (by rfl) (T.g 27 (("BadFilling" : Str), (["at"] : List Str)) rfl) rfl) pa_nil))) (pa_cons (pe_callB call_isX (by rfl) T.isi (by decide +kernel) (pa_cons (pv 0) (pa_cons (pe_glob (v := .ref (ga K "NoName")) (by rfl) (T.g 28 (("NoName" : Str), (["name"] : List Str)) rfl) rfl) pa_nil))) (pa_cons (pe_callB call_isX (by rfl) T.isi (by decide +kernel) (pa_cons (pv 0) (pa_cons (pe_glob (v := .ref (ga K "NotShut")) (by rfl) (T.g 29 (("NotShut" : Str), ([] : List Str)) rfl) rfl) pa_nil))) (pa_cons (pe_callB call_isX (by rfl) T.isi (by decide +kernel) (pa_cons (pv 0) (pa_cons (pe_glob (v := .ref (ga K "OtherDeeds")) (by rfl) (T.g 30 (("OtherDeeds" : Str), ([] : List Str)) rfl) rfl) pa_nil))) (pa_cons (pe_callB call_isX (by rfl) T.isi (by decide +kernel) (pa_cons (pv 0) (pa_cons (pe_glob (v := .ref (ga K "BadPaperText")) (by rfl) (T.g 31 (("BadPaperText" : Str), ([] : List Str)) rfl) rfl) pa_nil))) (pa_cons (pe_callB call_isX (by rfl) T.isi (by decide +kernel) (pa_cons (pv 0) (pa_cons (pe_glob (v := .ref (ga K "TooWide")) (by rfl) (T.g 32 (("TooWide" : Str), (["what"] : List Str)) rfl) rfl) pa_nil))) (pa_cons (pe_callB call_isX (by rfl) T.isi (by decide +kernel) (pa_cons (pv 0) (pa_cons (pe_glob (v := .ref (ga K "BadScript")) (by rfl) (T.g 33 (("BadScript" : Str), (["what", "road"] : List Str)) rfl) rfl) pa_nil))) (pa_cons (pe_callB call_isX (by rfl) T.isi (by decide +kernel) (pa_cons (pv 0) (pa_cons (pe_glob (v := .ref (ga K "ShortInputs")) (by rfl) (T.g 34 (("ShortInputs" : Str), (["used"] : List Str)) rfl) rfl) pa_nil))) (pa_cons (pe_callB call_isX (by rfl) T.isi (by decide +kernel) (pa_cons (pv 0) (pa_cons (pe_glob (v := .ref (ga K "NoIf")) (by rfl) (T.g 35 (("NoIf" : Str), (["road"] : List Str)) rfl) rfl) pa_nil))) (pa_cons (pe_callB call_isX (by rfl) T.isi (by decide +kernel) (pa_cons (pv 0) (pa_cons (pe_glob (v := .ref (ga K "NoWay")) (by rfl) (T.g 36 (("NoWay" : Str), (["turns"] : List Str)) rfl) rfl) pa_nil))) (pa_cons (pe_callB call_isX (by rfl) T.isi (by decide +kernel) (pa_cons (pv 0) (pa_cons (pe_glob (v := .ref (ga K "UnlikeScripts")) (by rfl) (T.g 37 (("UnlikeScripts" : Str), ([] : List Str)) rfl) rfl) pa_nil))) (pa_cons (pe_callB call_isX (by rfl) T.isi (by decide +kernel) (pa_cons (pv 0) (pa_cons (pe_glob (v := .ref (ga K "BadDeed")) (by rfl) (T.g 38 (("BadDeed" : Str), (["what"] : List Str)) rfl) rfl) pa_nil))) (pa_cons (pe_callB call_isX (by rfl) T.isi (by decide +kernel) (pa_cons (pv 0) (pa_cons (pe_glob (v := .ref (ga K "FullDesk")) (by rfl) (T.g 39 (("FullDesk" : Str), ([] : List Str)) rfl) rfl) pa_nil))) (pa_cons (pe_callB call_isX (by rfl) T.isi (by decide +kernel) (pa_cons (pv 0) (pa_cons (pe_glob (v := .ref (ga K "NoBack")) (by rfl) (T.g 40 (("NoBack" : Str), ([] : List Str)) rfl) rfl) pa_nil))) (pa_cons (pe_callB call_isX (by rfl) T.isi (by decide +kernel) (pa_cons (pv 0) (pa_cons (pe_glob (v := .ref (ga K "IsCut")) (by rfl) (T.g 41 (("IsCut" : Str), ([] : List Str)) rfl) rfl) pa_nil))) (pa_cons (pe_callB call_isX (by rfl) T.isi (by decide +kernel) (pa_cons (pv 0) (pa_cons (pe_glob (v := .ref (ga K "NotCut")) (by rfl) (T.g 42 (("NotCut" : Str), ([] : List Str)) rfl) rfl) pa_nil))) (pa_cons (pe_callB call_isX (by rfl) T.isi (by decide +kernel) (pa_cons (pv 0) (pa_cons (pe_glob (v := .ref (ga K "NoEngine")) (by rfl) (T.g 43 (("NoEngine" : Str), ([] : List Str)) rfl) rfl) pa_nil))) (pa_cons (pe_callB call_isX (by rfl) T.isi (by decide +kernel) (pa_cons (pv 0) (pa_cons (pe_glob (v := .ref (ga K "NoPaper")) (by rfl) (T.g 44 (("NoPaper" : Str), (["at"] : List Str)) rfl) rfl) pa_nil))) (pa_cons (pe_callB call_isX (by rfl) T.isi (by decide +kernel) (pa_cons (pv 0) (pa_cons (pe_glob (v := .ref (ga K "NoScript")) (by rfl) (T.g 45 (("NoScript" : Str), ([] : List Str)) rfl) rfl) pa_nil))) (pa_cons (pe_callB call_isX (by rfl) T.isi (by decide +kernel) (pa_cons (pv 0) (pa_cons (pe_glob (v := .ref (ga K "NoStatement")) (by rfl) (T.g 46 (("NoStatement" : Str), (["road"] : List Str)) rfl) rfl) pa_nil))) pa_nil))))))))))))))))))))))))))))))))))))))))))))))))), ?_⟩
  have hσ : (L2.start ["_law_raised"] [V.ref e])[0]? = some (some (V.ref e)) := rfl
  have hv := (va_cons (val_isx T (k := 0) (j := 0) (er' := (("BadBook" : Str), (["what"] : List Str))) hσ x rfl) (va_cons (val_isx T (k := 0) (j := 1) (er' := (("BadLetters" : Str), ([] : List Str))) hσ x rfl) (va_cons (val_isx T (k := 0) (j := 2) (er' := (("BadSaying" : Str), (["what"] : List Str))) hσ x rfl) (va_cons (val_isx T (k := 0) (j := 3) (er' := (("BadText" : Str), (["line", "place"] : List Str))) hσ x rfl) (va_cons (val_isx T (k := 0) (j := 4) (er' := (("BadExpression" : Str), (["what"] : List Str))) hσ x rfl) (va_cons (val_isx T (k := 0) (j := 5) (er' := (("TooMany" : Str), ([] : List Str))) hσ x rfl) (va_cons (val_isx T (k := 0) (j := 6) (er' := (("BadStep" : Str), ([] : List Str))) hσ x rfl) (va_cons (val_isx T (k := 0) (j := 7) (er' := (("BadEquation" : Str), (["at", "what"] : List Str))) hσ x rfl) (va_cons (val_isx T (k := 0) (j := 8) (er' := (("BadOrder" : Str), ([] : List Str))) hσ x rfl) (va_cons (val_isx T (k := 0) (j := 9) (er' := (("BadRoom" : Str), ([] : List Str))) hσ x rfl) (va_cons (val_isx T (k := 0) (j := 10) (er' := (("NotFilled" : Str), ([] : List Str))) hσ x rfl) (va_cons (val_isx T (k := 0) (j := 11) (er' := (("Ended" : Str), (["how"] : List Str))) hσ x rfl) (va_cons (val_isx T (k := 0) (j := 12) (er' := (("NoBook" : Str), (["number"] : List Str))) hσ x rfl) (va_cons (val_isx T (k := 0) (j := 13) (er' := (("NotOpen" : Str), (["number"] : List Str))) hσ x rfl) (va_cons (val_isx T (k := 0) (j := 14) (er' := (("NotLooked" : Str), (["number"] : List Str))) hσ x rfl) (va_cons (val_isx T (k := 0) (j := 15) (er' := (("TooFull" : Str), (["waiting"] : List Str))) hσ x rfl) (va_cons (val_isx T (k := 0) (j := 16) (er' := (("BadMany" : Str), ([] : List Str))) hσ x rfl) (va_cons (val_isx T (k := 0) (j := 17) (er' := (("NoHand" : Str), (["hand"] : List Str))) hσ x rfl) (va_cons (val_isx T (k := 0) (j := 18) (er' := (("Busy" : Str), (["hand"] : List Str))) hσ x rfl) (va_cons (val_isx T (k := 0) (j := 19) (er' := (("Idle" : Str), (["hand"] : List Str))) hσ x rfl) (va_cons (val_isx T (k := 0) (j := 20) (er' := (("NoReport" : Str), (["report"] : List Str))) hσ x rfl) (va_cons (val_isx T (k := 0) (j := 21) (er' := (("BadGrammar" : Str), (["at"] : List Str))) hσ x rfl) (va_cons (val_isx T (k := 0) (j := 22) (er' := (("NoSymbol" : Str), (["symbol"] : List Str))) hσ x rfl) (va_cons (val_isx T (k := 0) (j := 23) (er' := (("NoSign" : Str), (["at"] : List Str))) hσ x rfl) (va_cons (val_isx T (k := 0) (j := 24) (er' := (("TooLong" : Str), (["length"] : List Str))) hσ x rfl) (va_cons (val_isx T (k := 0) (j := 25) (er' := (("EmptyWord" : Str), ([] : List Str))) hσ x rfl) (va_cons (val_isx T (k := 0) (j := 26) (er' := (("NoCut" : Str), (["begin", "end"] : List Str))) hσ x rfl) (va_cons (val_isx T (k := 0) (j := 27) (er' := (("BadFilling" : Str), (["at"] : List Str))) hσ x rfl) (va_cons (val_isx T (k := 0) (j := 28) (er' := (("NoName" : Str), (["name"] : List Str))) hσ x rfl) (va_cons (val_isx T (k := 0) (j := 29) (er' := (("NotShut" : Str), ([] : List Str))) hσ x rfl) (va_cons (val_isx T (k := 0) (j := 30) (er' := (("OtherDeeds" : Str), ([] : List Str))) hσ x rfl) (va_cons (val_isx T (k := 0) (j := 31) (er' := (("BadPaperText" : Str), ([] : List Str))) hσ x rfl) (va_cons (val_isx T (k := 0) (j := 32) (er' := (("TooWide" : Str), (["what"] : List Str))) hσ x rfl) (va_cons (val_isx T (k := 0) (j := 33) (er' := (("BadScript" : Str), (["what", "road"] : List Str))) hσ x rfl) (va_cons (val_isx T (k := 0) (j := 34) (er' := (("ShortInputs" : Str), (["used"] : List Str))) hσ x rfl) (va_cons (val_isx T (k := 0) (j := 35) (er' := (("NoIf" : Str), (["road"] : List Str))) hσ x rfl) (va_cons (val_isx T (k := 0) (j := 36) (er' := (("NoWay" : Str), (["turns"] : List Str))) hσ x rfl) (va_cons (val_isx T (k := 0) (j := 37) (er' := (("UnlikeScripts" : Str), ([] : List Str))) hσ x rfl) (va_cons (val_isx T (k := 0) (j := 38) (er' := (("BadDeed" : Str), (["what"] : List Str))) hσ x rfl) (va_cons (val_isx T (k := 0) (j := 39) (er' := (("FullDesk" : Str), ([] : List Str))) hσ x rfl) (va_cons (val_isx T (k := 0) (j := 40) (er' := (("NoBack" : Str), ([] : List Str))) hσ x rfl) (va_cons (val_isx T (k := 0) (j := 41) (er' := (("IsCut" : Str), ([] : List Str))) hσ x rfl) (va_cons (val_isx T (k := 0) (j := 42) (er' := (("NotCut" : Str), ([] : List Str))) hσ x rfl) (va_cons (val_isx T (k := 0) (j := 43) (er' := (("NoEngine" : Str), ([] : List Str))) hσ x rfl) (va_cons (val_isx T (k := 0) (j := 44) (er' := (("NoPaper" : Str), (["at"] : List Str))) hσ x rfl) (va_cons (val_isx T (k := 0) (j := 45) (er' := (("NoScript" : Str), ([] : List Str))) hσ x rfl) (va_cons (val_isx T (k := 0) (j := 46) (er' := (("NoStatement" : Str), (["road"] : List Str))) hσ x rfl) (va_nil (σ := L2.start ["_law_raised"] [.ref e]) (H := H)))))))))))))))))))))))))))))))))))))))))))))))))
  refine rd_retlst hv (by show 47 ≤ sizeLine; decide) fun p hp => ?_
  have q := k p hp
  rw [range47] at q
  exact q
end
end My
set_option maxHeartbeats 1000000
namespace My
open PySem L2 He Hm
section
variable {P : Program} {w : World} {K : PySem.W.Frag} {mg : Str → Option Value} {base : Heap}
abbrev sAlone : Stmt := topS 71
theorem scAl : FnScope ["_law_at", "_law_raised", "_law_told", "_law_k"] ["_law_at", "_law_raised"] (defScope sAlone) := ⟨rfl, rfl, rfl, by decide +kernel, rfl, by decide +kernel, by decide +kernel⟩
def spAlone (K : PySem.W.Frag) : Sp := fun vs H Q _ => ∃ (e : Addr) (i : Nat), vs = [.int i, .ref e] ∧ ErrAt K H i e ∧ ∀ H', Same H H' → Q (.bl true) H'
theorem dp_bls {H : Hp} : ∀ bs : List Bool, DpAll K H (bs.map V.bl) (bs.map PyData.bool)
  | [] => .nil
  | b :: bs => .cons (.bl b) (dp_bls bs)
theorem lay_bls : ∀ bs : List Bool, PyData.canLayAll0 (bs.map PyData.bool) = true
  | [] => rfl
  | b :: bs => by
    show (PyData.canLay0 (.bool b) && PyData.canLayAll0 (bs.map PyData.bool)) = true
    rw [lay_bls bs]
    rfl
theorem depth_bls : ∀ bs : List Bool, PyData.depthAll (bs.map PyData.bool) ≤ 1
  | [] => Nat.zero_le _
  | b :: bs => by
    have q := depth_bls bs
    show max (PyData.depth (.bool b)) (PyData.depthAll (bs.map PyData.bool)) ≤ 1
    have e : PyData.depth (.bool b) ≤ 1 := by simp [PyData.depth]
    omega
theorem shaped_bls (bs : List Bool) : SeqAt.shaped (.list (bs.map PyData.bool)) = true := by
  have d := depth_bls bs
  have e : PyData.depth (.list (bs.map PyData.bool)) ≤ 64 := by
    simp only [PyData.depth]
    omega
  have l : PyData.canLay0 (.list (bs.map PyData.bool)) = true := lay_bls bs
  unfold SeqAt.shaped
  rw [l, decide_eq_true e]
  rfl
theorem ok_alone {f fK : Addr} {fd fdK : FuncData} (F : FnP K "_law_alone" sAlone f fd) (T : TX K mg) (FK : FnP K "_law_kinds" sKinds fK fdK) (mK : mg "_law_kinds" = some (.ref fK)) : FnOk P w K mg base CX0 2 f fd ["_law_at", "_law_raised"] (spAlone K) := by
  have GK : FnOk P w K mg base CX0 1 fK fdK ["_law_raised"] (spKinds K) := ok_kinds FK T
  have bK : Binds K fdK ["_law_raised"] [] := FK.bindsN fun _ _ _ _ _ _ us hl => match us, hl with | [_], _ => rfl
  refine ok0 F scAl (fun vs H Q E h => by obtain ⟨e, i, rfl, _⟩ := h; rfl) (fun cdv A outer s H vs Q E hr h => ?_)
  obtain ⟨e, i, rfl, x, k⟩ := h
  refine ⟨_, pss_cons (ps_if (PW.pt (pw_or (pt_not (pt_val (pe_callB call_isX (by rfl) T.isi (by decide +kernel) (pa_cons (pv 1) (pa_cons (pe_glob (v := .ref (ga K "PressError")) (by rfl) T.gP rfl) pa_nil)))))
      (pw_or1 (pt_not (pt_val (pe_callB call_isX (by rfl) T.isi (by decide +kernel) (pa_cons (pv 1) (pa_cons (pe_bltn (v := .ty "ValueError") (by rfl) T.ve (by decide +kernel) rfl) pa_nil)))))))) (pss_one (ps_ret pe_bl)) pss_nil)
    (pss_cons (ps_set (i := 2) scAl.nd rfl (Or.inl rfl) (pe_call GK hr (by rfl) mK FK.kp bK .nil pass0 (pa_cons (pv 1) pa_nil)))
    (pss_one (ps_ret (pe_cmpR (op_eqD hr.units) (pv 2) (pe_lc (own := [("_law_k", 3)]) (g := gName 3) (tt := tYes) rfl scAl.nd (pi_range1 rfl T.rng (pa_cons (pe_callB call_len_seq (by rfl) T.s.len PySem.boot_len (pa_cons (pv 2) pa_nil)) pa_nil))
      (blkOk_by (N := ["_law_at", "_law_raised", "_law_told", "_law_k"]) (sc := defScope sAlone) (by decide +kernel)) (fun _ _ _ _ _ => pg_name (i := 3) scAl.nd rfl (Or.inl rfl)) (fun _ _ _ _ _ => pts_nil) (fun _ _ _ _ _ => pe_cmpR op_eq (pv 3) (pv 0) (nomark _))) (nomark _))))), ?_⟩
  obtain ⟨er, d, h1, h2, h3⟩ := id x
  have kP : PySem.W.kitOne K (.ref (ga K er.1)) (.ref (ga K "PressError")) = some true := by
    rw [kit_own (T.x i er h1) T.xP]
    have e : (press K).contains (.ref (ga K "PressError")) = true := by
      unfold press
      rw [List.contains_cons]
      simp
    rw [e, Bool.or_true]
  have kV : PySem.W.kitOne K (.ref (ga K er.1)) (.type "ValueError") = some true := by
    rw [kit_bt (T.x i er h1) (by decide +kernel)]
    rfl
  refine ⟨_, rfl, e, _, d, _, _, _, rfl, ClsV.own _, h2, h3, (T.x i er h1).xc, kP, _, rfl, ?_⟩
  refine iteF ⟨_, rfl, e, _, d, _, _, _, rfl, ClsV.ty _, h2, h3, (T.x i er h1).xc, kV, _, rfl, ?_⟩
  refine iteF ?_
  refine ⟨_, rfl, e, i, rfl, x, fun p hp => ?_⟩
  have hlen : ((List.range 47).map fun j => V.bl (decide (i = j))).length = 47 := by simp
  have hp' : upd H p (.lst ((List.range 47).map fun j => V.bl (decide (i = j)))) p = some (.lst ((List.range 47).map fun j => V.bl (decide (i = j)))) := upd_same
  refine ⟨_, rfl, _, rfl, p, _, rfl, .inl (SqL.of hp'), 47, (by rw [hlen] <;> rfl), (by decide), (by decide), fun D hD => ?_⟩
  have npD : p ≠ D := ne_of_none hp' hD
  refine lc_range (lo := 0) (n := 47) (fun n H' => H' D = some (.lst ((List.range n).map fun j => V.bl (decide (i = j)))) ∧ ∀ b o, b ≠ D → upd H p (.lst ((List.range 47).map fun j => V.bl (decide (i = j)))) b = some o → H' b = some o) ⟨upd_same, fun b o hb e => by rw [upd_ne hb]; exact e⟩ ?_ ?_
  · rintro n H' hn ⟨hDn, hk⟩
    refine ⟨rfl, ⟨_, rfl, _, rfl, rfl, _, hDn, (by rw [List.length_map, List.length_range]; exact Nat.lt_of_lt_of_le hn (by decide)), ?_, fun b o hb e => by rw [upd_ne hb]; exact hk b o hb e⟩⟩
    rw [upd_same, List.range_succ, List.map_append]
    congr 2
    have e : decide (V.int ((0 : Int) + (n : Int)) = V.int (i : Int)) = decide (i = n) := by
      refine decide_eq_decide.mpr ⟨fun z => ?_, fun z => ?_⟩
      · have := V.int.inj z
        omega
      · subst z
        rw [Int.zero_add]
    rw [e]
    rfl
  · rintro H' ⟨hDn, hk⟩
    have hpn := hk p _ npD hp'
    refine ⟨.list (((List.range 47).map fun j => decide (i = j)).map PyData.bool), .list (((List.range 47).map fun j => decide (i = j)).map PyData.bool), .lst (SqL.of hpn) ?_, .lst (SqL.of hDn) ?_, ?_, ?_, ?_⟩
    · have q := dp_bls (K := K) (H := H') ((List.range 47).map fun j => decide (i = j))
      rw [List.map_map] at q
      exact q
    · have q := dp_bls (K := K) (H := H') ((List.range 47).map fun j => decide (i = j))
      rw [List.map_map] at q
      exact q
    · exact shaped_bls _
    · exact shaped_bls _
    · have e : PyData.eqv (.list (((List.range 47).map fun j => decide (i = j)).map PyData.bool)) (.list (((List.range 47).map fun j => decide (i = j)).map PyData.bool)) = true := PySem.SeqAt.eqv_refl _ (lay_bls _)
      rw [e]
      refine k H' fun b o hb => hk b o ?_ (same_new hp b o hb)
      exact ne_of_none (same_new hp b o hb) hD
end
end My
set_option maxHeartbeats 2000000
namespace My
open PySem L2 He Hm
section
variable {P : Program} {w : World} {K : PySem.W.Frag} {mg : Str → Option Value} {base : Heap}
/-! ### the errors without fields -/
def BareOk (K : PySem.W.Frag) (H : Hp) (x : V) : Prop := ∃ (tt e : Addr) (i : Nat), x = .ref tt ∧ H tt = some (.tup [.int i, .ref e]) ∧ ErrAt K H i e
theorem err_mono {i : Nat} {e : Addr} {H H' : Hp} (s : Same H H') (x : ErrAt K H i e) : ErrAt K H' i e := x.keep fun b o _ h => s b o h
theorem bare_mono : Mono (BareOk K) := fun H H' x s ⟨tt, e, i, h1, h2, h3⟩ => ⟨tt, e, i, h1, s _ _ h2, err_mono s h3⟩
theorem ee_bare {σ : L2.St} {H : Hp} {i : Nat} {er : Str × List Str} (he : errs[i]? = some er) : EE (tTup (tCons (tC (.int (i : Int))) (tCons (tMkE0 (ga K er.1)) tNil))) σ H (BareOk K) := by
  intro H1 s1 Q q
  refine fun e ne => ⟨(by show 2 ≤ sizeLine; decide), fun t nt => ?_⟩
  have h1 : upd H1 e (exo e (ga K er.1) none) e = some (exo e (ga K er.1) none) := upd_same
  refine q _ _ ((same_new' ne).trans (same_new' nt)) ⟨t, e, i, rfl, upd_same, er, none, he, ?_, fun dd h => nomatch h⟩
  rw [upd_ne (ne_of_none h1 nt)]
  exact h1
theorem rd_ealst {ta : TA} {D : Ends} {σ : L2.St} {H : Hp} {n : Nat} {P : Hp → V → Prop} (m : Mono P) (ha : EA ta σ H n P) (hn : n ≤ 1000) (k : ∀ (p : Addr) (xs : List V) (H' : Hp), Same H H' → H p = none → H' p = some (.lst xs) → xs.length = n → (∀ x ∈ xs, P H' x) → D.rt (.ref p) H') : tRet (tLst ta) D σ H :=
  ha H (Same.refl _) _ fun xs H2 s2 hl hv => ⟨by rw [hl]; exact Nat.le_trans hn (by decide), fun p hp => k p xs _ (s2.trans (same_new' hp)) (s2.free hp) upd_same hl fun x hx => m _ _ _ (same_new' hp) (hv x hx)⟩
abbrev sBare : Stmt := topS 55
theorem scBa : FnScope [] [] (defScope sBare) := ⟨rfl, rfl, rfl, by decide +kernel, rfl, by decide +kernel, by decide +kernel⟩
def spBare (K : PySem.W.Frag) : Sp := fun vs H Q _ => vs = [] ∧ ∀ (p : Addr) (xs : List V) (H' : Hp), Same H H' → H p = none → H' p = some (.lst xs) → xs.length = 18 → (∀ x ∈ xs, BareOk K H' x) → Q (.ref p) H'
theorem ok_bare {f : Addr} {fd : FuncData} (F : FnP K "_law_bare" sBare f fd) (T : TX K mg) (B : ∀ (i : Nat) (er : Str × List Str), errs[i]? = some er → er.2 = [] → PySem.W.excIn K (ga K er.1) veBase "ValueError.__new__" = true) : FnOk P w K mg base CX0 1 f fd [] (spBare K) := by
  refine ok0 F scBa (fun vs H Q E h => by obtain ⟨rfl, _⟩ := h; rfl) (fun cdv A outer s H vs Q E hr h => ?_)
  obtain ⟨rfl, k⟩ := h
  refine ⟨_, pss_one (ps_ret (pe_lst (pa_cons (pe_tup (pa_cons pe_int (pa_cons (pe_exc0 PySem.F.excBase_ValueError (B 1 (("BadLetters" : Str), ([] : List Str)) rfl rfl) (T.g 1 (("BadLetters" : Str), ([] : List Str)) rfl) (T.x 1 (("BadLetters" : Str), ([] : List Str)) rfl).ox.kC (by rfl)) pa_nil))) (pa_cons (pe_tup (pa_cons pe_int (pa_cons (pe_exc0 PySem.F.excBase_ValueError (B 5 (("TooMany" : Str), ([] : List Str)) rfl rfl) (T.g 5 (("TooMany" : Str), ([] : List Str)) rfl) (T.x 5 (("TooMany" : Str), ([] : List Str)) rfl).ox.kC (by rfl)) pa_nil))) (pa_cons (pe_tup (pa_cons pe_int (pa_cons (pe_exc0 PySem.F.excBase_ValueError (B 6 (("BadStep" : Str), ([] : List Str)) rfl rfl) (T.g 6 (("BadStep" : Str), ([] : List Str)) rfl) (T.x 6 (("BadStep" : Str), ([] : List Str)) rfl).ox.kC (by rfl)) pa_nil))) (pa_cons (pe_tup (pa_cons pe_int (pa_cons (pe_exc0 PySem.F.excBase_ValueError (B 8 (("BadOrder" : Str), ([] : List Str)) rfl rfl) (T.g 8 (("BadOrder" : Str), ([] : List Str)) rfl) (T.x 8 (("BadOrder" : Str), ([] : List Str)) rfl).ox.kC (by rfl)) pa_nil))) (pa_cons (pe_tup (pa_cons pe_int (pa_cons (pe_exc0 PySem.F.excBase_ValueError (B 9 (("BadRoom" : Str), ([] : List Str)) rfl rfl) (T.g 9 (("BadRoom" : Str), ([] : List Str)) rfl) (T.x 9 (("BadRoom" : Str), ([] : List Str)) rfl).ox.kC (by rfl)) pa_nil))) (pa_cons (pe_tup (pa_cons pe_int (pa_cons (pe_exc0 PySem.F.excBase_ValueError (B 10 (("NotFilled" : Str), ([] : List Str)) rfl rfl) (T.g 10 (("NotFilled" : Str), ([] : List Str)) rfl) (T.x 10 (("NotFilled" : Str), ([] : List Str)) rfl).ox.kC (by rfl)) pa_nil))) (pa_cons (pe_tup (pa_cons pe_int (pa_cons (pe_exc0 PySem.F.excBase_ValueError (B 16 (("BadMany" : Str), ([] : List Str)) rfl rfl) (T.g 16 (("BadMany" : Str), ([] : List Str)) rfl) (T.x 16 (("BadMany" : Str), ([] : List Str)) rfl).ox.kC (by rfl)) pa_nil))) (pa_cons (pe_tup (pa_cons pe_int (pa_cons (pe_exc0 PySem.F.excBase_ValueError (B 25 (("EmptyWord" : Str), ([] : List Str)) rfl rfl) (T.g 25 (("EmptyWord" : Str), ([] : List Str)) rfl) (T.x 25 (("EmptyWord" : Str), ([] : List Str)) rfl).ox.kC (by rfl)) pa_nil))) (pa_cons (pe_tup (pa_cons pe_int (pa_cons (pe_exc0 PySem.F.excBase_ValueError (B 29 (("NotShut" : Str), ([] : List Str)) rfl rfl) (T.g 29 (("NotShut" : Str), ([] : List Str)) rfl) (T.x 29 (("NotShut" : Str), ([] : List Str)) rfl).ox.kC (by rfl)) pa_nil))) (pa_cons (pe_tup (pa_cons pe_int (pa_cons (pe_exc0 PySem.F.excBase_ValueError (B 30 (("OtherDeeds" : Str), ([] : List Str)) rfl rfl) (T.g 30 (("OtherDeeds" : Str), ([] : List Str)) rfl) (T.x 30 (("OtherDeeds" : Str), ([] : List Str)) rfl).ox.kC (by rfl)) pa_nil))) (pa_cons (pe_tup (pa_cons pe_int (pa_cons (pe_exc0 PySem.F.excBase_ValueError (B 31 (("BadPaperText" : Str), ([] : List Str)) rfl rfl) (T.g 31 (("BadPaperText" : Str), ([] : List Str)) rfl) (T.x 31 (("BadPaperText" : Str), ([] : List Str)) rfl).ox.kC (by rfl)) pa_nil))) (pa_cons (pe_tup (pa_cons pe_int (pa_cons (pe_exc0 PySem.F.excBase_ValueError (B 37 (("UnlikeScripts" : Str), ([] : List Str)) rfl rfl) (T.g 37 (("UnlikeScripts" : Str), ([] : List Str)) rfl) (T.x 37 (("UnlikeScripts" : Str), ([] : List Str)) rfl).ox.kC (by rfl)) pa_nil))) (pa_cons (pe_tup (pa_cons pe_int (pa_cons (pe_exc0 PySem.F.excBase_ValueError (B 39 (("FullDesk" : Str), ([] : List Str)) rfl rfl) (T.g 39 (("FullDesk" : Str), ([] : List Str)) rfl) (T.x 39 (("FullDesk" : Str), ([] : List Str)) rfl).ox.kC (by rfl)) pa_nil))) (pa_cons (pe_tup (pa_cons pe_int (pa_cons (pe_exc0 PySem.F.excBase_ValueError (B 40 (("NoBack" : Str), ([] : List Str)) rfl rfl) (T.g 40 (("NoBack" : Str), ([] : List Str)) rfl) (T.x 40 (("NoBack" : Str), ([] : List Str)) rfl).ox.kC (by rfl)) pa_nil))) (pa_cons (pe_tup (pa_cons pe_int (pa_cons (pe_exc0 PySem.F.excBase_ValueError (B 41 (("IsCut" : Str), ([] : List Str)) rfl rfl) (T.g 41 (("IsCut" : Str), ([] : List Str)) rfl) (T.x 41 (("IsCut" : Str), ([] : List Str)) rfl).ox.kC (by rfl)) pa_nil))) (pa_cons (pe_tup (pa_cons pe_int (pa_cons (pe_exc0 PySem.F.excBase_ValueError (B 42 (("NotCut" : Str), ([] : List Str)) rfl rfl) (T.g 42 (("NotCut" : Str), ([] : List Str)) rfl) (T.x 42 (("NotCut" : Str), ([] : List Str)) rfl).ox.kC (by rfl)) pa_nil))) (pa_cons (pe_tup (pa_cons pe_int (pa_cons (pe_exc0 PySem.F.excBase_ValueError (B 43 (("NoEngine" : Str), ([] : List Str)) rfl rfl) (T.g 43 (("NoEngine" : Str), ([] : List Str)) rfl) (T.x 43 (("NoEngine" : Str), ([] : List Str)) rfl).ox.kC (by rfl)) pa_nil))) (pa_cons (pe_tup (pa_cons pe_int (pa_cons (pe_exc0 PySem.F.excBase_ValueError (B 45 (("NoScript" : Str), ([] : List Str)) rfl rfl) (T.g 45 (("NoScript" : Str), ([] : List Str)) rfl) (T.x 45 (("NoScript" : Str), ([] : List Str)) rfl).ox.kC (by rfl)) pa_nil))) pa_nil)))))))))))))))))))), ?_⟩
  exact rd_ealst bare_mono (ea_cons bare_mono (ee_bare (i := 1) (er := (("BadLetters" : Str), ([] : List Str))) rfl) (ea_cons bare_mono (ee_bare (i := 5) (er := (("TooMany" : Str), ([] : List Str))) rfl) (ea_cons bare_mono (ee_bare (i := 6) (er := (("BadStep" : Str), ([] : List Str))) rfl) (ea_cons bare_mono (ee_bare (i := 8) (er := (("BadOrder" : Str), ([] : List Str))) rfl) (ea_cons bare_mono (ee_bare (i := 9) (er := (("BadRoom" : Str), ([] : List Str))) rfl) (ea_cons bare_mono (ee_bare (i := 10) (er := (("NotFilled" : Str), ([] : List Str))) rfl) (ea_cons bare_mono (ee_bare (i := 16) (er := (("BadMany" : Str), ([] : List Str))) rfl) (ea_cons bare_mono (ee_bare (i := 25) (er := (("EmptyWord" : Str), ([] : List Str))) rfl) (ea_cons bare_mono (ee_bare (i := 29) (er := (("NotShut" : Str), ([] : List Str))) rfl) (ea_cons bare_mono (ee_bare (i := 30) (er := (("OtherDeeds" : Str), ([] : List Str))) rfl) (ea_cons bare_mono (ee_bare (i := 31) (er := (("BadPaperText" : Str), ([] : List Str))) rfl) (ea_cons bare_mono (ee_bare (i := 37) (er := (("UnlikeScripts" : Str), ([] : List Str))) rfl) (ea_cons bare_mono (ee_bare (i := 39) (er := (("FullDesk" : Str), ([] : List Str))) rfl) (ea_cons bare_mono (ee_bare (i := 40) (er := (("NoBack" : Str), ([] : List Str))) rfl) (ea_cons bare_mono (ee_bare (i := 41) (er := (("IsCut" : Str), ([] : List Str))) rfl) (ea_cons bare_mono (ee_bare (i := 42) (er := (("NotCut" : Str), ([] : List Str))) rfl) (ea_cons bare_mono (ee_bare (i := 43) (er := (("NoEngine" : Str), ([] : List Str))) rfl) (ea_cons bare_mono (ee_bare (i := 45) (er := (("NoScript" : Str), ([] : List Str))) rfl) ea_nil)))))))))))))))))) (by decide) k
/-! ### the errors with two fields -/
def X2Ok (K : PySem.W.Frag) (f g : Str) (v u : V) (i : Nat) (H : Hp) (x : V) : Prop := ∃ (e d : Addr) (er : Str × List Str), x = .ref e ∧ errs[i]? = some er ∧ H e = some (exo e (ga K er.1) (some d)) ∧ H d = some (exd d [(g, u), (f, v)]) ∧ f ∈ er.2 ∧ g ∈ er.2 ∧ ¬ f = g
theorem x2_mono {f g : Str} {v u : V} {i : Nat} : Mono (X2Ok K f g v u i) := fun H H' x s ⟨e, d, er, h1, h2, h3, h4, h5⟩ => ⟨e, d, er, h1, h2, s _ _ h3, s _ _ h4, h5⟩
theorem ee_mk2 {σ : L2.St} {H : Hp} {f g : Str} {v u : V} {i : Nat} {er : Str × List Str} (hσ : σ[0]? = some (some v)) (hτ : σ[1]? = some (some u)) (he : errs[i]? = some er) (hf : f ∈ er.2) (hg : g ∈ er.2) (hne : ¬ f = g) :
    EE (tMkOV (ga K er.1) (spInit2 K (ga K er.1) f g) [] (tCons (tVar 0) (tCons (tVar 1) tNil))) σ H (X2Ok K f g v u i) := by
  intro H1 s1 Q q
  refine ⟨v, hσ, u, hτ, (by show 2 ≤ 1000; decide), fun e ne => ⟨e, v, u, rfl, upd_same, fun H2 dx n1 n2 g1 g2 g3 => ⟨rfl, ?_⟩⟩⟩
  have s2 : Same H1 H2 := fun b o hb => g3 b o (ne_of_none hb ne) (by rw [upd_ne (ne_of_none hb ne)]; exact hb)
  exact q _ _ s2 ⟨e, dx, er, rfl, he, g1, g2, hf, hg, hne⟩
def CoupleOk (K : PySem.W.Frag) (v u : V) (H : Hp) (x : V) : Prop := ∃ kt, RowOk K (.ref kt) H x ∧ H kt = some (.tup [v, u])
theorem couple_mono {v u : V} : Mono (CoupleOk K v u) := fun H H' x s ⟨kt, h1, h2⟩ => ⟨kt, row_mono _ _ _ s h1, s _ _ h2⟩
theorem ee_row2 (T : TX K mg) {σ : L2.St} {H : Hp} {f g : Str} {v u y : V} {i k : Nat} (hσ : σ[k]? = some (some y)) (x : X2Ok K f g v u i H y) :
    EE (tTup (tCons (tC (.int (i : Int))) (tCons (tVar k) (tCons (tTup (tCons (tXFld K f (tVar k)) (tCons (tXFld K g (tVar k)) tNil))) tNil)))) σ H (CoupleOk K v u) := by
  intro H1 s1 Q q
  obtain ⟨e, d, er, rfl, he, h3, h4, hf, hg, hne⟩ := x2_mono _ _ _ s1 x
  have X := T.x i er he
  have lf : List.lookup f [(g, u), (f, v)] = some v := by
    have e : (f == g) = false := by simpa using hne
    simp [List.lookup, e]
  have lg : List.lookup g [(g, u), (f, v)] = some u := by simp [List.lookup]
  refine ⟨_, hσ, _, hσ, e, _, d, _, v, rfl, h3, h4, X.xc, X.no f hf, lf, _, hσ, e, _, d, _, u, rfl, h3, h4, X.xc, X.no g hg, lg, (by show 2 ≤ sizeLine; decide), fun kt nk => ?_⟩
  refine ⟨(by show 3 ≤ sizeLine; decide), fun t nt => ?_⟩
  have hk : upd H1 kt (.tup [v, u]) kt = some (.tup [v, u]) := upd_same
  have s2 := (same_new' (o := .tup [v, u]) nk).trans (same_new' (o := .tup [.int i, .ref e, .ref kt]) nt)
  exact q _ _ s2 ⟨kt, ⟨t, e, d, i, er, [(g, u), (f, v)], rfl, upd_same, he, s2 _ _ h3, s2 _ _ h4⟩, same_new' nt _ _ hk⟩
theorem rd_tup4 {t0 t1 t2 t3 : TE} {P0 P1 P2 P3 : Hp → V → Prop} {g : TG} {u : TS} {D : Ends} {σ : L2.St} {H : Hp} (e0 : EE t0 σ H P0) (e1 : EE t1 σ H P1) (e2 : EE t2 σ H P2) (e3 : EE t3 σ H P3) (m0 : Mono P0) (m1 : Mono P1) (m2 : Mono P2) (m3 : Mono P3)
    (k : ∀ (y0 y1 y2 y3 : V) (t : Addr) (H' : Hp), Same H H' → P0 H' y0 → P1 H' y1 → P2 H' y2 → P3 H' y3 → H' t = some (.tup [y0, y1, y2, y3]) → g (.ref t) σ H' (u D)) : tSeq (tAsg (tTup (tCons t0 (tCons t1 (tCons t2 (tCons t3 tNil))))) g) u D σ H :=
  e0 H (Same.refl H) _ fun y0 H0 s0 x0 => e1 H0 s0 _ fun y1 H1 s1 x1 => e2 H1 (s0.trans s1) _ fun y2 H2 s2 x2 => e3 H2 ((s0.trans s1).trans s2) _ fun y3 H3 s3 x3 =>
    ⟨(by show 4 ≤ sizeLine; decide), fun t nt => k y0 y1 y2 y3 t _ ((((s0.trans s1).trans s2).trans s3).trans (same_new' nt)) (m0 _ _ _ (((s1.trans s2).trans s3).trans (same_new' nt)) x0) (m1 _ _ _ ((s2.trans s3).trans (same_new' nt)) x1) (m2 _ _ _ (s3.trans (same_new' nt)) x2) (m3 _ _ _ (same_new' nt) x3) upd_same⟩
abbrev sCouple : Stmt := topS 69
theorem scCo : FnScope ["_law_first", "_law_second", "_law_line", "_law_equation", "_law_cut", "_law_written"] ["_law_first", "_law_second"] (defScope sCouple) := ⟨rfl, rfl, rfl, by decide +kernel, rfl, by decide +kernel, by decide +kernel⟩
def spCouple (K : PySem.W.Frag) : Sp := fun vs H Q _ => ∃ v u : V, vs = [v, u] ∧ ∀ (p : Addr) (xs : List V) (H' : Hp), Same H H' → H p = none → H' p = some (.lst xs) → xs.length = 4 → (∀ x ∈ xs, CoupleOk K v u H' x) → Q (.ref p) H'
theorem ok_couple {f : Addr} {fd : FuncData} (F : FnP K "_law_couple_rows" sCouple f fd) (T : TX K mg) {fdBadText : FuncData} (IBadText : XI K "BadText" "BadText.__init__" (inClass (topS 5) 0) fdBadText) {fdBadEquation : FuncData} (IBadEquation : XI K "BadEquation" "BadEquation.__init__" (inClass (topS 9) 0) fdBadEquation) {fdNoCut : FuncData} (INoCut : XI K "NoCut" "NoCut.__init__" (inClass (topS 28) 0) fdNoCut) {fdBadScript : FuncData} (IBadScript : XI K "BadScript" "BadScript.__init__" (inClass (topS 35) 0) fdBadScript) : FnOk P w K mg base CX0 3 f fd ["_law_first", "_law_second"] (spCouple K) := by
  refine ok0 F scCo (fun vs H Q E h => by obtain ⟨v, u, rfl, _⟩ := h; rfl) (fun cdv A outer s H vs Q E hr h => ?_)
  obtain ⟨v, u, rfl, k⟩ := h
  have hr2 : Room 2 _ := hr
  refine ⟨_, pss_cons (ps_asg (pe_tup (pa_cons (pe_oexV (T.x 3 (("BadText" : Str), (["line", "place"] : List Str)) rfl).ox IBadText.iC IBadText.tI (okIBadText IBadText T) hr2 (bIBadText IBadText) .nil pass0 (by rfl) (T.g 3 (("BadText" : Str), (["line", "place"] : List Str)) rfl) (pa_cons (pv 0) (pa_cons (pv 1) pa_nil))) (pa_cons (pe_oexV (T.x 7 (("BadEquation" : Str), (["at", "what"] : List Str)) rfl).ox IBadEquation.iC IBadEquation.tI (okIBadEquation IBadEquation T) hr2 (bIBadEquation IBadEquation) .nil pass0 (by rfl) (T.g 7 (("BadEquation" : Str), (["at", "what"] : List Str)) rfl) (pa_cons (pv 0) (pa_cons (pv 1) pa_nil))) (pa_cons (pe_oexV (T.x 26 (("NoCut" : Str), (["begin", "end"] : List Str)) rfl).ox INoCut.iC INoCut.tI (okINoCut INoCut T) hr2 (bINoCut INoCut) .nil pass0 (by rfl) (T.g 26 (("NoCut" : Str), (["begin", "end"] : List Str)) rfl) (pa_cons (pv 0) (pa_cons (pv 1) pa_nil))) (pa_cons (pe_oexV (T.x 33 (("BadScript" : Str), (["what", "road"] : List Str)) rfl).ox IBadScript.iC IBadScript.tI (okIBadScript IBadScript T) hr2 (bIBadScript IBadScript) .nil pass0 (by rfl) (T.g 33 (("BadScript" : Str), (["what", "road"] : List Str)) rfl) (pa_cons (pv 0) (pa_cons (pv 1) pa_nil))) pa_nil))))) (pg_tup (by rfl) (pgs_cons (pg_name (i := 2) scCo.nd rfl (Or.inl rfl)) (pgs_cons (pg_name (i := 3) scCo.nd rfl (Or.inl rfl)) (pgs_cons (pg_name (i := 4) scCo.nd rfl (Or.inl rfl)) (pgs_cons (pg_name (i := 5) scCo.nd rfl (Or.inl rfl)) pgs_nil)))))) (pss_one (ps_ret (pe_lst (pa_cons (pe_tup (pa_cons pe_int (pa_cons (pv 2) (pa_cons (pe_tup (pa_cons (pe_xfld (pv 2)) (pa_cons (pe_xfld (pv 2)) pa_nil))) pa_nil)))) (pa_cons (pe_tup (pa_cons pe_int (pa_cons (pv 3) (pa_cons (pe_tup (pa_cons (pe_xfld (pv 3)) (pa_cons (pe_xfld (pv 3)) pa_nil))) pa_nil)))) (pa_cons (pe_tup (pa_cons pe_int (pa_cons (pv 4) (pa_cons (pe_tup (pa_cons (pe_xfld (pv 4)) (pa_cons (pe_xfld (pv 4)) pa_nil))) pa_nil)))) (pa_cons (pe_tup (pa_cons pe_int (pa_cons (pv 5) (pa_cons (pe_tup (pa_cons (pe_xfld (pv 5)) (pa_cons (pe_xfld (pv 5)) pa_nil))) pa_nil)))) pa_nil))))))), ?_⟩
  have nn0 : ¬ ("line" : Str) = "place" := by decide +kernel
  have nn1 : ¬ ("at" : Str) = "what" := by decide +kernel
  have nn2 : ¬ ("begin" : Str) = "end" := by decide +kernel
  have nn3 : ¬ ("what" : Str) = "road" := by decide +kernel
  have e0 := ee_mk2 (K := K) (σ := L2.start ["_law_first", "_law_second", "_law_line", "_law_equation", "_law_cut", "_law_written"] [v, u]) (H := H) (i := 3) (er := (("BadText" : Str), (["line", "place"] : List Str))) (f := "line") (g := "place") (v := v) (u := u) rfl rfl rfl (List.mem_cons_self ..) (List.mem_cons_of_mem _ (List.mem_cons_self ..)) nn0
  have e1 := ee_mk2 (K := K) (σ := L2.start ["_law_first", "_law_second", "_law_line", "_law_equation", "_law_cut", "_law_written"] [v, u]) (H := H) (i := 7) (er := (("BadEquation" : Str), (["at", "what"] : List Str))) (f := "at") (g := "what") (v := v) (u := u) rfl rfl rfl (List.mem_cons_self ..) (List.mem_cons_of_mem _ (List.mem_cons_self ..)) nn1
  have e2 := ee_mk2 (K := K) (σ := L2.start ["_law_first", "_law_second", "_law_line", "_law_equation", "_law_cut", "_law_written"] [v, u]) (H := H) (i := 26) (er := (("NoCut" : Str), (["begin", "end"] : List Str))) (f := "begin") (g := "end") (v := v) (u := u) rfl rfl rfl (List.mem_cons_self ..) (List.mem_cons_of_mem _ (List.mem_cons_self ..)) nn2
  have e3 := ee_mk2 (K := K) (σ := L2.start ["_law_first", "_law_second", "_law_line", "_law_equation", "_law_cut", "_law_written"] [v, u]) (H := H) (i := 33) (er := (("BadScript" : Str), (["what", "road"] : List Str))) (f := "what") (g := "road") (v := v) (u := u) rfl rfl rfl (List.mem_cons_self ..) (List.mem_cons_of_mem _ (List.mem_cons_self ..)) nn3
  refine rd_tup4 e0 e1 e2 e3 x2_mono x2_mono x2_mono x2_mono fun y0 y1 y2 y3 t H4 sA z0 z1 z2 z3 ht => ?_
  refine ⟨t, _, rfl, SqT.of ht, rfl, _, _, rfl, _, _, rfl, _, _, rfl, _, _, rfl, rfl, ?_⟩
  have r2 := ee_row2 T (σ := [some v, some u, some y0, some y1, some y2, some y3]) (k := 2) rfl z0
  have r3 := ee_row2 T (σ := [some v, some u, some y0, some y1, some y2, some y3]) (k := 3) rfl z1
  have r4 := ee_row2 T (σ := [some v, some u, some y0, some y1, some y2, some y3]) (k := 4) rfl z2
  have r5 := ee_row2 T (σ := [some v, some u, some y0, some y1, some y2, some y3]) (k := 5) rfl z3
  exact rd_ealst couple_mono (ea_cons couple_mono r2 (ea_cons couple_mono r3 (ea_cons couple_mono r4 (ea_cons couple_mono r5 ea_nil)))) (by decide) fun p xs H' q1 q2 q3 q4 q5 => k p xs H' (sA.trans q1) (sA.free q2) q3 q4 q5
end
end My
set_option maxHeartbeats 2000000
namespace My
open PySem L2 He Hm
section
variable {P : Program} {w : World} {K : PySem.W.Frag} {mg : Str → Option Value} {base : Heap}
/-! ### a drawn text -/
theorem Kp.mutNew {a L : Addr} {ns : List Int} {H H' : Hp} {D : Addr} {o : HO} (s : Src H a L ns) (k : Kp a L ns H H') (hD : H D = none) : Kp a L ns H (L2.upd H' D o) := by
  obtain ⟨p, h, m, q⟩ := s
  have na : a ≠ D := ne_of_none q.at_ hD
  have nL : L ≠ D := ne_of_none q.ls hD
  obtain ⟨p', h', m', q'⟩ := k.src
  refine ⟨fun b o nb e => ?_, p', h', m', q'.ok, by rw [upd_ne na]; exact q'.at_, by rw [upd_ne nL]; exact q'.ls, q'.ne⟩
  rw [upd_ne (ne_of_none e hD)]
  exact k.keep b o nb e
theorem mem_joinL {c : Nat} : ∀ {ps : List (List Nat)}, c ∈ TL.joinL [] ps → ∃ p ∈ ps, c ∈ p
  | [], h => nomatch h
  | [p], h => ⟨p, List.mem_cons_self .., h⟩
  | p :: q :: r, h => by
    have h' : c ∈ p ++ ([] ++ TL.joinL [] (q :: r)) := h
    rcases List.mem_append.mp h' with h | h
    · exact ⟨p, List.mem_cons_self .., h⟩
    · obtain ⟨p', h1, h2⟩ := mem_joinL (ps := q :: r) h
      exact ⟨p', List.mem_cons_of_mem _ h1, h2⟩
/-- a text of one sign, a plain one -/
def One (y : Str) : Prop := ∃ c : Nat, y = ⟨#[c]⟩ ∧ c < 1000
theorem one_ok {ys : List Str} (h : ∀ y ∈ ys, One y) : PyData.strOk (Txt.join "" ys) = true := by
  rw [TL.join_eq]
  unfold PyData.strOk
  rw [Array.all_eq_true']
  intro c hc
  have e := TL.tl_join "" ys
  have hc' : c ∈ TL.tl (Str.join "" ys) := by
    unfold TL.tl
    exact Array.mem_toList_iff.mpr hc
  rw [e] at hc'
  have e0 : TL.tl ("" : Str) = [] := by rfl
  rw [e0] at hc'
  obtain ⟨p, hp, hcp⟩ := mem_joinL hc'
  obtain ⟨y, hy, rfl⟩ := List.mem_map.mp hp
  obtain ⟨c', rfl, hlt⟩ := h y hy
  have : c = c' := by simpa [TL.tl] using hcp
  rw [this]
  exact decide_eq_true (by omega)
theorem one_sum : ∀ {ys : List Str}, (∀ y ∈ ys, One y) → (ys.map (·.length)).sum = ys.length
  | [], _ => rfl
  | y :: ys, h => by
    obtain ⟨c, rfl, _⟩ := h y (List.mem_cons_self ..)
    have ih := one_sum fun y hy => h y (List.mem_cons_of_mem _ hy)
    rw [List.map_cons, List.sum_cons, List.length_cons, ih]
    show 1 + ys.length = ys.length + 1
    omega
def abcs : Str := "abcdefghijklmnopqrstuvwxyz "
theorem abc_at : ∀ j : Fin 27, ∃ c, abcs.cps.toList[j.val]? = some c ∧ c < 1000 := by decide +kernel
theorem abc_len : abcs.length ≤ sizeLine := by decide +kernel
theorem scTe : FnScope ["_law_source_here", "_law_k"] ["_law_source_here"] (defScope sText) := ⟨rfl, rfl, rfl, by decide +kernel, rfl, by decide +kernel, by decide +kernel⟩
def spText : Sp := fun vs H Q _ => ∃ (a L : Addr) (ns : List Int), vs = [.ref a] ∧ Src H a L ns ∧ ∀ (z : Str) (H' : Hp), PyData.strOk z = true → Kp a L ns H H' → Q (.str z) H'
theorem ok_text {f fT : Addr} {fd fdT : FuncData} (F : FnP K "_law_text" sText f fd) (FT : FnP K "_law_take" sTake fT fdT) (T : TX K mg) (mT : mg "_law_take" = some (.ref fT)) (bT : Binds K fdT ["_law_source_here", "_law_many"] []) : FnOk P w K mg base CX0 2 f fd ["_law_source_here"] spText := by
  have GT : FnOk P w K mg base CX0 1 fT fdT ["_law_source_here", "_law_many"] spTake := ok_take FT T.s
  refine ok0 F scTe (fun vs H Q E h => by obtain ⟨a, L, ns, rfl, _⟩ := h; rfl) (fun cdv A outer s H vs Q E hr h => ?_)
  obtain ⟨a, L, ns, rfl, S, k⟩ := h
  refine ⟨_, pss_one (ps_ret (pe_join pe_str (pe_lc (own := [("_law_k", 1)]) (g := gName 1) (tt := tYes) rfl scTe.nd (pi_range1 rfl T.rng (pa_cons (pe_call GT hr (by rfl) mT FT.kp bT .nil pass0 (pa_cons (pv 0) (pa_cons pe_int pa_nil))) pa_nil))
      (blkOk_by (N := ["_law_source_here", "_law_k"]) (sc := defScope sText) (by decide +kernel)) (fun _ _ _ _ _ => pg_name (i := 1) scTe.nd rfl (Or.inl rfl)) (fun _ _ _ _ _ => pts_nil)
      (fun _ _ _ _ _ => pe_ix ix_str pe_str (pe_call GT hr (by rfl) mT FT.kp bT .nil pass0 (pa_cons (pv 0) (pa_cons pe_int pa_nil))) (fun _ _ => rfl))))), ?_⟩
  refine ⟨⟨_, rfl⟩, ?_⟩
  refine ⟨_, rfl, a, L, ns, 9, rfl, S, (by decide), (by decide +kernel), fun r H1 r0 r1 kp => ?_⟩
  obtain ⟨n, rfl⟩ : ∃ n : Nat, r = (n : Int) := ⟨r.toNat, by omega⟩
  refine ⟨_, rfl, (by have : -(2 ^ 62) ≤ (0 : Int) := by decide
                      omega), (by have : (9 : Int) ≤ 2 ^ 62 := by decide
                                  omega), fun D hD => ?_⟩
  have nDa : D ≠ a := fun z => by
    obtain ⟨_, _, _, q⟩ := kp.src
    rw [z, q.at_] at hD
    cases hD
  refine lc_range (lo := 0) (n := n) (fun i H' => ∃ ys : List Str, H' D = some (.lst (ys.map V.str)) ∧ ys.length = i ∧ (∀ y ∈ ys, One y) ∧ Kp a L ns H1 H') ⟨[], upd_same, rfl, (fun _ h => nomatch h), Kp.new kp.src hD⟩ ?_ ?_
  · rintro i H' hi ⟨ys, h1, h2, h3, k2⟩
    refine ⟨rfl, _, rfl, a, L, ns, 27, rfl, k2.src, (by decide), (by decide +kernel), fun r H2 r0 r1 k3 => ?_⟩
    obtain ⟨j, rfl⟩ : ∃ j : Nat, r = (j : Int) := ⟨r.toNat, by omega⟩
    obtain ⟨c, hc, hlt⟩ := abc_at ⟨j, by omega⟩
    refine ⟨_, _, c, rfl, rfl, abc_len, atI_nat hc, _, k3.keep D _ nDa h1, (by rw [List.length_map]; exact Nat.lt_of_lt_of_le (show ys.length < 9 by omega) (by decide)), ys ++ [⟨#[c]⟩], ?_, ?_, ?_, Kp.mutNew kp.src (k2.trans k3) hD⟩
    · rw [upd_same, List.map_append]
      rfl
    · rw [List.length_append, h2]
      rfl
    · intro y hy
      rcases List.mem_append.mp hy with hy | hy
      · exact h3 y hy
      · have : y = ⟨#[c]⟩ := by simpa using hy
        exact ⟨c, this, hlt⟩
  · rintro H' ⟨ys, h1, h2, h3, k2⟩
    refine ⟨_, D, ys, rfl, rfl, .inl (SqL.of h1), ?_, k _ _ (one_ok h3) (kp.trans k2)⟩
    rw [one_sum h3, h2]
    show n + n * 0 ≤ 16777216
    omega
/-! ### a drawn thing -/
def Thing (H : Hp) (v : V) (d : PyData) : Prop := (∃ n, v = .int n ∧ d = .int n) ∨ (∃ z, PyData.strOk z = true ∧ v = .str z ∧ d = .str z) ∨ (v = .non ∧ d = .none) ∨ (∃ t n, v = .ref t ∧ H t = some (.tup [.int n, .int 2]) ∧ d = .tuple [.int n, .int 2]) ∨ (∃ t, v = .ref t ∧ H t = some (.tup []) ∧ d = .tuple [])
theorem th_of {H H' : Hp} {v : V} {d : PyData} (k : ∀ t xs, H t = some (.tup xs) → H' t = some (.tup xs)) (h : Thing H v d) : Thing H' v d := by
  rcases h with h | h | h | ⟨t, n, h1, h2, h3⟩ | ⟨t, h1, h2, h3⟩
  · exact .inl h
  · exact .inr (.inl h)
  · exact .inr (.inr (.inl h))
  · exact .inr (.inr (.inr (.inl ⟨t, n, h1, k _ _ h2, h3⟩)))
  · exact .inr (.inr (.inr (.inr ⟨t, h1, k _ _ h2, h3⟩)))
theorem th_dp {H : Hp} {v : V} {d : PyData} (h : Thing H v d) : Dp K H v d := by
  rcases h with ⟨n, rfl, rfl⟩ | ⟨z, _, rfl, rfl⟩ | ⟨rfl, rfl⟩ | ⟨t, n, rfl, h2, rfl⟩ | ⟨t, rfl, h2, rfl⟩
  · exact .int n
  · exact .str z
  · exact .non
  · exact .tup (SqT.of h2) (.cons (.int n) (.cons (.int 2) .nil))
  · exact .tup (SqT.of h2) .nil
theorem th_lay {H : Hp} {v : V} {d : PyData} (h : Thing H v d) : PyData.canLay0 d = true := by
  rcases h with ⟨n, rfl, rfl⟩ | ⟨z, hz, rfl, rfl⟩ | ⟨rfl, rfl⟩ | ⟨t, n, rfl, h2, rfl⟩ | ⟨t, rfl, h2, rfl⟩
  · rfl
  · exact hz
  · rfl
  · rfl
  · rfl
theorem th_depth {H : Hp} {v : V} {d : PyData} (h : Thing H v d) : PyData.depth d ≤ 1 := by
  rcases h with ⟨n, rfl, rfl⟩ | ⟨z, hz, rfl, rfl⟩ | ⟨rfl, rfl⟩ | ⟨t, n, rfl, h2, rfl⟩ | ⟨t, rfl, h2, rfl⟩ <;> simp [PyData.depth, PyData.depthAll]
theorem shaped_of {d : PyData} (h : PyData.canLay0 d = true) (hd : PyData.depth d ≤ 64) : SeqAt.shaped d = true := by
  unfold SeqAt.shaped
  rw [h, decide_eq_true hd]
  rfl
def spThing : Sp := fun vs H Q _ => ∃ (a L : Addr) (ns : List Int), vs = [.ref a] ∧ Src H a L ns ∧ ∀ (v : V) (d : PyData) (H' : Hp), Kp a L ns H H' → Thing H' v d → Q v H'
theorem scTh : FnScope ["_law_source_here"] ["_law_source_here"] (defScope sThing) := ⟨rfl, rfl, rfl, by decide +kernel, rfl, by decide +kernel, by decide +kernel⟩
theorem ok_thing {f fT fP fX : Addr} {fd fdT fdP fdX : FuncData} (F : FnP K "_law_thing" sThing f fd) (FT : FnP K "_law_take" sTake fT fdT) (FP : FnP K "_law_pick" sPick fP fdP) (FX : FnP K "_law_text" sText fX fdX) (T : TX K mg)
    (mT : mg "_law_take" = some (.ref fT)) (bT : Binds K fdT ["_law_source_here", "_law_many"] []) (mP : mg "_law_pick" = some (.ref fP)) (bP : Binds K fdP ["_law_source_here", "_law_things"] []) (mX : mg "_law_text" = some (.ref fX)) (bX : Binds K fdX ["_law_source_here"] []) :
    FnOk P w K mg base CX0 3 f fd ["_law_source_here"] spThing := by
  have GT : FnOk P w K mg base CX0 1 fT fdT ["_law_source_here", "_law_many"] spTake := ok_take FT T.s
  have GP : FnOk P w K mg base CX0 2 fP fdP ["_law_source_here", "_law_things"] (spPick K) := ok_pick FP FT T.s mT bT
  have GX : FnOk P w K mg base CX0 2 fX fdX ["_law_source_here"] spText := ok_text FX FT T mT bT
  refine ok0 F scTh (fun vs H Q E h => by obtain ⟨a, L, ns, rfl, _⟩ := h; rfl) (fun cdv A outer s H vs Q E hr h => ?_)
  obtain ⟨a, L, ns, rfl, S, k⟩ := h
  have hr1 : Room 1 _ := hr.mono (by decide)
  refine ⟨_, pss_one (ps_ret (pe_call GP hr (by rfl) mP FP.kp bP .nil pass0 (pa_cons (pv 0) (pa_cons (pe_lst
    (pa_cons (pe_op op_sub (pe_call GT hr1 (by rfl) mT FT.kp bT .nil pass0 (pa_cons (pv 0) (pa_cons (pe_op op_pow pe_int pe_int) pa_nil))) (pe_op op_pow pe_int pe_int))
    (pa_cons (pe_call GX hr (by rfl) mX FX.kp bX .nil pass0 (pa_cons (pv 0) pa_nil))
    (pa_cons pe_non
    (pa_cons (pe_tup (pa_cons (pe_call GT hr1 (by rfl) mT FT.kp bT .nil pass0 (pa_cons (pv 0) (pa_cons pe_int pa_nil))) (pa_cons pe_int pa_nil)))
    (pa_cons (pe_tup pa_nil) pa_nil)))))) pa_nil)))), ?_⟩
  refine ⟨_, rfl, _, rfl, _, _, rfl, rfl, ⟨by decide, by decide, by decide⟩, a, L, ns, _, rfl, S, (by decide +kernel), (by decide +kernel), fun r H1 r0 r1 k1 => ?_⟩
  refine ⟨_, _, rfl, rfl, ⟨by decide, by decide, by decide⟩, _, _, rfl, rfl, ?_⟩
  refine ⟨_, rfl, a, L, ns, rfl, k1.src, fun z H2 hz k2 => ?_⟩
  refine ⟨_, rfl, a, L, ns, _, rfl, k2.src, (by decide), (by decide +kernel), fun r2 H3 r3 r4 k3 => ?_⟩
  refine ⟨(by show 2 ≤ sizeLine; decide), fun t4 n4 => ⟨(by show 0 ≤ sizeLine; decide), fun t5 n5 => ⟨(by show 5 ≤ sizeLine; decide), fun l nl => ?_⟩⟩⟩
  have q4 := Kp.new (o := .tup [.int r2, .int 2]) k3.src n4
  have q5 := Kp.new (o := .tup []) q4.src n5
  have ql := Kp.new (o := .lst [.int (r - 10 ^ (20 : Int).toNat), .str z, .non, .ref t4, .ref t5]) q5.src nl
  have all := (((k1.trans k2).trans k3).trans q4).trans (q5.trans ql)
  have h4 : upd H3 t4 (.tup [.int r2, .int 2]) t4 = some (.tup [.int r2, .int 2]) := upd_same
  have h5 : upd (upd H3 t4 (.tup [.int r2, .int 2])) t5 (.tup []) t5 = some (.tup []) := upd_same
  have g4 := ql.tup q5.src (q5.tup q4.src h4)
  have g5 := ql.tup q5.src h5
  refine ⟨a, L, l, ns, _, rfl, ql.src, upd_same, Ne.symm (Src.ne q5.src nl), (by simp), (by show 5 < 1000; decide), fun x H' hx kp => ?_⟩
  have go : ∀ d, Thing _ x d → Q x H' := fun d hd => k x d H' (all.trans kp) (th_of (fun t xs e => kp.tup ql.src e) hd)
  simp only [List.mem_cons, List.not_mem_nil, or_false] at hx
  rcases hx with rfl | rfl | rfl | rfl | rfl
  · exact go _ (.inl ⟨_, rfl, rfl⟩)
  · exact go _ (.inr (.inl ⟨_, hz, rfl, rfl⟩))
  · exact go _ (.inr (.inr (.inl ⟨rfl, rfl⟩)))
  · exact go _ (.inr (.inr (.inr (.inl ⟨_, _, rfl, g4, rfl⟩))))
  · exact go _ (.inr (.inr (.inr (.inr ⟨_, rfl, g5, rfl⟩))))
end
end My
set_option maxHeartbeats 4000000
namespace My
open PySem L2 He Hm
section
variable {P : Program} {w : World} {K : PySem.W.Frag} {mg : Str → Option Value} {base : Heap}
/-! ### lists of rows -/
def EL (te : TE) (σ : L2.St) (H : Hp) (n : Nat) (P : Hp → V → Prop) : Prop := ∀ H1, Same H H1 → ∀ Q : VK, (∀ (p : Addr) (xs : List V) (H2 : Hp), Same H1 H2 → H2 p = some (.lst xs) → xs.length ≤ n → (∀ x ∈ xs, P H2 x) → Q (.ref p) H2) → te σ H1 Q
theorem el_var {σ : L2.St} {H : Hp} {k n : Nat} {P : Hp → V → Prop} {p : Addr} {xs : List V} (m : Mono P) (hσ : σ[k]? = some (some (.ref p))) (hp : H p = some (.lst xs)) (hn : xs.length ≤ n) (hx : ∀ x ∈ xs, P H x) : EL (tVar k) σ H n P :=
  fun H1 s1 Q q => ⟨_, hσ, q p xs H1 (Same.refl _) (s1 _ _ hp) hn fun x h => m _ _ _ s1 (hx x h)⟩
theorem el_rows {σ : L2.St} {H : Hp} {k : Nat} {v : V} (hσ : σ[k]? = some (some v)) : EL (tCall (spRows K) [] E0 (tCons (tVar k) tNil)) σ H 10 (RowOk K v) :=
  fun H1 s1 Q q => ⟨v, hσ, v, rfl, fun p xs H2 s2 _ hp hn hx => q p xs H2 s2 hp hn hx⟩
theorem el_cat {ta tb : TE} {σ : L2.St} {H : Hp} {n m : Nat} {P : Hp → V → Prop} (mo : Mono P) (ha : EL ta σ H n P) (hb : EL tb σ H m P) (hnm : n + m ≤ 10000) : EL (tOp rCat ta tb) σ H (n + m) P :=
  fun H1 s1 Q q => ha H1 s1 _ fun p xs H2 s2 hp hn hx => hb H2 (s1.trans s2) _ fun p' ys H3 s3 hp' hm hy => by
    have l1 : xs.length + ys.length ≤ n + m := by omega
    refine ⟨p, p', xs, ys, rfl, rfl, s3 _ _ hp, hp', Nat.le_trans (Nat.le_trans l1 hnm) (by decide), fun r nr => ?_⟩
    refine q r (xs ++ ys) _ ((s2.trans s3).trans (same_new' nr)) upd_same (by rw [List.length_append]; exact l1) fun x h => ?_
    rcases List.mem_append.mp h with h | h
    · exact mo _ _ _ (s3.trans (same_new' nr)) (hx x h)
    · exact mo _ _ _ (same_new' nr) (hy x h)
theorem rd_set {te : TE} {u : TS} {D : Ends} {σ : L2.St} {H : Hp} {k n : Nat} {P : Hp → V → Prop} (h : EL te σ H n P) (q : ∀ (p : Addr) (xs : List V) (H2 : Hp), Same H H2 → H2 p = some (.lst xs) → xs.length ≤ n → (∀ x ∈ xs, P H2 x) → u D (σ.set k (some (.ref p))) H2) : tSeq (tAsg te (gName k)) u D σ H :=
  h H (Same.refl _) _ fun p xs H2 s2 hp hn hx => q p xs H2 s2 hp hn hx
def spLaw (K : PySem.W.Frag) : Sp := fun vs H Q _ => ∃ (a : Addr) (ns : List Int), vs = [.ref a] ∧ SqL K H a (ns.map V.int) ∧ ∀ H', Q (.bl true) H'
theorem Kp.ofSame {a L : Addr} {ns : List Int} {H H' : Hp} (s : Src H a L ns) (e : Same H H') : Kp a L ns H H' := Kp.same s fun b o h => e b o h
theorem err_of_row {v x : V} {H : Hp} (h : RowOk K v H x) : ∃ (tt e : Addr) (i : Nat), x = .ref tt ∧ H tt = some (.tup [.int i, .ref e, v]) ∧ ErrAt K H i e := by
  obtain ⟨tt, e, d, i, er, fs, h1, h2, h3, h4, h5⟩ := h
  exact ⟨tt, e, i, h1, h2, er, some d, h3, h4, fun dd hd => ⟨fs, by rw [← Option.some.inj hd]; exact h5⟩⟩
abbrev sLaw : Stmt := topS 72
theorem scL : FnScope ["_law_script", "_law_source_here", "_law_at", "_law_raised", "_law_turn", "_law_thing_here", "_law_rows", "_law_kept", "_law_other"] ["_law_script"] (defScope sLaw) := ⟨rfl, rfl, rfl, by decide +kernel, rfl, by decide +kernel, by decide +kernel⟩
/-- the defs of the law, as they stand -/
structure All (K : PySem.W.Frag) (mg : Str → Option Value) : Prop where
  T : TX K mg
  B : ∀ (i : Nat) (er : Str × List Str), errs[i]? = some er → er.2 = [] → PySem.W.excIn K (ga K er.1) veBase "ValueError.__new__" = true
  D_law_source : ∃ f fd, mg "_law_source" = some (.ref f) ∧ FnP K "_law_source" (topS 50) f fd
  D_law_take : ∃ f fd, mg "_law_take" = some (.ref f) ∧ FnP K "_law_take" (topS 51) f fd
  D_law_pick : ∃ f fd, mg "_law_pick" = some (.ref f) ∧ FnP K "_law_pick" (topS 52) f fd
  D_law_text : ∃ f fd, mg "_law_text" = some (.ref f) ∧ FnP K "_law_text" (topS 53) f fd
  D_law_thing : ∃ f fd, mg "_law_thing" = some (.ref f) ∧ FnP K "_law_thing" (topS 54) f fd
  D_law_bare : ∃ f fd, mg "_law_bare" = some (.ref f) ∧ FnP K "_law_bare" (topS 55) f fd
  D_law_what_rows : ∃ f fd, mg "_law_what_rows" = some (.ref f) ∧ FnP K "_law_what_rows" (topS 56) f fd
  D_law_how_rows : ∃ f fd, mg "_law_how_rows" = some (.ref f) ∧ FnP K "_law_how_rows" (topS 57) f fd
  D_law_number_rows : ∃ f fd, mg "_law_number_rows" = some (.ref f) ∧ FnP K "_law_number_rows" (topS 58) f fd
  D_law_waiting_rows : ∃ f fd, mg "_law_waiting_rows" = some (.ref f) ∧ FnP K "_law_waiting_rows" (topS 59) f fd
  D_law_hand_rows : ∃ f fd, mg "_law_hand_rows" = some (.ref f) ∧ FnP K "_law_hand_rows" (topS 60) f fd
  D_law_report_rows : ∃ f fd, mg "_law_report_rows" = some (.ref f) ∧ FnP K "_law_report_rows" (topS 61) f fd
  D_law_at_rows : ∃ f fd, mg "_law_at_rows" = some (.ref f) ∧ FnP K "_law_at_rows" (topS 62) f fd
  D_law_symbol_rows : ∃ f fd, mg "_law_symbol_rows" = some (.ref f) ∧ FnP K "_law_symbol_rows" (topS 63) f fd
  D_law_length_rows : ∃ f fd, mg "_law_length_rows" = some (.ref f) ∧ FnP K "_law_length_rows" (topS 64) f fd
  D_law_name_rows : ∃ f fd, mg "_law_name_rows" = some (.ref f) ∧ FnP K "_law_name_rows" (topS 65) f fd
  D_law_used_rows : ∃ f fd, mg "_law_used_rows" = some (.ref f) ∧ FnP K "_law_used_rows" (topS 66) f fd
  D_law_road_rows : ∃ f fd, mg "_law_road_rows" = some (.ref f) ∧ FnP K "_law_road_rows" (topS 67) f fd
  D_law_turns_rows : ∃ f fd, mg "_law_turns_rows" = some (.ref f) ∧ FnP K "_law_turns_rows" (topS 68) f fd
  D_law_couple_rows : ∃ f fd, mg "_law_couple_rows" = some (.ref f) ∧ FnP K "_law_couple_rows" (topS 69) f fd
  D_law_kinds : ∃ f fd, mg "_law_kinds" = some (.ref f) ∧ FnP K "_law_kinds" (topS 70) f fd
  D_law_alone : ∃ f fd, mg "_law_alone" = some (.ref f) ∧ FnP K "_law_alone" (topS 71) f fd
  IBadBook : ∃ fd, XI K "BadBook" "BadBook.__init__" (inClass (topS 2) 0) fd
  IBadSaying : ∃ fd, XI K "BadSaying" "BadSaying.__init__" (inClass (topS 4) 0) fd
  IBadText : ∃ fd, XI K "BadText" "BadText.__init__" (inClass (topS 5) 0) fd
  IBadExpression : ∃ fd, XI K "BadExpression" "BadExpression.__init__" (inClass (topS 6) 0) fd
  IBadEquation : ∃ fd, XI K "BadEquation" "BadEquation.__init__" (inClass (topS 9) 0) fd
  IEnded : ∃ fd, XI K "Ended" "Ended.__init__" (inClass (topS 13) 0) fd
  INoBook : ∃ fd, XI K "NoBook" "NoBook.__init__" (inClass (topS 14) 0) fd
  INotOpen : ∃ fd, XI K "NotOpen" "NotOpen.__init__" (inClass (topS 15) 0) fd
  INotLooked : ∃ fd, XI K "NotLooked" "NotLooked.__init__" (inClass (topS 16) 0) fd
  ITooFull : ∃ fd, XI K "TooFull" "TooFull.__init__" (inClass (topS 17) 0) fd
  INoHand : ∃ fd, XI K "NoHand" "NoHand.__init__" (inClass (topS 19) 0) fd
  IBusy : ∃ fd, XI K "Busy" "Busy.__init__" (inClass (topS 20) 0) fd
  IIdle : ∃ fd, XI K "Idle" "Idle.__init__" (inClass (topS 21) 0) fd
  INoReport : ∃ fd, XI K "NoReport" "NoReport.__init__" (inClass (topS 22) 0) fd
  IBadGrammar : ∃ fd, XI K "BadGrammar" "BadGrammar.__init__" (inClass (topS 23) 0) fd
  INoSymbol : ∃ fd, XI K "NoSymbol" "NoSymbol.__init__" (inClass (topS 24) 0) fd
  INoSign : ∃ fd, XI K "NoSign" "NoSign.__init__" (inClass (topS 25) 0) fd
  ITooLong : ∃ fd, XI K "TooLong" "TooLong.__init__" (inClass (topS 26) 0) fd
  INoCut : ∃ fd, XI K "NoCut" "NoCut.__init__" (inClass (topS 28) 0) fd
  IBadFilling : ∃ fd, XI K "BadFilling" "BadFilling.__init__" (inClass (topS 29) 0) fd
  INoName : ∃ fd, XI K "NoName" "NoName.__init__" (inClass (topS 30) 0) fd
  ITooWide : ∃ fd, XI K "TooWide" "TooWide.__init__" (inClass (topS 34) 0) fd
  IBadScript : ∃ fd, XI K "BadScript" "BadScript.__init__" (inClass (topS 35) 0) fd
  IShortInputs : ∃ fd, XI K "ShortInputs" "ShortInputs.__init__" (inClass (topS 36) 0) fd
  INoIf : ∃ fd, XI K "NoIf" "NoIf.__init__" (inClass (topS 37) 0) fd
  INoWay : ∃ fd, XI K "NoWay" "NoWay.__init__" (inClass (topS 38) 0) fd
  IBadDeed : ∃ fd, XI K "BadDeed" "BadDeed.__init__" (inClass (topS 40) 0) fd
  INoPaper : ∃ fd, XI K "NoPaper" "NoPaper.__init__" (inClass (topS 46) 0) fd
  INoStatement : ∃ fd, XI K "NoStatement" "NoStatement.__init__" (inClass (topS 48) 0) fd
theorem ok_law {f : Addr} {fd : FuncData} (F : FnP K "law" sLaw f fd) (A0 : All K mg) : FnOk P w K mg base CX0 5 f fd ["_law_script"] (spLaw K) := by
  have T := A0.T
  obtain ⟨f_law_source, fd_law_source, m_law_source, F_law_source⟩ := A0.D_law_source
  obtain ⟨f_law_take, fd_law_take, m_law_take, F_law_take⟩ := A0.D_law_take
  obtain ⟨f_law_pick, fd_law_pick, m_law_pick, F_law_pick⟩ := A0.D_law_pick
  obtain ⟨f_law_text, fd_law_text, m_law_text, F_law_text⟩ := A0.D_law_text
  obtain ⟨f_law_thing, fd_law_thing, m_law_thing, F_law_thing⟩ := A0.D_law_thing
  obtain ⟨f_law_bare, fd_law_bare, m_law_bare, F_law_bare⟩ := A0.D_law_bare
  obtain ⟨f_law_what_rows, fd_law_what_rows, m_law_what_rows, F_law_what_rows⟩ := A0.D_law_what_rows
  obtain ⟨f_law_how_rows, fd_law_how_rows, m_law_how_rows, F_law_how_rows⟩ := A0.D_law_how_rows
  obtain ⟨f_law_number_rows, fd_law_number_rows, m_law_number_rows, F_law_number_rows⟩ := A0.D_law_number_rows
  obtain ⟨f_law_waiting_rows, fd_law_waiting_rows, m_law_waiting_rows, F_law_waiting_rows⟩ := A0.D_law_waiting_rows
  obtain ⟨f_law_hand_rows, fd_law_hand_rows, m_law_hand_rows, F_law_hand_rows⟩ := A0.D_law_hand_rows
  obtain ⟨f_law_report_rows, fd_law_report_rows, m_law_report_rows, F_law_report_rows⟩ := A0.D_law_report_rows
  obtain ⟨f_law_at_rows, fd_law_at_rows, m_law_at_rows, F_law_at_rows⟩ := A0.D_law_at_rows
  obtain ⟨f_law_symbol_rows, fd_law_symbol_rows, m_law_symbol_rows, F_law_symbol_rows⟩ := A0.D_law_symbol_rows
  obtain ⟨f_law_length_rows, fd_law_length_rows, m_law_length_rows, F_law_length_rows⟩ := A0.D_law_length_rows
  obtain ⟨f_law_name_rows, fd_law_name_rows, m_law_name_rows, F_law_name_rows⟩ := A0.D_law_name_rows
  obtain ⟨f_law_used_rows, fd_law_used_rows, m_law_used_rows, F_law_used_rows⟩ := A0.D_law_used_rows
  obtain ⟨f_law_road_rows, fd_law_road_rows, m_law_road_rows, F_law_road_rows⟩ := A0.D_law_road_rows
  obtain ⟨f_law_turns_rows, fd_law_turns_rows, m_law_turns_rows, F_law_turns_rows⟩ := A0.D_law_turns_rows
  obtain ⟨f_law_couple_rows, fd_law_couple_rows, m_law_couple_rows, F_law_couple_rows⟩ := A0.D_law_couple_rows
  obtain ⟨f_law_kinds, fd_law_kinds, m_law_kinds, F_law_kinds⟩ := A0.D_law_kinds
  obtain ⟨f_law_alone, fd_law_alone, m_law_alone, F_law_alone⟩ := A0.D_law_alone
  obtain ⟨fdBadBook, IBadBook⟩ := A0.IBadBook
  obtain ⟨fdBadSaying, IBadSaying⟩ := A0.IBadSaying
  obtain ⟨fdBadText, IBadText⟩ := A0.IBadText
  obtain ⟨fdBadExpression, IBadExpression⟩ := A0.IBadExpression
  obtain ⟨fdBadEquation, IBadEquation⟩ := A0.IBadEquation
  obtain ⟨fdEnded, IEnded⟩ := A0.IEnded
  obtain ⟨fdNoBook, INoBook⟩ := A0.INoBook
  obtain ⟨fdNotOpen, INotOpen⟩ := A0.INotOpen
  obtain ⟨fdNotLooked, INotLooked⟩ := A0.INotLooked
  obtain ⟨fdTooFull, ITooFull⟩ := A0.ITooFull
  obtain ⟨fdNoHand, INoHand⟩ := A0.INoHand
  obtain ⟨fdBusy, IBusy⟩ := A0.IBusy
  obtain ⟨fdIdle, IIdle⟩ := A0.IIdle
  obtain ⟨fdNoReport, INoReport⟩ := A0.INoReport
  obtain ⟨fdBadGrammar, IBadGrammar⟩ := A0.IBadGrammar
  obtain ⟨fdNoSymbol, INoSymbol⟩ := A0.INoSymbol
  obtain ⟨fdNoSign, INoSign⟩ := A0.INoSign
  obtain ⟨fdTooLong, ITooLong⟩ := A0.ITooLong
  obtain ⟨fdNoCut, INoCut⟩ := A0.INoCut
  obtain ⟨fdBadFilling, IBadFilling⟩ := A0.IBadFilling
  obtain ⟨fdNoName, INoName⟩ := A0.INoName
  obtain ⟨fdTooWide, ITooWide⟩ := A0.ITooWide
  obtain ⟨fdBadScript, IBadScript⟩ := A0.IBadScript
  obtain ⟨fdShortInputs, IShortInputs⟩ := A0.IShortInputs
  obtain ⟨fdNoIf, INoIf⟩ := A0.INoIf
  obtain ⟨fdNoWay, INoWay⟩ := A0.INoWay
  obtain ⟨fdBadDeed, IBadDeed⟩ := A0.IBadDeed
  obtain ⟨fdNoPaper, INoPaper⟩ := A0.INoPaper
  obtain ⟨fdNoStatement, INoStatement⟩ := A0.INoStatement
  have b_law_source : Binds K fd_law_source ["_law_script"] [] := F_law_source.bindsN fun _ _ _ _ _ _ us hl => match us, hl with | [_], _ => rfl
  have b_law_take : Binds K fd_law_take ["_law_source_here", "_law_many"] [] := F_law_take.bindsN fun _ _ _ _ _ _ us hl => match us, hl with | [_, _], _ => rfl
  have b_law_pick : Binds K fd_law_pick ["_law_source_here", "_law_things"] [] := F_law_pick.bindsN fun _ _ _ _ _ _ us hl => match us, hl with | [_, _], _ => rfl
  have b_law_text : Binds K fd_law_text ["_law_source_here"] [] := F_law_text.bindsN fun _ _ _ _ _ _ us hl => match us, hl with | [_], _ => rfl
  have b_law_thing : Binds K fd_law_thing ["_law_source_here"] [] := F_law_thing.bindsN fun _ _ _ _ _ _ us hl => match us, hl with | [_], _ => rfl
  have b_law_bare : Binds K fd_law_bare [] [] := F_law_bare.bindsN fun _ _ _ _ _ _ us hl => match us, hl with | [], _ => rfl
  have b_law_what_rows : Binds K fd_law_what_rows ["_law_thing_here"] [] := F_law_what_rows.bindsN fun _ _ _ _ _ _ us hl => match us, hl with | [_], _ => rfl
  have b_law_how_rows : Binds K fd_law_how_rows ["_law_thing_here"] [] := F_law_how_rows.bindsN fun _ _ _ _ _ _ us hl => match us, hl with | [_], _ => rfl
  have b_law_number_rows : Binds K fd_law_number_rows ["_law_thing_here"] [] := F_law_number_rows.bindsN fun _ _ _ _ _ _ us hl => match us, hl with | [_], _ => rfl
  have b_law_waiting_rows : Binds K fd_law_waiting_rows ["_law_thing_here"] [] := F_law_waiting_rows.bindsN fun _ _ _ _ _ _ us hl => match us, hl with | [_], _ => rfl
  have b_law_hand_rows : Binds K fd_law_hand_rows ["_law_thing_here"] [] := F_law_hand_rows.bindsN fun _ _ _ _ _ _ us hl => match us, hl with | [_], _ => rfl
  have b_law_report_rows : Binds K fd_law_report_rows ["_law_thing_here"] [] := F_law_report_rows.bindsN fun _ _ _ _ _ _ us hl => match us, hl with | [_], _ => rfl
  have b_law_at_rows : Binds K fd_law_at_rows ["_law_thing_here"] [] := F_law_at_rows.bindsN fun _ _ _ _ _ _ us hl => match us, hl with | [_], _ => rfl
  have b_law_symbol_rows : Binds K fd_law_symbol_rows ["_law_thing_here"] [] := F_law_symbol_rows.bindsN fun _ _ _ _ _ _ us hl => match us, hl with | [_], _ => rfl
  have b_law_length_rows : Binds K fd_law_length_rows ["_law_thing_here"] [] := F_law_length_rows.bindsN fun _ _ _ _ _ _ us hl => match us, hl with | [_], _ => rfl
  have b_law_name_rows : Binds K fd_law_name_rows ["_law_thing_here"] [] := F_law_name_rows.bindsN fun _ _ _ _ _ _ us hl => match us, hl with | [_], _ => rfl
  have b_law_used_rows : Binds K fd_law_used_rows ["_law_thing_here"] [] := F_law_used_rows.bindsN fun _ _ _ _ _ _ us hl => match us, hl with | [_], _ => rfl
  have b_law_road_rows : Binds K fd_law_road_rows ["_law_thing_here"] [] := F_law_road_rows.bindsN fun _ _ _ _ _ _ us hl => match us, hl with | [_], _ => rfl
  have b_law_turns_rows : Binds K fd_law_turns_rows ["_law_thing_here"] [] := F_law_turns_rows.bindsN fun _ _ _ _ _ _ us hl => match us, hl with | [_], _ => rfl
  have b_law_couple_rows : Binds K fd_law_couple_rows ["_law_first", "_law_second"] [] := F_law_couple_rows.bindsN fun _ _ _ _ _ _ us hl => match us, hl with | [_, _], _ => rfl
  have b_law_kinds : Binds K fd_law_kinds ["_law_raised"] [] := F_law_kinds.bindsN fun _ _ _ _ _ _ us hl => match us, hl with | [_], _ => rfl
  have b_law_alone : Binds K fd_law_alone ["_law_at", "_law_raised"] [] := F_law_alone.bindsN fun _ _ _ _ _ _ us hl => match us, hl with | [_, _], _ => rfl
  have G_law_source : FnOk P w K mg base CX0 1 f_law_source fd_law_source ["_law_script"] (spSource K) := ok_source F_law_source T.s
  have G_law_take : FnOk P w K mg base CX0 1 f_law_take fd_law_take ["_law_source_here", "_law_many"] (spTake) := ok_take F_law_take T.s
  have G_law_thing : FnOk P w K mg base CX0 3 f_law_thing fd_law_thing ["_law_source_here"] (spThing) := ok_thing F_law_thing F_law_take F_law_pick F_law_text T m_law_take b_law_take m_law_pick b_law_pick m_law_text b_law_text
  have G_law_bare : FnOk P w K mg base CX0 1 f_law_bare fd_law_bare [] (spBare K) := ok_bare F_law_bare T A0.B
  have G_law_alone : FnOk P w K mg base CX0 2 f_law_alone fd_law_alone ["_law_at", "_law_raised"] (spAlone K) := ok_alone F_law_alone T F_law_kinds m_law_kinds
  have G_law_couple_rows : FnOk P w K mg base CX0 3 f_law_couple_rows fd_law_couple_rows ["_law_first", "_law_second"] (spCouple K) := ok_couple F_law_couple_rows T IBadText IBadEquation INoCut IBadScript
  have G_law_what_rows : FnOk P w K mg base CX0 3 f_law_what_rows fd_law_what_rows ["_law_thing_here"] (spRows K) := ok_law_what_rows F_law_what_rows T IBadBook IBadSaying IBadExpression ITooWide IBadDeed
  have G_law_how_rows : FnOk P w K mg base CX0 3 f_law_how_rows fd_law_how_rows ["_law_thing_here"] (spRows K) := ok_law_how_rows F_law_how_rows T IEnded
  have G_law_number_rows : FnOk P w K mg base CX0 3 f_law_number_rows fd_law_number_rows ["_law_thing_here"] (spRows K) := ok_law_number_rows F_law_number_rows T INoBook INotOpen INotLooked
  have G_law_waiting_rows : FnOk P w K mg base CX0 3 f_law_waiting_rows fd_law_waiting_rows ["_law_thing_here"] (spRows K) := ok_law_waiting_rows F_law_waiting_rows T ITooFull
  have G_law_hand_rows : FnOk P w K mg base CX0 3 f_law_hand_rows fd_law_hand_rows ["_law_thing_here"] (spRows K) := ok_law_hand_rows F_law_hand_rows T INoHand IBusy IIdle
  have G_law_report_rows : FnOk P w K mg base CX0 3 f_law_report_rows fd_law_report_rows ["_law_thing_here"] (spRows K) := ok_law_report_rows F_law_report_rows T INoReport
  have G_law_at_rows : FnOk P w K mg base CX0 3 f_law_at_rows fd_law_at_rows ["_law_thing_here"] (spRows K) := ok_law_at_rows F_law_at_rows T IBadGrammar INoSign IBadFilling INoPaper
  have G_law_symbol_rows : FnOk P w K mg base CX0 3 f_law_symbol_rows fd_law_symbol_rows ["_law_thing_here"] (spRows K) := ok_law_symbol_rows F_law_symbol_rows T INoSymbol
  have G_law_length_rows : FnOk P w K mg base CX0 3 f_law_length_rows fd_law_length_rows ["_law_thing_here"] (spRows K) := ok_law_length_rows F_law_length_rows T ITooLong
  have G_law_name_rows : FnOk P w K mg base CX0 3 f_law_name_rows fd_law_name_rows ["_law_thing_here"] (spRows K) := ok_law_name_rows F_law_name_rows T INoName
  have G_law_used_rows : FnOk P w K mg base CX0 3 f_law_used_rows fd_law_used_rows ["_law_thing_here"] (spRows K) := ok_law_used_rows F_law_used_rows T IShortInputs
  have G_law_road_rows : FnOk P w K mg base CX0 3 f_law_road_rows fd_law_road_rows ["_law_thing_here"] (spRows K) := ok_law_road_rows F_law_road_rows T INoIf INoStatement
  have G_law_turns_rows : FnOk P w K mg base CX0 3 f_law_turns_rows fd_law_turns_rows ["_law_thing_here"] (spRows K) := ok_law_turns_rows F_law_turns_rows T INoWay
  refine ok0 F scL (fun vs H Q E h => by obtain ⟨a, ns, rfl, _⟩ := h; rfl) (fun cdv A outer s H vs Q E hr h => ?_)
  obtain ⟨sa, ns, rfl, hS, k⟩ := h
  have hr3 : Room 3 _ := hr.mono (by decide)
  have hr2 : Room 2 _ := hr.mono (by decide)
  have hr1 : Room 1 _ := hr.mono (by decide)
  refine ⟨_, (pss_cons (ps_set (i := 1) scL.nd rfl (Or.inl rfl) (pe_call G_law_source hr1 (by rfl) m_law_source F_law_source.kp b_law_source .nil pass0 (pa_cons (pv 0) pa_nil))) (pss_cons (ps_for PassesOwn.never rfl (pi_list (pe_call0 G_law_bare hr1 (by rfl) m_law_bare F_law_bare.kp b_law_bare .nil pass0)) (pg_tup (by rfl) (pgs_cons (pg_name (i := 2) scL.nd rfl (Or.inl rfl)) (pgs_cons (pg_name (i := 3) scL.nd rfl (Or.inl rfl)) pgs_nil))) (pss_one (ps_if (pt_not (pt_val (pe_call G_law_alone hr2 (by rfl) m_law_alone F_law_alone.kp b_law_alone .nil pass0 (pa_cons (pv 2) (pa_cons (pv 3) pa_nil))))) (pss_one (ps_ret pe_bl)) pss_nil))) (pss_cons (ps_for PassesOwn.never rfl (pi_range1 rfl T.rng (pa_cons pe_int pa_nil)) (pg_name (i := 4) scL.nd rfl (Or.inl rfl)) (pss_cons (ps_set (i := 5) scL.nd rfl (Or.inl rfl) (pe_call G_law_thing hr3 (by rfl) m_law_thing F_law_thing.kp b_law_thing .nil pass0 (pa_cons (pv 1) pa_nil))) (pss_cons (ps_set (i := 6) scL.nd rfl (Or.inl rfl) (pe_op op_cat (pe_op op_cat (pe_op op_cat (pe_call G_law_what_rows hr3 (by rfl) m_law_what_rows F_law_what_rows.kp b_law_what_rows .nil pass0 (pa_cons (pv 5) pa_nil)) (pe_call G_law_how_rows hr3 (by rfl) m_law_how_rows F_law_how_rows.kp b_law_how_rows .nil pass0 (pa_cons (pv 5) pa_nil))) (pe_call G_law_number_rows hr3 (by rfl) m_law_number_rows F_law_number_rows.kp b_law_number_rows .nil pass0 (pa_cons (pv 5) pa_nil))) (pe_call G_law_waiting_rows hr3 (by rfl) m_law_waiting_rows F_law_waiting_rows.kp b_law_waiting_rows .nil pass0 (pa_cons (pv 5) pa_nil)))) (pss_cons (ps_set (i := 6) scL.nd rfl (Or.inl rfl) (pe_op op_cat (pe_op op_cat (pe_op op_cat (pe_op op_cat (pv 6) (pe_call G_law_hand_rows hr3 (by rfl) m_law_hand_rows F_law_hand_rows.kp b_law_hand_rows .nil pass0 (pa_cons (pv 5) pa_nil))) (pe_call G_law_report_rows hr3 (by rfl) m_law_report_rows F_law_report_rows.kp b_law_report_rows .nil pass0 (pa_cons (pv 5) pa_nil))) (pe_call G_law_at_rows hr3 (by rfl) m_law_at_rows F_law_at_rows.kp b_law_at_rows .nil pass0 (pa_cons (pv 5) pa_nil))) (pe_call G_law_symbol_rows hr3 (by rfl) m_law_symbol_rows F_law_symbol_rows.kp b_law_symbol_rows .nil pass0 (pa_cons (pv 5) pa_nil)))) (pss_cons (ps_set (i := 6) scL.nd rfl (Or.inl rfl) (pe_op op_cat (pe_op op_cat (pe_op op_cat (pe_op op_cat (pv 6) (pe_call G_law_length_rows hr3 (by rfl) m_law_length_rows F_law_length_rows.kp b_law_length_rows .nil pass0 (pa_cons (pv 5) pa_nil))) (pe_call G_law_name_rows hr3 (by rfl) m_law_name_rows F_law_name_rows.kp b_law_name_rows .nil pass0 (pa_cons (pv 5) pa_nil))) (pe_call G_law_used_rows hr3 (by rfl) m_law_used_rows F_law_used_rows.kp b_law_used_rows .nil pass0 (pa_cons (pv 5) pa_nil))) (pe_call G_law_road_rows hr3 (by rfl) m_law_road_rows F_law_road_rows.kp b_law_road_rows .nil pass0 (pa_cons (pv 5) pa_nil)))) (pss_cons (ps_set (i := 6) scL.nd rfl (Or.inl rfl) (pe_op op_cat (pv 6) (pe_call G_law_turns_rows hr3 (by rfl) m_law_turns_rows F_law_turns_rows.kp b_law_turns_rows .nil pass0 (pa_cons (pv 5) pa_nil)))) (pss_cons (ps_for PassesOwn.never rfl (pi_list (pv 6)) (pg_tup (by rfl) (pgs_cons (pg_name (i := 2) scL.nd rfl (Or.inl rfl)) (pgs_cons (pg_name (i := 3) scL.nd rfl (Or.inl rfl)) (pgs_cons (pg_name (i := 7) scL.nd rfl (Or.inl rfl)) pgs_nil)))) (pss_one (ps_if (PW.pt (pw_or (pt_cmpR (op_neD hr.units) (pv 7) (pv 5) (nomark _)) (pw_or1 (pt_not (pt_val (pe_call G_law_alone hr2 (by rfl) m_law_alone F_law_alone.kp b_law_alone .nil pass0 (pa_cons (pv 2) (pa_cons (pv 3) pa_nil)))))))) (pss_one (ps_ret pe_bl)) pss_nil))) (pss_cons (ps_set (i := 8) scL.nd rfl (Or.inl rfl) (pe_call G_law_thing hr3 (by rfl) m_law_thing F_law_thing.kp b_law_thing .nil pass0 (pa_cons (pv 1) pa_nil))) (pss_cons (ps_for PassesOwn.never rfl (pi_list (pe_call G_law_couple_rows hr3 (by rfl) m_law_couple_rows F_law_couple_rows.kp b_law_couple_rows .nil pass0 (pa_cons (pv 5) (pa_cons (pv 8) pa_nil)))) (pg_tup (by rfl) (pgs_cons (pg_name (i := 2) scL.nd rfl (Or.inl rfl)) (pgs_cons (pg_name (i := 3) scL.nd rfl (Or.inl rfl)) (pgs_cons (pg_name (i := 7) scL.nd rfl (Or.inl rfl)) pgs_nil)))) (pss_one (ps_if (PW.pt (pw_or (pt_cmpR (op_neD hr.units) (pv 7) (pe_tup (pa_cons (pv 5) (pa_cons (pv 8) pa_nil))) (nomark _)) (pw_or1 (pt_not (pt_val (pe_call G_law_alone hr2 (by rfl) m_law_alone F_law_alone.kp b_law_alone .nil pass0 (pa_cons (pv 2) (pa_cons (pv 3) pa_nil)))))))) (pss_one (ps_ret pe_bl)) pss_nil))) pss_nil))))))))) (pss_cons (ps_ret pe_bl) pss_nil)))), ?_⟩
  refine ⟨_, rfl, sa, ns, rfl, hS, fun a L H1 s1 ha0 S1 => ?_⟩
  -- the errors without fields
  refine ⟨rfl, fun pb xb H2 s2 nb hb lb hbx => ?_⟩
  have S2 : Src H2 a L ns := S1.kept fun b o h => s2 b o h
  refine ⟨pb, rfl, ⟨xb, SqL.of hb⟩, for_list (K := K) (a := pb) (xs := xb) (fun i σ' H' => ∃ o2 o3 : Option V, σ' = [some (.ref sa), some (.ref a), o2, o3, none, none, none, none, none] ∧ Same H2 H') ⟨none, none, rfl, Same.refl _⟩ (fun i σ' H' _ ⟨_, _, _, e⟩ => SqL.of (e _ _ hb)) ?_ ?_⟩
  · rintro i x σ' H' hi ⟨o2, o3, rfl, e⟩
    obtain ⟨tt, ee, j, rfl, h2, h3⟩ := bare_mono _ _ _ e (hbx x (List.mem_of_getElem? hi))
    refine ⟨tt, _, rfl, SqT.of h2, rfl, _, _, rfl, _, _, rfl, rfl, ?_⟩
    refine ⟨_, rfl, _, rfl, ee, j, rfl, h3, fun H3 s3 => ⟨_, rfl, ?_⟩⟩
    exact ⟨_, _, rfl, e.trans s3⟩
  rintro σ' H3 ⟨o2, o3, rfl, e3⟩
  have S3 : Src H3 a L ns := S2.kept fun b o h => e3 b o h
  refine ⟨3, rfl, by decide, by decide, for_range (n := 3) (fun i σ' H' => ∃ o2 o3 o4 o5 o6 o7 o8 : Option V, σ' = [some (.ref sa), some (.ref a), o2, o3, o4, o5, o6, o7, o8] ∧ Src H' a L ns) ⟨o2, o3, none, none, none, none, none, rfl, S3⟩ ?_ ?_⟩
  rotate_left 1
  · rintro σ' H' ⟨o2, o3, o4, o5, o6, o7, o8, rfl, S⟩
    exact k _
  rintro i σ' H' hi ⟨o2, o3, o4, o5, o6, o7, o8, rfl, S⟩
  refine ⟨_, rfl, a, L, ns, rfl, S, fun v d H4 k4 th4 => ?_⟩
  have S4 := k4.src
  have h5 : ([some (V.ref sa), some (V.ref a), o2, o3, some (V.int ((0 : Int) + (i : Int))), some v, o6, o7, o8] : L2.St)[5]? = some (some v) := rfl
  refine rd_set (n := 40) (el_cat row_mono (el_cat row_mono (el_cat row_mono (el_rows h5) (el_rows h5) (by decide)) (el_rows h5) (by decide)) (el_rows h5) (by decide)) fun q0 r0 J0 t0 p0 n0 x0 => ?_
  clear h5
  have h5 : ([some (V.ref sa), some (V.ref a), o2, o3, some (V.int ((0 : Int) + (i : Int))), some v, some (.ref q0), o7, o8] : L2.St)[5]? = some (some v) := rfl
  refine rd_set (n := 80) (el_cat row_mono (el_cat row_mono (el_cat row_mono (el_cat row_mono (el_var row_mono rfl p0 n0 x0) (el_rows h5) (by decide)) (el_rows h5) (by decide)) (el_rows h5) (by decide)) (el_rows h5) (by decide)) fun q1 r1 J1 t1 p1 n1 x1 => ?_
  clear h5
  have h5 : ([some (V.ref sa), some (V.ref a), o2, o3, some (V.int ((0 : Int) + (i : Int))), some v, some (.ref q1), o7, o8] : L2.St)[5]? = some (some v) := rfl
  refine rd_set (n := 120) (el_cat row_mono (el_cat row_mono (el_cat row_mono (el_cat row_mono (el_var row_mono rfl p1 n1 x1) (el_rows h5) (by decide)) (el_rows h5) (by decide)) (el_rows h5) (by decide)) (el_rows h5) (by decide)) fun q2 r2 J2 t2 p2 n2 x2 => ?_
  clear h5
  have h5 : ([some (V.ref sa), some (V.ref a), o2, o3, some (V.int ((0 : Int) + (i : Int))), some v, some (.ref q2), o7, o8] : L2.St)[5]? = some (some v) := rfl
  refine rd_set (n := 130) (el_cat row_mono (el_var row_mono rfl p2 n2 x2) (el_rows h5) (by decide)) fun q3 r3 J3 t3 p3 n3 x3 => ?_
  clear h5
  have sR : Same H4 J3 := ((t0.trans t1).trans t2).trans t3
  have SR : Src J3 a L ns := S4.kept fun b o h => sR b o h
  have thR : Thing J3 v d := th_of (fun t xs h => sR _ _ h) th4
  refine ⟨_, rfl, q3, rfl, ⟨r3, SqL.of p3⟩, for_list (K := K) (a := q3) (xs := r3) (fun j σ' H' => ∃ o2 o3 o7 : Option V, σ' = [some (.ref sa), some (.ref a), o2, o3, some (.int ((0 : Int) + (i : Int))), some v, some (.ref q3), o7, o8] ∧ Same J3 H') ⟨_, _, _, rfl, Same.refl _⟩ (fun j σ' H' _ ⟨_, _, _, _, e⟩ => SqL.of (e _ _ p3)) ?_ ?_⟩
  · rintro j x σ' H' hj ⟨o2, o3, o7, rfl, e⟩
    obtain ⟨tt, ee, n, rfl, h2, h3⟩ := err_of_row (row_mono _ _ _ e (x3 x (List.mem_of_getElem? hj)))
    have th' : Thing H' v d := th_of (fun t xs h => e _ _ h) thR
    refine ⟨tt, _, rfl, SqT.of h2, rfl, _, _, rfl, _, _, rfl, _, _, rfl, rfl, ?_⟩
    have sh := shaped_of (th_lay th') (Nat.le_trans (th_depth th') (by decide))
    refine ⟨_, rfl, _, rfl, d, d, th_dp th', th_dp th', sh, sh, ?_⟩
    have er : PyData.eqv d d = true := PySem.SeqAt.eqv_refl d (th_lay th')
    rw [er]
    refine ⟨_, rfl, ?_⟩
    refine ⟨_, rfl, _, rfl, ee, n, rfl, h3, fun H5 s5 => ⟨_, rfl, ?_⟩⟩
    exact ⟨_, _, _, rfl, e.trans s5⟩
  rintro σ' J ⟨o2', o3', o7', rfl, eJ⟩
  have SJ : Src J a L ns := SR.kept fun b o h => eJ b o h
  have thJ : Thing J v d := th_of (fun t xs h => eJ _ _ h) thR
  refine ⟨_, rfl, a, L, ns, rfl, SJ, fun u d2 H6 k6 th6 => ?_⟩
  have thv : Thing H6 v d := th_of (fun t xs h => k6.tup SJ h) thJ
  refine ⟨_, rfl, _, rfl, v, u, rfl, fun pc xc H7 s7 nc hc lc hcx => ?_⟩
  have S7 : Src H7 a L ns := k6.src.kept fun b o h => s7 b o h
  have th7 : Thing H7 v d := th_of (fun t xs h => s7 _ _ h) thv
  have th8 : Thing H7 u d2 := th_of (fun t xs h => s7 _ _ h) th6
  refine ⟨pc, rfl, ⟨xc, SqL.of hc⟩, for_list (K := K) (a := pc) (xs := xc) (fun j σ' H' => ∃ o2 o3 o7 : Option V, σ' = [some (.ref sa), some (.ref a), o2, o3, some (.int ((0 : Int) + (i : Int))), some v, some (.ref q3), o7, some u] ∧ Same H7 H') ⟨_, _, _, rfl, Same.refl _⟩ (fun j σ' H' _ ⟨_, _, _, _, e⟩ => SqL.of (e _ _ hc)) ?_ ?_⟩
  · rintro j x σ' H' hj ⟨o2, o3, o7, rfl, e⟩
    obtain ⟨kt, hrow, hkt⟩ := couple_mono _ _ _ e (hcx x (List.mem_of_getElem? hj))
    obtain ⟨tt, ee, n, rfl, h2, h3⟩ := err_of_row hrow
    refine ⟨tt, _, rfl, SqT.of h2, rfl, _, _, rfl, _, _, rfl, _, _, rfl, rfl, ?_⟩
    refine ⟨_, rfl, _, rfl, _, rfl, (by show 2 ≤ sizeLine; decide), fun t nt => ?_⟩
    have e' := e.trans (same_new' (o := .tup [v, u]) nt)
    have a7 := th_of (fun t xs h => e' _ _ h) th7
    have a8 := th_of (fun t xs h => e' _ _ h) th8
    have l7 := th_lay a7
    have l8 := th_lay a8
    have g7 := th_depth a7
    have g8 := th_depth a8
    have ll : PyData.canLay0 (.tuple [d, d2]) = true := by
      show (PyData.canLay0 d && (PyData.canLay0 d2 && true)) = true
      rw [l7, l8]
      rfl
    have sh : SeqAt.shaped (.tuple [d, d2]) = true := shaped_of ll (by simp only [PyData.depth, PyData.depthAll]; omega)
    refine ⟨.tuple [d, d2], .tuple [d, d2], .tup (SqT.of (same_new' nt _ _ hkt)) (.cons (th_dp a7) (.cons (th_dp a8) .nil)), .tup (SqT.of upd_same) (.cons (th_dp a7) (.cons (th_dp a8) .nil)), sh, sh, ?_⟩
    have er : PyData.eqv (.tuple [d, d2]) (.tuple [d, d2]) = true := PySem.SeqAt.eqv_refl _ ll
    rw [er]
    refine ⟨_, rfl, ?_⟩
    refine ⟨_, rfl, _, rfl, ee, n, rfl, err_mono (same_new' nt) h3, fun H9 s9 => ⟨_, rfl, ?_⟩⟩
    exact ⟨_, _, _, rfl, e'.trans s9⟩
  rintro σ' H8 ⟨o2'', o3'', o7'', rfl, e8⟩
  exact ⟨_, _, _, _, _, _, _, rfl, S7.kept fun b o h => e8 b o h⟩
end
end My
set_option maxHeartbeats 0
namespace My
open PySem PySem.Spec PyProof.Rows L2 He Hm
def fn_law_source : Fn := ⟨"_law_source", none, "_law_source", "_law_source", defArgs (topS 50), defBody (topS 50), defScope (topS 50)⟩
def fn_law_take : Fn := ⟨"_law_take", none, "_law_take", "_law_take", defArgs (topS 51), defBody (topS 51), defScope (topS 51)⟩
def fn_law_pick : Fn := ⟨"_law_pick", none, "_law_pick", "_law_pick", defArgs (topS 52), defBody (topS 52), defScope (topS 52)⟩
def fn_law_text : Fn := ⟨"_law_text", none, "_law_text", "_law_text", defArgs (topS 53), defBody (topS 53), defScope (topS 53)⟩
def fn_law_thing : Fn := ⟨"_law_thing", none, "_law_thing", "_law_thing", defArgs (topS 54), defBody (topS 54), defScope (topS 54)⟩
def fn_law_bare : Fn := ⟨"_law_bare", none, "_law_bare", "_law_bare", defArgs (topS 55), defBody (topS 55), defScope (topS 55)⟩
def fn_law_what_rows : Fn := ⟨"_law_what_rows", none, "_law_what_rows", "_law_what_rows", defArgs (topS 56), defBody (topS 56), defScope (topS 56)⟩
def fn_law_how_rows : Fn := ⟨"_law_how_rows", none, "_law_how_rows", "_law_how_rows", defArgs (topS 57), defBody (topS 57), defScope (topS 57)⟩
def fn_law_number_rows : Fn := ⟨"_law_number_rows", none, "_law_number_rows", "_law_number_rows", defArgs (topS 58), defBody (topS 58), defScope (topS 58)⟩
def fn_law_waiting_rows : Fn := ⟨"_law_waiting_rows", none, "_law_waiting_rows", "_law_waiting_rows", defArgs (topS 59), defBody (topS 59), defScope (topS 59)⟩
def fn_law_hand_rows : Fn := ⟨"_law_hand_rows", none, "_law_hand_rows", "_law_hand_rows", defArgs (topS 60), defBody (topS 60), defScope (topS 60)⟩
def fn_law_report_rows : Fn := ⟨"_law_report_rows", none, "_law_report_rows", "_law_report_rows", defArgs (topS 61), defBody (topS 61), defScope (topS 61)⟩
def fn_law_at_rows : Fn := ⟨"_law_at_rows", none, "_law_at_rows", "_law_at_rows", defArgs (topS 62), defBody (topS 62), defScope (topS 62)⟩
def fn_law_symbol_rows : Fn := ⟨"_law_symbol_rows", none, "_law_symbol_rows", "_law_symbol_rows", defArgs (topS 63), defBody (topS 63), defScope (topS 63)⟩
def fn_law_length_rows : Fn := ⟨"_law_length_rows", none, "_law_length_rows", "_law_length_rows", defArgs (topS 64), defBody (topS 64), defScope (topS 64)⟩
def fn_law_name_rows : Fn := ⟨"_law_name_rows", none, "_law_name_rows", "_law_name_rows", defArgs (topS 65), defBody (topS 65), defScope (topS 65)⟩
def fn_law_used_rows : Fn := ⟨"_law_used_rows", none, "_law_used_rows", "_law_used_rows", defArgs (topS 66), defBody (topS 66), defScope (topS 66)⟩
def fn_law_road_rows : Fn := ⟨"_law_road_rows", none, "_law_road_rows", "_law_road_rows", defArgs (topS 67), defBody (topS 67), defScope (topS 67)⟩
def fn_law_turns_rows : Fn := ⟨"_law_turns_rows", none, "_law_turns_rows", "_law_turns_rows", defArgs (topS 68), defBody (topS 68), defScope (topS 68)⟩
def fn_law_couple_rows : Fn := ⟨"_law_couple_rows", none, "_law_couple_rows", "_law_couple_rows", defArgs (topS 69), defBody (topS 69), defScope (topS 69)⟩
def fn_law_kinds : Fn := ⟨"_law_kinds", none, "_law_kinds", "_law_kinds", defArgs (topS 70), defBody (topS 70), defScope (topS 70)⟩
def fn_law_alone : Fn := ⟨"_law_alone", none, "_law_alone", "_law_alone", defArgs (topS 71), defBody (topS 71), defScope (topS 71)⟩
def fnlaw : Fn := ⟨"law", none, "law", "law", defArgs (topS 72), defBody (topS 72), defScope (topS 72)⟩
def fnIBadBook : Fn := ⟨"BadBook", some "__init__", "__init__", "BadBook.__init__", defArgs (inClass (topS 2) 0), defBody (inClass (topS 2) 0), defScope (inClass (topS 2) 0)⟩
def fnIBadSaying : Fn := ⟨"BadSaying", some "__init__", "__init__", "BadSaying.__init__", defArgs (inClass (topS 4) 0), defBody (inClass (topS 4) 0), defScope (inClass (topS 4) 0)⟩
def fnIBadText : Fn := ⟨"BadText", some "__init__", "__init__", "BadText.__init__", defArgs (inClass (topS 5) 0), defBody (inClass (topS 5) 0), defScope (inClass (topS 5) 0)⟩
def fnIBadExpression : Fn := ⟨"BadExpression", some "__init__", "__init__", "BadExpression.__init__", defArgs (inClass (topS 6) 0), defBody (inClass (topS 6) 0), defScope (inClass (topS 6) 0)⟩
def fnIBadEquation : Fn := ⟨"BadEquation", some "__init__", "__init__", "BadEquation.__init__", defArgs (inClass (topS 9) 0), defBody (inClass (topS 9) 0), defScope (inClass (topS 9) 0)⟩
def fnIEnded : Fn := ⟨"Ended", some "__init__", "__init__", "Ended.__init__", defArgs (inClass (topS 13) 0), defBody (inClass (topS 13) 0), defScope (inClass (topS 13) 0)⟩
def fnINoBook : Fn := ⟨"NoBook", some "__init__", "__init__", "NoBook.__init__", defArgs (inClass (topS 14) 0), defBody (inClass (topS 14) 0), defScope (inClass (topS 14) 0)⟩
def fnINotOpen : Fn := ⟨"NotOpen", some "__init__", "__init__", "NotOpen.__init__", defArgs (inClass (topS 15) 0), defBody (inClass (topS 15) 0), defScope (inClass (topS 15) 0)⟩
def fnINotLooked : Fn := ⟨"NotLooked", some "__init__", "__init__", "NotLooked.__init__", defArgs (inClass (topS 16) 0), defBody (inClass (topS 16) 0), defScope (inClass (topS 16) 0)⟩
def fnITooFull : Fn := ⟨"TooFull", some "__init__", "__init__", "TooFull.__init__", defArgs (inClass (topS 17) 0), defBody (inClass (topS 17) 0), defScope (inClass (topS 17) 0)⟩
def fnINoHand : Fn := ⟨"NoHand", some "__init__", "__init__", "NoHand.__init__", defArgs (inClass (topS 19) 0), defBody (inClass (topS 19) 0), defScope (inClass (topS 19) 0)⟩
def fnIBusy : Fn := ⟨"Busy", some "__init__", "__init__", "Busy.__init__", defArgs (inClass (topS 20) 0), defBody (inClass (topS 20) 0), defScope (inClass (topS 20) 0)⟩
def fnIIdle : Fn := ⟨"Idle", some "__init__", "__init__", "Idle.__init__", defArgs (inClass (topS 21) 0), defBody (inClass (topS 21) 0), defScope (inClass (topS 21) 0)⟩
def fnINoReport : Fn := ⟨"NoReport", some "__init__", "__init__", "NoReport.__init__", defArgs (inClass (topS 22) 0), defBody (inClass (topS 22) 0), defScope (inClass (topS 22) 0)⟩
def fnIBadGrammar : Fn := ⟨"BadGrammar", some "__init__", "__init__", "BadGrammar.__init__", defArgs (inClass (topS 23) 0), defBody (inClass (topS 23) 0), defScope (inClass (topS 23) 0)⟩
def fnINoSymbol : Fn := ⟨"NoSymbol", some "__init__", "__init__", "NoSymbol.__init__", defArgs (inClass (topS 24) 0), defBody (inClass (topS 24) 0), defScope (inClass (topS 24) 0)⟩
def fnINoSign : Fn := ⟨"NoSign", some "__init__", "__init__", "NoSign.__init__", defArgs (inClass (topS 25) 0), defBody (inClass (topS 25) 0), defScope (inClass (topS 25) 0)⟩
def fnITooLong : Fn := ⟨"TooLong", some "__init__", "__init__", "TooLong.__init__", defArgs (inClass (topS 26) 0), defBody (inClass (topS 26) 0), defScope (inClass (topS 26) 0)⟩
def fnINoCut : Fn := ⟨"NoCut", some "__init__", "__init__", "NoCut.__init__", defArgs (inClass (topS 28) 0), defBody (inClass (topS 28) 0), defScope (inClass (topS 28) 0)⟩
def fnIBadFilling : Fn := ⟨"BadFilling", some "__init__", "__init__", "BadFilling.__init__", defArgs (inClass (topS 29) 0), defBody (inClass (topS 29) 0), defScope (inClass (topS 29) 0)⟩
def fnINoName : Fn := ⟨"NoName", some "__init__", "__init__", "NoName.__init__", defArgs (inClass (topS 30) 0), defBody (inClass (topS 30) 0), defScope (inClass (topS 30) 0)⟩
def fnITooWide : Fn := ⟨"TooWide", some "__init__", "__init__", "TooWide.__init__", defArgs (inClass (topS 34) 0), defBody (inClass (topS 34) 0), defScope (inClass (topS 34) 0)⟩
def fnIBadScript : Fn := ⟨"BadScript", some "__init__", "__init__", "BadScript.__init__", defArgs (inClass (topS 35) 0), defBody (inClass (topS 35) 0), defScope (inClass (topS 35) 0)⟩
def fnIShortInputs : Fn := ⟨"ShortInputs", some "__init__", "__init__", "ShortInputs.__init__", defArgs (inClass (topS 36) 0), defBody (inClass (topS 36) 0), defScope (inClass (topS 36) 0)⟩
def fnINoIf : Fn := ⟨"NoIf", some "__init__", "__init__", "NoIf.__init__", defArgs (inClass (topS 37) 0), defBody (inClass (topS 37) 0), defScope (inClass (topS 37) 0)⟩
def fnINoWay : Fn := ⟨"NoWay", some "__init__", "__init__", "NoWay.__init__", defArgs (inClass (topS 38) 0), defBody (inClass (topS 38) 0), defScope (inClass (topS 38) 0)⟩
def fnIBadDeed : Fn := ⟨"BadDeed", some "__init__", "__init__", "BadDeed.__init__", defArgs (inClass (topS 40) 0), defBody (inClass (topS 40) 0), defScope (inClass (topS 40) 0)⟩
def fnINoPaper : Fn := ⟨"NoPaper", some "__init__", "__init__", "NoPaper.__init__", defArgs (inClass (topS 46) 0), defBody (inClass (topS 46) 0), defScope (inClass (topS 46) 0)⟩
def fnINoStatement : Fn := ⟨"NoStatement", some "__init__", "__init__", "NoStatement.__init__", defArgs (inClass (topS 48) 0), defBody (inClass (topS 48) 0), defScope (inClass (topS 48) 0)⟩
def fns : List Fn := [fn_law_source, fn_law_take, fn_law_pick, fn_law_text, fn_law_thing, fn_law_bare, fn_law_what_rows, fn_law_how_rows, fn_law_number_rows, fn_law_waiting_rows, fn_law_hand_rows, fn_law_report_rows, fn_law_at_rows, fn_law_symbol_rows, fn_law_length_rows, fn_law_name_rows, fn_law_used_rows, fn_law_road_rows, fn_law_turns_rows, fn_law_couple_rows, fn_law_kinds, fn_law_alone, fnlaw, fnIBadBook, fnIBadSaying, fnIBadText, fnIBadExpression, fnIBadEquation, fnIEnded, fnINoBook, fnINotOpen, fnINotLooked, fnITooFull, fnINoHand, fnIBusy, fnIIdle, fnINoReport, fnIBadGrammar, fnINoSymbol, fnINoSign, fnITooLong, fnINoCut, fnIBadFilling, fnINoName, fnITooWide, fnIBadScript, fnIShortInputs, fnINoIf, fnINoWay, fnIBadDeed, fnINoPaper, fnINoStatement]
def pressG (γ : Str → Addr) : List Value := [.ref (γ "PressError"), .type "ValueError", .type "Exception", .type "BaseException", .type "object"]
def ckP (_ : Str → Addr) (K : PySem.W.Frag) (a : Addr) : Bool := comB K && (oexB K a [.type "ValueError", .type "Exception", .type "BaseException", .type "object"] && excB K a [])
def ckE (fs : List Str) (γ : Str → Addr) (K : PySem.W.Frag) (a : Addr) : Bool := comB K && (oexB K a (pressG γ) && (excB K a fs && (match fs with
  | [] => PySem.W.excIn K a veBase "ValueError.__new__"
  | _ :: _ => eqO (PySem.W.findIn K (.ref a) "__init__") (some (some (.ref (ma K a "__init__")))) && decide (PySem.W.typeIn K (.ref (ma K a "__init__")) = some (.type "function")))))
def itP : Itm := ⟨"PressError", 3, ckP⟩
def mkIt (e : Str × List Str) : Itm := ⟨e.1, 3, ckE e.2⟩
def mkG (x : Str) : Itm := ⟨x, 0, fun _ _ _ => true⟩
def glos : List Str := ["_law_source", "_law_take", "_law_pick", "_law_text", "_law_thing", "_law_bare", "_law_what_rows", "_law_how_rows", "_law_number_rows", "_law_waiting_rows", "_law_hand_rows", "_law_report_rows", "_law_at_rows", "_law_symbol_rows", "_law_length_rows", "_law_name_rows", "_law_used_rows", "_law_road_rows", "_law_turns_rows", "_law_couple_rows", "_law_kinds", "_law_alone", "law"]
def its : List Itm := itP :: (errs.map mkIt ++ glos.map mkG)
def frees : List Str := ["len", "int", "list", "isinstance", "range", "ValueError"]
def ex (γ : Str → Addr) : Bool := decide ((γ "PressError" :: errs.map fun e => γ e.1).Nodup)
abbrev R : PySem.W.OpenRow := PySem.W.OpenLaw.row PySem.Challenge.rw_pressedwords_k00_errors_side_by_side
abbrev hk : PySem.W.Hook := hookS its fns frees ex
def ob (s : PySem.W.SharedT) : AlD := obsS its fns frees ex (HandSHeadRun.getT s)
theorem ob_eq (s : PySem.W.SharedT) : ob s = hk.obs s.abs := obsS_eq (HandSHeadRun.getT_eq s)
def nm0 : List PySem.Str := ["PressError", "BadBook", "BadLetters", "BadSaying", "BadText", "BadExpression", "TooMany", "BadStep", "BadEquation", "BadOrder", "BadRoom", "NotFilled", "Ended", "NoBook", "NotOpen", "NotLooked", "TooFull", "BadMany", "NoHand", "Busy", "Idle", "NoReport", "BadGrammar", "NoSymbol", "NoSign", "TooLong", "EmptyWord", "NoCut", "BadFilling", "NoName"]
def nm1 : List PySem.Str := ["NotShut", "OtherDeeds", "BadPaperText", "TooWide", "BadScript", "ShortInputs", "NoIf", "NoWay", "UnlikeScripts", "BadDeed", "FullDesk", "NoBack", "IsCut", "NotCut", "NoEngine", "NoPaper", "NoScript", "NoStatement", "_law_source", "_law_take", "_law_pick", "_law_text", "_law_thing", "_law_bare", "_law_what_rows", "_law_how_rows", "_law_number_rows", "_law_waiting_rows", "_law_hand_rows", "_law_report_rows"]
def nm2 : List PySem.Str := ["_law_at_rows", "_law_symbol_rows", "_law_length_rows", "_law_name_rows", "_law_used_rows", "_law_road_rows", "_law_turns_rows", "_law_couple_rows", "_law_kinds", "_law_alone"]
def loose : List PySem.Str := nm0 ++ (nm1 ++ (nm2))
theorem run (w : World) : HandSHeadRun.RunEq R (PySem.W.view R.prog [72]) hk ob 12500 loose w := by
  intro os
  kernel_rfl
section
variable {P : Program} {w : World} {K : PySem.W.Frag} {h : Heap} {mg : Str → Option Value}
theorem it_err {i : Nat} {er : Str × List Str} (hi : errs[i]? = some er) : its[i + 1]? = some (mkIt er) := by
  have e : its[i + 1]? = (errs.map mkIt ++ glos.map mkG)[i]? := rfl
  have l : i < (errs.map mkIt).length := by
    rw [List.length_map]
    exact (List.getElem?_eq_some_iff.mp hi).1
  rw [e, List.getElem?_append_left l, List.getElem?_map, hi]
  rfl
theorem it_glo {i : Nat} {x : Str} (hi : glos[i]? = some x) : its[errs.length + i + 1]? = some (mkG x) := by
  have e : its[errs.length + i + 1]? = (errs.map mkIt ++ glos.map mkG)[errs.length + i]? := rfl
  have l : (errs.map mkIt).length ≤ errs.length + i := by
    rw [List.length_map]
    omega
  rw [e, List.getElem?_append_right l, List.length_map, Nat.add_sub_cancel_left, List.getElem?_map, hi]
  rfl
theorem glo_mg (X : K.In h) (G : h.Ns mainGlobals mg) (c : SaysS its fns frees ex K) {i : Nat} {x : Str} (hi : glos[i]? = some x) : mg x = some (.ref (ga K x)) := PySem.W.mg_of X G (c.glo _ _ (it_glo hi))
theorem tx_of (X : K.In h) (G : h.Ns mainGlobals mg) (c : SaysS its fns frees ex K) : TX K mg := by
  obtain ⟨γ, hγ, hex⟩ := c.it
  have hp : γ "PressError" = ga K "PressError" := (hγ 0 itP rfl).1
  have hpr : pressG γ = press K := by
    unfold pressG press
    rw [hp]
  have fr : ∀ x ∈ frees, mg x = none := fun x hx => PySem.W.mg_none_of X G (c.free x hx)
  refine ⟨fun i er hi => PySem.W.mg_of X G (c.glo _ _ (it_err hi)), fun i er hi => ?_, PySem.W.mg_of X G (c.glo 0 itP rfl), ?_, ?_, ⟨fr _ (by decide +kernel), fr _ (by decide +kernel), fr _ (by decide +kernel)⟩, fr _ (by decide +kernel), fr _ (by decide +kernel), fr _ (by decide +kernel)⟩
  · obtain ⟨e1, K1, s1, q⟩ := hγ _ _ (it_err hi)
    obtain ⟨q1, q⟩ := ba (show (comB K1 && (oexB K1 (ga K er.1) (pressG γ) && (excB K1 (ga K er.1) er.2 && _))) = true from q)
    obtain ⟨q2, q⟩ := ba q
    obtain ⟨q3, q⟩ := ba q
    rw [hpr] at q2
    exact s1.xc (xc_ok q1 q2 q3 rfl)
  · obtain ⟨e1, K1, s1, q⟩ := hγ 0 itP rfl
    obtain ⟨q1, q⟩ := ba (show (comB K1 && (oexB K1 (ga K "PressError") [.type "ValueError", .type "Exception", .type "BaseException", .type "object"] && excB K1 (ga K "PressError") [])) = true from q)
    obtain ⟨q2, q3⟩ := ba q
    exact s1.xc (xc_ok q1 q2 q3 rfl)
  · have e : (errs.map fun e => γ e.1) = errs.map fun e => ga K e.1 := List.map_congr_left fun er he => by
      obtain ⟨i, hi⟩ := List.mem_iff_getElem?.mp he
      exact (hγ _ _ (it_err hi)).1
    have q := of_decide_eq_true (show decide ((γ "PressError" :: errs.map fun e => γ e.1).Nodup) = true from hex)
    rw [hp, e] at q
    exact q
theorem bare_of (c : SaysS its fns frees ex K) (i : Nat) (er : Str × List Str) (hi : errs[i]? = some er) (hn : er.2 = []) : PySem.W.excIn K (ga K er.1) veBase "ValueError.__new__" = true := by
  obtain ⟨γ, hγ, _⟩ := c.it
  obtain ⟨_, K1, s1, q⟩ := hγ _ _ (it_err hi)
  obtain ⟨x, fs⟩ := er
  dsimp only at hn
  subst hn
  exact s1.exc (ba (ba (ba (show (comB K1 && (oexB K1 (ga K x) (pressG γ) && (excB K1 (ga K x) [] && PySem.W.excIn K1 (ga K x) veBase "ValueError.__new__"))) = true from q)).2).2).2
theorem init_of (c : SaysS its fns frees ex K) {i : Nat} {x : Str} {f : Str} {fs : List Str} (hi : errs[i]? = some (x, f :: fs)) : PySem.W.findIn K (.ref (ga K x)) "__init__" = some (some (.ref (ma K (ga K x) "__init__"))) ∧ PySem.W.typeIn K (.ref (ma K (ga K x) "__init__")) = some (.type "function") := by
  obtain ⟨γ, hγ, _⟩ := c.it
  obtain ⟨_, K1, s1, q⟩ := hγ _ _ (it_err hi)
  obtain ⟨q1, q2⟩ := ba (ba (ba (ba (show (comB K1 && (oexB K1 (ga K x) (pressG γ) && (excB K1 (ga K x) (f :: fs) && (eqO (PySem.W.findIn K1 (.ref (ga K x)) "__init__") (some (some (.ref (ma K1 (ga K x) "__init__")))) && decide (PySem.W.typeIn K1 (.ref (ma K1 (ga K x) "__init__")) = some (.type "function")))))) = true from q)).2).2).2
  have z := s1.find (eqO_ok q1)
  have e : ma K (ga K x) "__init__" = ma K1 (ga K x) "__init__" := by
    unfold ma
    rw [z, eqO_ok q1]
  rw [e]
  exact ⟨z, s1.typ (of_decide_eq_true q2)⟩
theorem all_of (X : K.In h) (G : h.Ns mainGlobals mg) (c : SaysS its fns frees ex K) : All K mg where
  T := tx_of X G c
  B := bare_of c
  D_law_source := by
    obtain ⟨a, fd, F, ha, _⟩ := c.fn 0 fn_law_source rfl ⟨_, _, it_glo (i := 0) (x := "_law_source") rfl, rfl⟩
    have e := ha rfl
    exact ⟨a, fd, by rw [e]; exact glo_mg X G c (i := 0) rfl, F⟩
  D_law_take := by
    obtain ⟨a, fd, F, ha, _⟩ := c.fn 1 fn_law_take rfl ⟨_, _, it_glo (i := 1) (x := "_law_take") rfl, rfl⟩
    have e := ha rfl
    exact ⟨a, fd, by rw [e]; exact glo_mg X G c (i := 1) rfl, F⟩
  D_law_pick := by
    obtain ⟨a, fd, F, ha, _⟩ := c.fn 2 fn_law_pick rfl ⟨_, _, it_glo (i := 2) (x := "_law_pick") rfl, rfl⟩
    have e := ha rfl
    exact ⟨a, fd, by rw [e]; exact glo_mg X G c (i := 2) rfl, F⟩
  D_law_text := by
    obtain ⟨a, fd, F, ha, _⟩ := c.fn 3 fn_law_text rfl ⟨_, _, it_glo (i := 3) (x := "_law_text") rfl, rfl⟩
    have e := ha rfl
    exact ⟨a, fd, by rw [e]; exact glo_mg X G c (i := 3) rfl, F⟩
  D_law_thing := by
    obtain ⟨a, fd, F, ha, _⟩ := c.fn 4 fn_law_thing rfl ⟨_, _, it_glo (i := 4) (x := "_law_thing") rfl, rfl⟩
    have e := ha rfl
    exact ⟨a, fd, by rw [e]; exact glo_mg X G c (i := 4) rfl, F⟩
  D_law_bare := by
    obtain ⟨a, fd, F, ha, _⟩ := c.fn 5 fn_law_bare rfl ⟨_, _, it_glo (i := 5) (x := "_law_bare") rfl, rfl⟩
    have e := ha rfl
    exact ⟨a, fd, by rw [e]; exact glo_mg X G c (i := 5) rfl, F⟩
  D_law_what_rows := by
    obtain ⟨a, fd, F, ha, _⟩ := c.fn 6 fn_law_what_rows rfl ⟨_, _, it_glo (i := 6) (x := "_law_what_rows") rfl, rfl⟩
    have e := ha rfl
    exact ⟨a, fd, by rw [e]; exact glo_mg X G c (i := 6) rfl, F⟩
  D_law_how_rows := by
    obtain ⟨a, fd, F, ha, _⟩ := c.fn 7 fn_law_how_rows rfl ⟨_, _, it_glo (i := 7) (x := "_law_how_rows") rfl, rfl⟩
    have e := ha rfl
    exact ⟨a, fd, by rw [e]; exact glo_mg X G c (i := 7) rfl, F⟩
  D_law_number_rows := by
    obtain ⟨a, fd, F, ha, _⟩ := c.fn 8 fn_law_number_rows rfl ⟨_, _, it_glo (i := 8) (x := "_law_number_rows") rfl, rfl⟩
    have e := ha rfl
    exact ⟨a, fd, by rw [e]; exact glo_mg X G c (i := 8) rfl, F⟩
  D_law_waiting_rows := by
    obtain ⟨a, fd, F, ha, _⟩ := c.fn 9 fn_law_waiting_rows rfl ⟨_, _, it_glo (i := 9) (x := "_law_waiting_rows") rfl, rfl⟩
    have e := ha rfl
    exact ⟨a, fd, by rw [e]; exact glo_mg X G c (i := 9) rfl, F⟩
  D_law_hand_rows := by
    obtain ⟨a, fd, F, ha, _⟩ := c.fn 10 fn_law_hand_rows rfl ⟨_, _, it_glo (i := 10) (x := "_law_hand_rows") rfl, rfl⟩
    have e := ha rfl
    exact ⟨a, fd, by rw [e]; exact glo_mg X G c (i := 10) rfl, F⟩
  D_law_report_rows := by
    obtain ⟨a, fd, F, ha, _⟩ := c.fn 11 fn_law_report_rows rfl ⟨_, _, it_glo (i := 11) (x := "_law_report_rows") rfl, rfl⟩
    have e := ha rfl
    exact ⟨a, fd, by rw [e]; exact glo_mg X G c (i := 11) rfl, F⟩
  D_law_at_rows := by
    obtain ⟨a, fd, F, ha, _⟩ := c.fn 12 fn_law_at_rows rfl ⟨_, _, it_glo (i := 12) (x := "_law_at_rows") rfl, rfl⟩
    have e := ha rfl
    exact ⟨a, fd, by rw [e]; exact glo_mg X G c (i := 12) rfl, F⟩
  D_law_symbol_rows := by
    obtain ⟨a, fd, F, ha, _⟩ := c.fn 13 fn_law_symbol_rows rfl ⟨_, _, it_glo (i := 13) (x := "_law_symbol_rows") rfl, rfl⟩
    have e := ha rfl
    exact ⟨a, fd, by rw [e]; exact glo_mg X G c (i := 13) rfl, F⟩
  D_law_length_rows := by
    obtain ⟨a, fd, F, ha, _⟩ := c.fn 14 fn_law_length_rows rfl ⟨_, _, it_glo (i := 14) (x := "_law_length_rows") rfl, rfl⟩
    have e := ha rfl
    exact ⟨a, fd, by rw [e]; exact glo_mg X G c (i := 14) rfl, F⟩
  D_law_name_rows := by
    obtain ⟨a, fd, F, ha, _⟩ := c.fn 15 fn_law_name_rows rfl ⟨_, _, it_glo (i := 15) (x := "_law_name_rows") rfl, rfl⟩
    have e := ha rfl
    exact ⟨a, fd, by rw [e]; exact glo_mg X G c (i := 15) rfl, F⟩
  D_law_used_rows := by
    obtain ⟨a, fd, F, ha, _⟩ := c.fn 16 fn_law_used_rows rfl ⟨_, _, it_glo (i := 16) (x := "_law_used_rows") rfl, rfl⟩
    have e := ha rfl
    exact ⟨a, fd, by rw [e]; exact glo_mg X G c (i := 16) rfl, F⟩
  D_law_road_rows := by
    obtain ⟨a, fd, F, ha, _⟩ := c.fn 17 fn_law_road_rows rfl ⟨_, _, it_glo (i := 17) (x := "_law_road_rows") rfl, rfl⟩
    have e := ha rfl
    exact ⟨a, fd, by rw [e]; exact glo_mg X G c (i := 17) rfl, F⟩
  D_law_turns_rows := by
    obtain ⟨a, fd, F, ha, _⟩ := c.fn 18 fn_law_turns_rows rfl ⟨_, _, it_glo (i := 18) (x := "_law_turns_rows") rfl, rfl⟩
    have e := ha rfl
    exact ⟨a, fd, by rw [e]; exact glo_mg X G c (i := 18) rfl, F⟩
  D_law_couple_rows := by
    obtain ⟨a, fd, F, ha, _⟩ := c.fn 19 fn_law_couple_rows rfl ⟨_, _, it_glo (i := 19) (x := "_law_couple_rows") rfl, rfl⟩
    have e := ha rfl
    exact ⟨a, fd, by rw [e]; exact glo_mg X G c (i := 19) rfl, F⟩
  D_law_kinds := by
    obtain ⟨a, fd, F, ha, _⟩ := c.fn 20 fn_law_kinds rfl ⟨_, _, it_glo (i := 20) (x := "_law_kinds") rfl, rfl⟩
    have e := ha rfl
    exact ⟨a, fd, by rw [e]; exact glo_mg X G c (i := 20) rfl, F⟩
  D_law_alone := by
    obtain ⟨a, fd, F, ha, _⟩ := c.fn 21 fn_law_alone rfl ⟨_, _, it_glo (i := 21) (x := "_law_alone") rfl, rfl⟩
    have e := ha rfl
    exact ⟨a, fd, by rw [e]; exact glo_mg X G c (i := 21) rfl, F⟩
  IBadBook := by
    obtain ⟨a, fd, F, _, ha⟩ := c.fn 23 fnIBadBook rfl ⟨_, _, it_err (i := 0) rfl, rfl⟩
    obtain ⟨z1, z2⟩ := init_of c (i := 0) (x := "BadBook") (f := "what") (fs := []) rfl
    have e := ha _ rfl
    have ea : a = ma K (ga K "BadBook") "__init__" := by
      have q := e.symm.trans z1
      simpa using q
    subst ea
    exact ⟨fd, z1, z2, F⟩
  IBadSaying := by
    obtain ⟨a, fd, F, _, ha⟩ := c.fn 24 fnIBadSaying rfl ⟨_, _, it_err (i := 2) rfl, rfl⟩
    obtain ⟨z1, z2⟩ := init_of c (i := 2) (x := "BadSaying") (f := "what") (fs := []) rfl
    have e := ha _ rfl
    have ea : a = ma K (ga K "BadSaying") "__init__" := by
      have q := e.symm.trans z1
      simpa using q
    subst ea
    exact ⟨fd, z1, z2, F⟩
  IBadText := by
    obtain ⟨a, fd, F, _, ha⟩ := c.fn 25 fnIBadText rfl ⟨_, _, it_err (i := 3) rfl, rfl⟩
    obtain ⟨z1, z2⟩ := init_of c (i := 3) (x := "BadText") (f := "line") (fs := ["place"]) rfl
    have e := ha _ rfl
    have ea : a = ma K (ga K "BadText") "__init__" := by
      have q := e.symm.trans z1
      simpa using q
    subst ea
    exact ⟨fd, z1, z2, F⟩
  IBadExpression := by
    obtain ⟨a, fd, F, _, ha⟩ := c.fn 26 fnIBadExpression rfl ⟨_, _, it_err (i := 4) rfl, rfl⟩
    obtain ⟨z1, z2⟩ := init_of c (i := 4) (x := "BadExpression") (f := "what") (fs := []) rfl
    have e := ha _ rfl
    have ea : a = ma K (ga K "BadExpression") "__init__" := by
      have q := e.symm.trans z1
      simpa using q
    subst ea
    exact ⟨fd, z1, z2, F⟩
  IBadEquation := by
    obtain ⟨a, fd, F, _, ha⟩ := c.fn 27 fnIBadEquation rfl ⟨_, _, it_err (i := 7) rfl, rfl⟩
    obtain ⟨z1, z2⟩ := init_of c (i := 7) (x := "BadEquation") (f := "at") (fs := ["what"]) rfl
    have e := ha _ rfl
    have ea : a = ma K (ga K "BadEquation") "__init__" := by
      have q := e.symm.trans z1
      simpa using q
    subst ea
    exact ⟨fd, z1, z2, F⟩
  IEnded := by
    obtain ⟨a, fd, F, _, ha⟩ := c.fn 28 fnIEnded rfl ⟨_, _, it_err (i := 11) rfl, rfl⟩
    obtain ⟨z1, z2⟩ := init_of c (i := 11) (x := "Ended") (f := "how") (fs := []) rfl
    have e := ha _ rfl
    have ea : a = ma K (ga K "Ended") "__init__" := by
      have q := e.symm.trans z1
      simpa using q
    subst ea
    exact ⟨fd, z1, z2, F⟩
  INoBook := by
    obtain ⟨a, fd, F, _, ha⟩ := c.fn 29 fnINoBook rfl ⟨_, _, it_err (i := 12) rfl, rfl⟩
    obtain ⟨z1, z2⟩ := init_of c (i := 12) (x := "NoBook") (f := "number") (fs := []) rfl
    have e := ha _ rfl
    have ea : a = ma K (ga K "NoBook") "__init__" := by
      have q := e.symm.trans z1
      simpa using q
    subst ea
    exact ⟨fd, z1, z2, F⟩
  INotOpen := by
    obtain ⟨a, fd, F, _, ha⟩ := c.fn 30 fnINotOpen rfl ⟨_, _, it_err (i := 13) rfl, rfl⟩
    obtain ⟨z1, z2⟩ := init_of c (i := 13) (x := "NotOpen") (f := "number") (fs := []) rfl
    have e := ha _ rfl
    have ea : a = ma K (ga K "NotOpen") "__init__" := by
      have q := e.symm.trans z1
      simpa using q
    subst ea
    exact ⟨fd, z1, z2, F⟩
  INotLooked := by
    obtain ⟨a, fd, F, _, ha⟩ := c.fn 31 fnINotLooked rfl ⟨_, _, it_err (i := 14) rfl, rfl⟩
    obtain ⟨z1, z2⟩ := init_of c (i := 14) (x := "NotLooked") (f := "number") (fs := []) rfl
    have e := ha _ rfl
    have ea : a = ma K (ga K "NotLooked") "__init__" := by
      have q := e.symm.trans z1
      simpa using q
    subst ea
    exact ⟨fd, z1, z2, F⟩
  ITooFull := by
    obtain ⟨a, fd, F, _, ha⟩ := c.fn 32 fnITooFull rfl ⟨_, _, it_err (i := 15) rfl, rfl⟩
    obtain ⟨z1, z2⟩ := init_of c (i := 15) (x := "TooFull") (f := "waiting") (fs := []) rfl
    have e := ha _ rfl
    have ea : a = ma K (ga K "TooFull") "__init__" := by
      have q := e.symm.trans z1
      simpa using q
    subst ea
    exact ⟨fd, z1, z2, F⟩
  INoHand := by
    obtain ⟨a, fd, F, _, ha⟩ := c.fn 33 fnINoHand rfl ⟨_, _, it_err (i := 17) rfl, rfl⟩
    obtain ⟨z1, z2⟩ := init_of c (i := 17) (x := "NoHand") (f := "hand") (fs := []) rfl
    have e := ha _ rfl
    have ea : a = ma K (ga K "NoHand") "__init__" := by
      have q := e.symm.trans z1
      simpa using q
    subst ea
    exact ⟨fd, z1, z2, F⟩
  IBusy := by
    obtain ⟨a, fd, F, _, ha⟩ := c.fn 34 fnIBusy rfl ⟨_, _, it_err (i := 18) rfl, rfl⟩
    obtain ⟨z1, z2⟩ := init_of c (i := 18) (x := "Busy") (f := "hand") (fs := []) rfl
    have e := ha _ rfl
    have ea : a = ma K (ga K "Busy") "__init__" := by
      have q := e.symm.trans z1
      simpa using q
    subst ea
    exact ⟨fd, z1, z2, F⟩
  IIdle := by
    obtain ⟨a, fd, F, _, ha⟩ := c.fn 35 fnIIdle rfl ⟨_, _, it_err (i := 19) rfl, rfl⟩
    obtain ⟨z1, z2⟩ := init_of c (i := 19) (x := "Idle") (f := "hand") (fs := []) rfl
    have e := ha _ rfl
    have ea : a = ma K (ga K "Idle") "__init__" := by
      have q := e.symm.trans z1
      simpa using q
    subst ea
    exact ⟨fd, z1, z2, F⟩
  INoReport := by
    obtain ⟨a, fd, F, _, ha⟩ := c.fn 36 fnINoReport rfl ⟨_, _, it_err (i := 20) rfl, rfl⟩
    obtain ⟨z1, z2⟩ := init_of c (i := 20) (x := "NoReport") (f := "report") (fs := []) rfl
    have e := ha _ rfl
    have ea : a = ma K (ga K "NoReport") "__init__" := by
      have q := e.symm.trans z1
      simpa using q
    subst ea
    exact ⟨fd, z1, z2, F⟩
  IBadGrammar := by
    obtain ⟨a, fd, F, _, ha⟩ := c.fn 37 fnIBadGrammar rfl ⟨_, _, it_err (i := 21) rfl, rfl⟩
    obtain ⟨z1, z2⟩ := init_of c (i := 21) (x := "BadGrammar") (f := "at") (fs := []) rfl
    have e := ha _ rfl
    have ea : a = ma K (ga K "BadGrammar") "__init__" := by
      have q := e.symm.trans z1
      simpa using q
    subst ea
    exact ⟨fd, z1, z2, F⟩
  INoSymbol := by
    obtain ⟨a, fd, F, _, ha⟩ := c.fn 38 fnINoSymbol rfl ⟨_, _, it_err (i := 22) rfl, rfl⟩
    obtain ⟨z1, z2⟩ := init_of c (i := 22) (x := "NoSymbol") (f := "symbol") (fs := []) rfl
    have e := ha _ rfl
    have ea : a = ma K (ga K "NoSymbol") "__init__" := by
      have q := e.symm.trans z1
      simpa using q
    subst ea
    exact ⟨fd, z1, z2, F⟩
  INoSign := by
    obtain ⟨a, fd, F, _, ha⟩ := c.fn 39 fnINoSign rfl ⟨_, _, it_err (i := 23) rfl, rfl⟩
    obtain ⟨z1, z2⟩ := init_of c (i := 23) (x := "NoSign") (f := "at") (fs := []) rfl
    have e := ha _ rfl
    have ea : a = ma K (ga K "NoSign") "__init__" := by
      have q := e.symm.trans z1
      simpa using q
    subst ea
    exact ⟨fd, z1, z2, F⟩
  ITooLong := by
    obtain ⟨a, fd, F, _, ha⟩ := c.fn 40 fnITooLong rfl ⟨_, _, it_err (i := 24) rfl, rfl⟩
    obtain ⟨z1, z2⟩ := init_of c (i := 24) (x := "TooLong") (f := "length") (fs := []) rfl
    have e := ha _ rfl
    have ea : a = ma K (ga K "TooLong") "__init__" := by
      have q := e.symm.trans z1
      simpa using q
    subst ea
    exact ⟨fd, z1, z2, F⟩
  INoCut := by
    obtain ⟨a, fd, F, _, ha⟩ := c.fn 41 fnINoCut rfl ⟨_, _, it_err (i := 26) rfl, rfl⟩
    obtain ⟨z1, z2⟩ := init_of c (i := 26) (x := "NoCut") (f := "begin") (fs := ["end"]) rfl
    have e := ha _ rfl
    have ea : a = ma K (ga K "NoCut") "__init__" := by
      have q := e.symm.trans z1
      simpa using q
    subst ea
    exact ⟨fd, z1, z2, F⟩
  IBadFilling := by
    obtain ⟨a, fd, F, _, ha⟩ := c.fn 42 fnIBadFilling rfl ⟨_, _, it_err (i := 27) rfl, rfl⟩
    obtain ⟨z1, z2⟩ := init_of c (i := 27) (x := "BadFilling") (f := "at") (fs := []) rfl
    have e := ha _ rfl
    have ea : a = ma K (ga K "BadFilling") "__init__" := by
      have q := e.symm.trans z1
      simpa using q
    subst ea
    exact ⟨fd, z1, z2, F⟩
  INoName := by
    obtain ⟨a, fd, F, _, ha⟩ := c.fn 43 fnINoName rfl ⟨_, _, it_err (i := 28) rfl, rfl⟩
    obtain ⟨z1, z2⟩ := init_of c (i := 28) (x := "NoName") (f := "name") (fs := []) rfl
    have e := ha _ rfl
    have ea : a = ma K (ga K "NoName") "__init__" := by
      have q := e.symm.trans z1
      simpa using q
    subst ea
    exact ⟨fd, z1, z2, F⟩
  ITooWide := by
    obtain ⟨a, fd, F, _, ha⟩ := c.fn 44 fnITooWide rfl ⟨_, _, it_err (i := 32) rfl, rfl⟩
    obtain ⟨z1, z2⟩ := init_of c (i := 32) (x := "TooWide") (f := "what") (fs := []) rfl
    have e := ha _ rfl
    have ea : a = ma K (ga K "TooWide") "__init__" := by
      have q := e.symm.trans z1
      simpa using q
    subst ea
    exact ⟨fd, z1, z2, F⟩
  IBadScript := by
    obtain ⟨a, fd, F, _, ha⟩ := c.fn 45 fnIBadScript rfl ⟨_, _, it_err (i := 33) rfl, rfl⟩
    obtain ⟨z1, z2⟩ := init_of c (i := 33) (x := "BadScript") (f := "what") (fs := ["road"]) rfl
    have e := ha _ rfl
    have ea : a = ma K (ga K "BadScript") "__init__" := by
      have q := e.symm.trans z1
      simpa using q
    subst ea
    exact ⟨fd, z1, z2, F⟩
  IShortInputs := by
    obtain ⟨a, fd, F, _, ha⟩ := c.fn 46 fnIShortInputs rfl ⟨_, _, it_err (i := 34) rfl, rfl⟩
    obtain ⟨z1, z2⟩ := init_of c (i := 34) (x := "ShortInputs") (f := "used") (fs := []) rfl
    have e := ha _ rfl
    have ea : a = ma K (ga K "ShortInputs") "__init__" := by
      have q := e.symm.trans z1
      simpa using q
    subst ea
    exact ⟨fd, z1, z2, F⟩
  INoIf := by
    obtain ⟨a, fd, F, _, ha⟩ := c.fn 47 fnINoIf rfl ⟨_, _, it_err (i := 35) rfl, rfl⟩
    obtain ⟨z1, z2⟩ := init_of c (i := 35) (x := "NoIf") (f := "road") (fs := []) rfl
    have e := ha _ rfl
    have ea : a = ma K (ga K "NoIf") "__init__" := by
      have q := e.symm.trans z1
      simpa using q
    subst ea
    exact ⟨fd, z1, z2, F⟩
  INoWay := by
    obtain ⟨a, fd, F, _, ha⟩ := c.fn 48 fnINoWay rfl ⟨_, _, it_err (i := 36) rfl, rfl⟩
    obtain ⟨z1, z2⟩ := init_of c (i := 36) (x := "NoWay") (f := "turns") (fs := []) rfl
    have e := ha _ rfl
    have ea : a = ma K (ga K "NoWay") "__init__" := by
      have q := e.symm.trans z1
      simpa using q
    subst ea
    exact ⟨fd, z1, z2, F⟩
  IBadDeed := by
    obtain ⟨a, fd, F, _, ha⟩ := c.fn 49 fnIBadDeed rfl ⟨_, _, it_err (i := 38) rfl, rfl⟩
    obtain ⟨z1, z2⟩ := init_of c (i := 38) (x := "BadDeed") (f := "what") (fs := []) rfl
    have e := ha _ rfl
    have ea : a = ma K (ga K "BadDeed") "__init__" := by
      have q := e.symm.trans z1
      simpa using q
    subst ea
    exact ⟨fd, z1, z2, F⟩
  INoPaper := by
    obtain ⟨a, fd, F, _, ha⟩ := c.fn 50 fnINoPaper rfl ⟨_, _, it_err (i := 44) rfl, rfl⟩
    obtain ⟨z1, z2⟩ := init_of c (i := 44) (x := "NoPaper") (f := "at") (fs := []) rfl
    have e := ha _ rfl
    have ea : a = ma K (ga K "NoPaper") "__init__" := by
      have q := e.symm.trans z1
      simpa using q
    subst ea
    exact ⟨fd, z1, z2, F⟩
  INoStatement := by
    obtain ⟨a, fd, F, _, ha⟩ := c.fn 51 fnINoStatement rfl ⟨_, _, it_err (i := 46) rfl, rfl⟩
    obtain ⟨z1, z2⟩ := init_of c (i := 46) (x := "NoStatement") (f := "road") (fs := []) rfl
    have e := ha _ rfl
    have ea : a = ma K (ga K "NoStatement") "__init__" := by
      have q := e.symm.trans z1
      simpa using q
    subst ea
    exact ⟨fd, z1, z2, F⟩
theorem law_fn (X : K.In h) (G : h.Ns mainGlobals mg) (c : SaysS its fns frees ex K) {fa : Addr} (hfa : mg ("law" : Str) = some (.ref fa)) : ∃ fd : FuncData, (∀ (s : Shared) (v : Value), BindsTo s fd ⟨[v], []⟩ [("_law_script", v)]) ∧ ∀ base : Heap, K.In base → base.Ns mainGlobals mg → FnOk P w K mg base CX0 5 fa fd ["_law_script"] (spLaw K) := by
  obtain ⟨a, fd, F, ha, _⟩ := c.fn 22 fnlaw rfl ⟨_, _, it_glo (i := 22) (x := "law") rfl, rfl⟩
  have e := hfa.symm.trans (glo_mg X G c (i := 22) (x := "law") rfl)
  have e2 : fa = a := by
    rw [ha rfl]
    exact Value.ref.inj (Option.some.inj e)
  subst e2
  have b := FunD.bindsA (ps := ["_law_script"]) F fun _ _ _ _ _ _ us hl => match us, hl with | [_], _ => rfl
  exact ⟨fd, fun s v => b s [v] rfl, fun base _ _ => ok_law F (all_of X G c)⟩
end
end My
open PySem PySem.W PySem.Calls PyProof.Rows
set_option maxRecDepth 100000 in
set_option maxHeartbeats 0 in
theorem PySem.Challenge.cw_pressedwords_k00_errors_side_by_side_holds : PySem.Challenge.rw_pressedwords_k00_errors_side_by_side.Holds := by
  w_on; o_law
  refine HandSHeadRun.head_any (r := OpenLaw.row PySem.Challenge.rw_pressedwords_k00_errors_side_by_side) (q := view (OpenLaw.row PySem.Challenge.rw_pressedwords_k00_errors_side_by_side).prog [72]) (H := My.hk) (ob := My.ob) (M := 12500) (loose := My.loose) (d := HandSHeadRun.topDef (OpenLaw.row PySem.Challenge.rw_pressedwords_k00_errors_side_by_side).prog 72) (kwd := []) My.ob_eq
    (by kernel_rfl) (fun s => by kernel_rfl) My.run (by kernel_rfl) (by kernel_rfl) (by kernel_rfl) (by rfl) (by first | assumption | decide +kernel) (by decide +kernel) ⟨rfl, rfl, rfl, rfl, rfl, by decide +kernel⟩ ?hw ?hc
  case hw => w_witness2
  case hc =>
    refine L2.walk_ofE (l := PySem.Challenge.rw_pressedwords_k00_errors_side_by_side) (n := 63) (k := 5) (x := "_law_script") (CX := L2.CX0) rfl (by decide) (by kernel_rfl) ⟨rfl, by decide, by decide⟩ ?F (fun _ _ _ _ z => z)
    intro w mg fa h Y G hmg0
    obtain ⟨K, KX, c⟩ := Y
    have hmg : mg ("law" : PySem.Str) = some (.ref fa) := by
      have e : (HandSHeadRun.topDef (OpenLaw.row PySem.Challenge.rw_pressedwords_k00_errors_side_by_side).prog 72).name = ("law" : PySem.Str) := by kernel_rfl
      rw [← e]
      exact hmg0
    obtain ⟨fd, hb, hF⟩ := My.law_fn (P := (PySem.Challenge.rw_pressedwords_k00_errors_side_by_side).prog) (w := w) KX G c hmg
    exact ⟨K, fd, My.spLaw K, KX, hb, fun H a ns hl _ hS => ⟨a, ns, rfl, hS, fun _ => rfl⟩, hF⟩
