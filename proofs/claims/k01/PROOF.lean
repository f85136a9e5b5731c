import PyProof.Rows.All
import Wide.All
import OpenK.AllK
import Wide.FinOn
import HandS.ForMost
import HandS.Wide
import HandS.IsInst
import HandS.EndBits
import HandS.TupAny
import HandS.Walk
import PySem.Challenge.RW_handlesagain_k01_rows
set_option Elab.async false
set_option maxRecDepth 100000
namespace Toy
open PySem L2
def top (i : Nat) : Stmt := PySem.Challenge.pw_handlesagain_k01_rows.main.body.getD i (.Pass ⟨0, 0, 0, 0⟩)
/-! ### the pool that a law draws from -/
abbrev sBegin : Stmt := top 11
abbrev sMixed : Stmt := top 12
abbrev sDraw : Stmt := top 13

structure PTxt (mg : Str → Option Value) : Prop where
  int : mg "int" = none
  abs : mg "abs" = none
  len : mg "len" = none
  str : mg "str" = none
  range : mg "range" = none

/-- what stands at p is a pool, whose numbers stand at q -/
def PoolAt (H : Hp) (p q : Addr) : Prop := ∃ (ns : List Int) (i a s b : Int), H p = some (.lst [.ref q, .int i, .int a, .int s, .int b]) ∧ H q = some (.lst (ns.map V.int)) ∧ 0 ≤ i ∧ ∀ n ∈ ns, 0 ≤ n
theorem PoolAt.ne {H : Hp} {p q : Addr} (h : PoolAt H p q) : p ≠ q := by
  obtain ⟨ns, i, a, s, b, h1, h2, _, _⟩ := h
  refine ne_of h1 h2 ?_
  intro e
  injection e with e
  cases ns with
  | nil => cases e
  | cons n r => injection e with e _; cases e
/-- all but the pool is as it was -/
def But (p q : Addr) (H H' : Hp) : Prop := ∀ b o, b ≠ p → b ≠ q → H b = some o → H' b = some o
theorem But.refl (p q : Addr) (H : Hp) : But p q H H := fun _ _ _ _ h => h
theorem But.trans {p q : Addr} {H H1 H2 : Hp} (a : But p q H H1) (b : But p q H1 H2) : But p q H H2 := fun c o n1 n2 h => b c o n1 n2 (a c o n1 n2 h)
theorem But.of_same {p q : Addr} {H H1 : Hp} (a : Same H H1) : But p q H H1 := fun c o _ _ h => a c o h
theorem But.updP {p q : Addr} {H : Hp} {o : HO} : But p q H (upd H p o) := fun c u n1 _ h => by rw [upd_ne n1]; exact h
theorem But.updQ {p q : Addr} {H : Hp} {o : HO} : But p q H (upd H q o) := fun c u _ n2 h => by rw [upd_ne n2]; exact h
theorem PoolAt.same {H H' : Hp} {p q : Addr} (h : PoolAt H p q) (s : Same H H') : PoolAt H' p q := by
  obtain ⟨ns, i, a, z, b, h1, h2, h3⟩ := h
  exact ⟨ns, i, a, z, b, s _ _ h1, s _ _ h2, h3⟩

def spBegin (K : PySem.W.Frag) : Sp := fun vs H Q _ => ∃ (a : Addr) (ns : List Int), vs = [.ref a] ∧ SqL K H a (ns.map V.int) ∧ ns.length ≤ 63 ∧
  ∀ H' p q, Same H H' → H p = none → H q = none → PoolAt H' p q → Q (.ref p) H'
def spMixed : Sp := fun vs H Q _ => ∃ (p q : Addr) (m : Int), vs = [.ref p, .int m] ∧ PoolAt H p q ∧ 1 ≤ m ∧ m < 10 ^ 40 ∧
  ∀ H' (r : Int), But p q H H' → PoolAt H' p q → 0 ≤ r → r < m → Q (.int r) H'
/-- from a pool a number from 0 to m - 1 -/
def spDraw : Sp := fun vs H Q _ => ∃ (p q : Addr) (m : Int), vs = [.ref p, .int m] ∧ PoolAt H p q ∧ 1 ≤ m ∧ m < 10 ^ 40 ∧
  ∀ H' (r : Int), But p q H H' → PoolAt H' p q → 0 ≤ r → r < m → Q (.int r) H'

theorem map_int_get {ns : List Int} {i : Nat} {y : V} (hi : (ns.map V.int)[i]? = some y) : ∃ u, y = V.int u ∧ ns[i]? = some u := by
  rw [List.getElem?_map] at hi
  cases e : ns[i]? with
  | none => rw [e] at hi; cases hi
  | some u => rw [e] at hi; exact ⟨u, (Option.some.inj hi).symm, rfl⟩

section
variable {P : Program} {w : World} {K : PySem.W.Frag} {mg : Str → Option Value} {base : Heap}
theorem scBegin : FnScope ["script", "seed", "cell"] ["script"] (defScope sBegin) := ⟨rfl, rfl, rfl, by decide +kernel, rfl, by decide +kernel, by decide +kernel⟩
theorem ok_begin {f : Addr} {fd : FuncData} (F : Fun K "_law_begin" "_law_begin" sBegin f fd) (T : PTxt mg) : FnOk P w K mg base CX0 1 f fd ["script"] (spBegin K) := by
  refine F.ok scBegin (fun vs H Q E h => ?_) (fun cdv A outer s H vs Q E hr h => ?_)
  · obtain ⟨a, ns, rfl, _⟩ := h
    rfl
  · obtain ⟨a, ns, rfl, hS, hlen, k⟩ := h
    refine ⟨_, pss_cons (ps_set (i := 1) scBegin.nd rfl (.inl rfl) pe_int)
      (pss_cons (ps_for PassesOwn.never rfl (pi_list (pe_slice sl_list (pv 0) po_none (po_some pe_int))) (pg_name (i := 2) scBegin.nd rfl (.inl rfl))
        (pss_one (ps_set (i := 1) scBegin.nd rfl (.inl rfl) (pe_op op_mod (pe_op op_add (pe_op op_add (pe_op op_mul (pv 1) pe_int) (pe_op op_mod (pe_callTy call_int1 (by rfl) T.int (by decide +kernel) (pa_cons (pv 2) pa_nil)) pe_int)) pe_int) pe_int))))
      (pss_one (ps_ret (pe_lst (pa_cons (pe_lc (own := [("cell", 2)]) (g := gName 2) (by rfl) scBegin.nd (pi_list (pv 0)) (blkOk_by (own := [("cell", 2)]) (N := ["script", "seed", "cell"]) (sc := defScope sBegin) (by decide +kernel))
        (fun _ _ _ _ _ => pg_name (i := 2) scBegin.nd rfl (Or.inl rfl)) (fun _ _ _ _ _ => pts_nil)
        (fun _ _ _ _ _ => pe_callB call_abs (by rfl) T.abs (by decide +kernel) (pa_cons (pe_callTy call_int1 (by rfl) T.int (by decide +kernel) (pa_cons (pv 2) pa_nil)) pa_nil)))
        (pa_cons pe_int (pa_cons pe_int (pa_cons (pv 1) (pa_cons pe_int pa_nil))))))))), ?_⟩
    refine ⟨_, rfl, _, rfl, a, _, rfl, hS, fun p hp => ?_⟩
    refine ⟨p, rfl, ⟨_, .inl (.inl upd_same)⟩, for_list (K := K) (a := p) (xs := cutV (ns.map V.int) none (some 40)) (fun i σ H' => ∃ (z : Int) (v : Option V), σ = [some (.ref a), some (.int z), v] ∧ H' = upd H p (.lst (cutV (ns.map V.int) none (some 40)))) 
      ⟨7, none, rfl, rfl⟩ (fun i σ H' _ ⟨_, _, _, e⟩ => by rw [e]; exact .inl (.inl upd_same)) ?_ ?_⟩
    · rintro i y σ H' hi ⟨z, v, rfl, rfl⟩
      obtain ⟨u, rfl⟩ : ∃ u, y = V.int u := by
        have hm := List.mem_of_getElem? hi
        have hm2 := List.mem_of_mem_drop (List.mem_of_mem_take hm)
        obtain ⟨u, _, e⟩ := List.mem_map.mp hm2
        exact ⟨u, e.symm⟩
      refine ⟨_, rfl, _, _, rfl, rfl, .inr ⟨by decide, by decide⟩, _, rfl, .inl ⟨_, rfl, _, _, rfl, rfl, (by show (0 : Int) < 2147483647; decide), _, _, rfl, rfl, _, _, rfl, rfl, _, _, rfl, rfl, (by show (0 : Int) < 2147483647; decide), _, _, rfl, rfl⟩⟩
    · rintro σ H' ⟨z, v, rfl, rfl⟩
      have sp : Same H (upd H p (.lst (cutV (ns.map V.int) none (some 40)))) := fun b o e => by
        rw [upd_ne (ne_of_none e hp)]
        exact e
      refine ⟨_, rfl, a, rfl, ⟨_, sp.seq hS⟩, fun D hD => ?_⟩
      have hS1 := sp.seq hS
      generalize hH1 : upd H p (.lst (cutV (ns.map V.int) none (some 40))) = H1 at *
      have sD : ∀ u, Same H1 (upd H1 D u) := fun u b o e => by
        rw [upd_ne (ne_of_none e hD)]
        exact e
      refine lc_list (K := K) (a := a) (xs := ns.map V.int) (fun i H' => ∃ zs : List Int, H' = upd H1 D (.lst (zs.map V.int)) ∧ zs.length = i ∧ ∀ n ∈ zs, 0 ≤ n) ⟨[], rfl, rfl, fun _ h => nomatch h⟩ (fun i H' _ ⟨zs, e, _⟩ => by rw [e]; exact (sD _).seq hS1) ?_ ?_
      · rintro i y H' hi ⟨zs, rfl, hz, hp0⟩
        obtain ⟨u, rfl, hu⟩ := map_int_get hi
        have hi63 : i < ns.length := (List.getElem?_eq_some_iff.mp hu).1
        refine ⟨rfl, _, rfl, .inl ⟨_, rfl, _, rfl, _, upd_same, ?_, zs ++ [if u < 0 then -u else u], ?_, ?_, ?_⟩⟩
        · rw [List.length_map]
          exact Nat.lt_of_le_of_lt (show zs.length ≤ 63 by omega) (by decide)
        · rw [upd_upd, List.map_append]
          rfl
        · rw [List.length_append, hz]
          rfl
        · intro n hn
          rcases List.mem_append.mp hn with h | h
          · exact hp0 n h
          · rw [List.mem_singleton.mp h]
            split <;> omega
      · rintro H' ⟨zs, rfl, hz, hp0⟩
        refine ⟨_, rfl, (by show 5 ≤ sizeLine; decide), fun p2 hp2 => ?_⟩
        have nDp : D ≠ p2 := fun e => by
          rw [← e, upd_same] at hp2
          cases hp2
        have hp2' : H1 p2 = Option.none := by
          rw [upd_ne nDp.symm] at hp2
          exact hp2
        refine k _ p2 D (Same.trans sp (fun b o e => ?_)) (sp.free hp2') (sp.free hD) ⟨zs, 0, 0, z, 0, upd_same, ?_, by decide, hp0⟩
        · rw [upd_ne (ne_of_none e hp2')]
          exact sD _ _ _ e
        · rw [upd_ne nDp, upd_same]

theorem numlen {m : Int} (h0 : 0 ≤ m) (h1 : m < 10 ^ 40) : (Str.ofString (toString m)).length ≤ 40 := PyProof.Rows.toString_length_le h0 (by decide) h1

theorem natlt {m : Int} (h1 : 1 ≤ m) (h2 : m < 10 ^ 40) : m.natAbs < 2 ^ 140 := by
  have e : (10 : Int) ^ 40 ≤ 2 ^ 140 := by decide
  have e2 : ((2 ^ 140 : Nat) : Int) = (2 : Int) ^ 140 := by decide
  omega
theorem natlog {m : Int} (h1 : 1 ≤ m) (h2 : m < 10 ^ 40) : m.natAbs.log2 < 140 := PySem.Flt.log2_lt_of (by decide) (natlt h1 h2)
theorem scMixed : FnScope ["pool", "many", "found", "turn"] ["pool", "many"] (defScope sMixed) := ⟨rfl, rfl, rfl, by decide +kernel, rfl, by decide +kernel, by decide +kernel⟩
theorem ok_mixed {f : Addr} {fd : FuncData} (F : Fun K "_law_mixed" "_law_mixed" sMixed f fd) (T : PTxt mg) : FnOk P w K mg base CX0 1 f fd ["pool", "many"] spMixed := by
  refine F.ok scMixed (fun vs H Q E h => ?_) (fun cdv A outer s H vs Q E hr h => ?_)
  · obtain ⟨p, q, m, rfl, _⟩ := h
    rfl
  · obtain ⟨p, q, m, rfl, hP, h1, h2, k⟩ := h
    have npq := hP.ne
    obtain ⟨ns, i, a, z, b, hp, hq, hi, hns⟩ := hP
    refine ⟨_, pss_cons (ps_asg (pe_op op_add (pe_ix ix_list (pv 0) pe_int (fun _ _ => rfl)) pe_int) (pg_sub (pv 0) pe_int set_list))
      (pss_cons (ps_set (i := 2) scMixed.nd rfl (.inl rfl) (pe_ix ix_list (pv 0) pe_int (fun _ _ => rfl)))
      (pss_cons (ps_for PassesOwn.never rfl (pi_range1 rfl T.range (pa_cons (pe_op op_add pe_int (pe_op op_fdiv (pe_callB call_len_str (by rfl) T.len PySem.boot_len (pa_cons (pe_callTy call_str_int (by rfl) T.str (by decide +kernel) (pa_cons (pv 1) pa_nil)) pa_nil)) pe_int)) pa_nil)) (pg_name (i := 3) scMixed.nd rfl (.inl rfl))
        (pss_cons (ps_asg (pe_op op_mod (pe_op op_add (pe_op op_add (pe_op op_mul (pe_ix ix_list (pv 0) pe_int (fun _ _ => rfl)) pe_int) (pe_op op_mul (pe_ix ix_list (pv 0) pe_int (fun _ _ => rfl)) pe_int)) pe_int) pe_int) (pg_sub (pv 0) pe_int set_list))
        (pss_one (ps_set (i := 2) scMixed.nd rfl (.inl rfl) (pe_op op_add (pe_op op_mul (pv 2) pe_int) (pe_op op_fdiv (pe_ix ix_list (pv 0) pe_int (fun _ _ => rfl)) pe_int))))))
      (pss_one (ps_ret (pe_op op_mod (pv 2) (pv 1)))))), ?_⟩
    refine ⟨_, rfl, p, _, 2, _, rfl, rfl, .inl (.inl hp), rfl, _, _, rfl, rfl, _, rfl, p, _, 2, 2, rfl, rfl, hp, rfl, ?_⟩
    refine ⟨_, rfl, p, _, 3, _, rfl, rfl, .inl (.inl upd_same), rfl, ?_⟩
    have hl := numlen (by omega : 0 ≤ m) h2
    have hlog : m.natAbs.log2 < 1920 := Nat.lt_trans (natlog h1 h2) (by decide)
    refine ⟨_, rfl, _, rfl, hlog, _, rfl, Nat.le_trans hl (by decide), _, _, rfl, rfl, ⟨by decide, by decide⟩, _, _, rfl, rfl, _, rfl, ?_, ?_, ?_⟩
    · show -(2 ^ 62) ≤ (1 : Int) + ((Str.ofString (toString m)).length : Int) / 9
      omega
    · show (1 : Int) + ((Str.ofString (toString m)).length : Int) / 9 < 2 ^ 62
      omega
    · refine for_range (lo := 0) (n := ((1 : Int) + ((Str.ofString (toString m)).length : Int) / 9).toNat) (fun j σ H' => ∃ (s' f' : Int) (v : Option V), σ = [some (.ref p), some (.int m), some (.int f'), v] ∧ H' = upd H p (.lst [.ref q, .int i, .int (a + 1), .int s', .int b]))
        ⟨_, _, none, rfl, rfl⟩ ?_ ?_
      · rintro j σ H' _ ⟨s', f', v, rfl, rfl⟩
        refine ⟨_, rfl, p, _, 3, _, rfl, rfl, .inl (.inl upd_same), rfl, _, _, rfl, rfl, .inr ⟨by decide, by decide⟩, _, rfl, p, _, 2, _, rfl, rfl, .inl (.inl upd_same), rfl, _, _, rfl, rfl, .inr ⟨by decide, by decide⟩, _, _, rfl, rfl, _, _, rfl, rfl, _, _, rfl, rfl, (by show (0 : Int) < 2147483647; decide), _, rfl, p, _, 3, 3, rfl, rfl, upd_same, rfl, ?_⟩
        refine ⟨_, rfl, _, _, rfl, rfl, .inr ⟨by decide, by decide⟩, _, rfl, p, _, 3, _, rfl, rfl, .inl (.inl upd_same), rfl, _, _, rfl, rfl, ⟨by decide, by decide⟩, _, _, rfl, rfl, ?_⟩
        exact ⟨_, _, _, rfl, by rw [upd_upd]; rfl⟩
      · rintro σ H' ⟨s', f', v, rfl, rfl⟩
        refine ⟨_, rfl, _, rfl, _, _, rfl, rfl, (by show (0 : Int) < m; omega), ?_⟩
        exact k _ _ But.updP ⟨ns, i, a + 1, s', b, upd_same, by rw [upd_ne npq.symm]; exact hq, hi, hns⟩ (Int.emod_nonneg _ (by omega)) (Int.emod_lt_of_pos _ (by omega))

theorem ixN_nat {n i : Nat} (h : i < n) : ixN n (i : Int) = some i := by
  unfold ixN
  rw [if_pos (by omega), if_pos (by omega), Int.toNat_natCast]
theorem scDraw : FnScope ["pool", "many", "found"] ["pool", "many"] (defScope sDraw) := ⟨rfl, rfl, rfl, by decide +kernel, rfl, by decide +kernel, by decide +kernel⟩
theorem ok_draw {f fM : Addr} {fd fdM : FuncData} (F : Fun K "_law_draw" "_law_draw" sDraw f fd) (T : PTxt mg) (FM : Fun K "_law_mixed" "_law_mixed" sMixed fM fdM) (bM : Binds K fdM ["pool", "many"] []) (gM : mg "_law_mixed" = some (.ref fM)) : FnOk P w K mg base CX0 2 f fd ["pool", "many"] spDraw := by
  have GM : FnOk P w K mg base CX0 1 fM fdM ["pool", "many"] spMixed := ok_mixed FM T
  refine F.ok scDraw (fun vs H Q E h => ?_) (fun cdv A outer s H vs Q E hr h => ?_)
  · obtain ⟨p, q, m, rfl, _⟩ := h
    rfl
  · obtain ⟨p, q, m, rfl, hP, h1, h2, k⟩ := h
    have npq := hP.ne
    have hP0 := hP
    obtain ⟨ns, i, a, z, b, hp, hq, hi, hns⟩ := hP
    refine ⟨_, pss_cons (ps_if (PW.pt (pw_or (pt_cmpR op_ge (pe_ix ix_list (pv 0) pe_int (fun _ _ => rfl)) (pe_callB call_len_seq (by rfl) T.len PySem.boot_len (pa_cons (pe_ix ix_list (pv 0) pe_int (fun _ _ => rfl)) pa_nil)) (nomark _)) (pw_or1 (pt_cmpR op_eq (pv 1) pe_int (nomark _)))))
        (pss_one (ps_ret (pe_ifExp (pt_cmpR op_gt (pv 1) pe_int (nomark _)) (pe_call GM hr rfl gM FM.kp bM .nil pass0 (pa_cons (pv 0) (pa_cons (pv 1) pa_nil))) pe_int))) pss_nil)
      (pss_cons (ps_if (pt_cmpR op_lt (pe_ix ix_list (pe_ix ix_list (pv 0) pe_int (fun _ _ => rfl)) (pe_ix ix_list (pv 0) pe_int (fun _ _ => rfl)) (fun _ _ => rfl)) (pe_op op_pow pe_int pe_int) (nomark _))
        (pss_cons (ps_asg (pe_op op_mod (pe_op op_add (pe_op op_add (pe_op op_add (pe_op op_mul (pe_ix ix_list (pv 0) pe_int (fun _ _ => rfl)) pe_int) (pe_ix ix_list (pe_ix ix_list (pv 0) pe_int (fun _ _ => rfl)) (pe_ix ix_list (pv 0) pe_int (fun _ _ => rfl)) (fun _ _ => rfl))) (pe_ix ix_list (pv 0) pe_int (fun _ _ => rfl))) pe_int) pe_int) (pg_sub (pv 0) pe_int set_list))
        (pss_cons (ps_asg (pe_op op_add (pe_ix ix_list (pv 0) pe_int (fun _ _ => rfl)) pe_int) (pg_sub (pv 0) pe_int set_list))
        (pss_cons (ps_if (pt_cmpR op_eq (pe_op op_mod (pe_ix ix_list (pv 0) pe_int (fun _ _ => rfl)) pe_int) pe_int (nomark _)) (pss_one (ps_asg (pe_op op_add (pe_ix ix_list (pv 0) pe_int (fun _ _ => rfl)) pe_int) (pg_sub (pv 0) pe_int set_list))) pss_nil)
        (pss_one (ps_ret (pe_call GM hr rfl gM FM.kp bM .nil pass0 (pa_cons (pv 0) (pa_cons (pv 1) pa_nil)))))))) pss_nil)
      (pss_cons (ps_set (i := 2) scDraw.nd rfl (.inl rfl) (pe_op op_mod (pe_ix ix_list (pe_ix ix_list (pv 0) pe_int (fun _ _ => rfl)) (pe_ix ix_list (pv 0) pe_int (fun _ _ => rfl)) (fun _ _ => rfl)) (pv 1)))
      (pss_cons (ps_asg (pe_op op_fdivW (pe_ix ix_list (pe_ix ix_list (pv 0) pe_int (fun _ _ => rfl)) (pe_ix ix_list (pv 0) pe_int (fun _ _ => rfl)) (fun _ _ => rfl)) (pv 1)) (pg_sub (pe_ix ix_list (pv 0) pe_int (fun _ _ => rfl)) (pe_ix ix_list (pv 0) pe_int (fun _ _ => rfl)) set_list))
      (pss_cons (ps_if (pt_cmpR op_eq (pe_ix ix_list (pe_ix ix_list (pv 0) pe_int (fun _ _ => rfl)) (pe_ix ix_list (pv 0) pe_int (fun _ _ => rfl)) (fun _ _ => rfl)) pe_int (nomark _)) (pss_one (ps_asg (pe_op op_add (pe_ix ix_list (pv 0) pe_int (fun _ _ => rfl)) pe_int) (pg_sub (pv 0) pe_int set_list))) pss_nil)
      (pss_one (ps_ret (pv 2))))))), ?_⟩
    have sp : SqL K H p [.ref q, .int i, .int a, .int z, .int b] := .inl (.inl hp)
    have sq : SqL K H q (ns.map V.int) := .inl (.inl hq)
    have cmix : ∀ H1 : Hp, But p q H H1 → PoolAt H1 p q → spMixed [.ref p, .int m] H1 Q E := fun H1 e1 e2 => ⟨p, q, m, rfl, e2, h1, h2, fun H2 r b2 p2 r0 r1 => k H2 r (e1.trans b2) p2 r0 r1⟩
    -- if pool[1] >= len(pool[0]) or many == 1
    refine ⟨_, rfl, p, _, 1, _, rfl, rfl, sp, rfl, _, rfl, p, _, 0, _, rfl, rfl, sp, rfl, q, _, rfl, .inl sq, _, _, rfl, rfl, _, rfl, ?_⟩
    have hlen : ((ns.map V.int).length : Int) = (ns.length : Int) := by rw [List.length_map]
    refine ite2 (fun _ => ?_) (fun hlt => ?_)
    · refine ⟨_, rfl, _, _, rfl, rfl, _, rfl, ite2 (fun _ => ?_) (fun e => ?_)⟩
      · exact ⟨_, rfl, _, rfl, cmix H (But.refl _ _ _) hP0⟩
      · exact k H 0 (But.refl _ _ _) hP0 (by omega) (by omega)
    · refine ⟨_, rfl, rfl, _, rfl, ite2 (fun e => ?_) (fun hm1 => ?_)⟩
      · refine ⟨_, rfl, _, _, rfl, rfl, _, rfl, ite2 (fun _ => ?_) (fun e => ?_)⟩
        · exact ⟨_, rfl, _, rfl, cmix H (But.refl _ _ _) hP0⟩
        · exact k H 0 (But.refl _ _ _) hP0 (by omega) (by omega)
      · have hil : i < (ns.length : Int) := by
          have := hlt
          simp only [decide_eq_true_eq] at this
          omega
        obtain ⟨j, rfl⟩ : ∃ j : Nat, i = (j : Int) := ⟨i.toNat, by omega⟩
        have hj : j < ns.length := by omega
        obtain ⟨x, hx⟩ : ∃ x, ns[j]? = some x := ⟨ns[j], List.getElem?_eq_getElem hj⟩
        have hxm : (ns.map V.int)[j]? = some (V.int x) := by rw [List.getElem?_map, hx]; rfl
        have hat : atI (ns.map V.int) (j : Int) = some (V.int x) := atI_nat hxm
        have hx0 : 0 ≤ x := hns x (List.mem_of_getElem? hx)
        have hixN : ixN (ns.map V.int).length (j : Int) = some j := ixN_nat (by rw [List.length_map]; exact hj)
        -- if pool[0][pool[1]] < 10 ** 18
        refine ⟨_, rfl, p, _, 0, _, rfl, rfl, sp, rfl, _, rfl, p, _, 1, _, rfl, rfl, sp, rfl, q, _, _, _, rfl, rfl, sq, hat, _, _, rfl, rfl, ⟨by decide, by decide, by decide⟩, _, _, rfl, rfl, _, rfl, ite2 (fun _ => ?_) (fun _ => ?_)⟩
        · refine ⟨_, rfl, p, _, 3, _, rfl, rfl, sp, rfl, _, _, rfl, rfl, .inr ⟨by decide, by decide⟩, _, rfl, p, _, 0, _, rfl, rfl, sp, rfl, _, rfl, p, _, 1, _, rfl, rfl, sp, rfl, q, _, _, _, rfl, rfl, sq, hat, _, _, rfl, rfl, _, rfl, p, _, 2, _, rfl, rfl, sp, rfl, _, _, rfl, rfl, _, _, rfl, rfl, _, _, rfl, rfl, (by show (0 : Int) < 2147483647; decide), _, rfl, p, _, 3, 3, rfl, rfl, hp, rfl, ?_⟩
          refine ⟨_, rfl, p, _, 4, _, rfl, rfl, .inl (.inl upd_same), rfl, _, _, rfl, rfl, _, rfl, p, _, 4, 4, rfl, rfl, upd_same, rfl, ?_⟩
          rw [upd_upd]
          refine ⟨_, rfl, p, _, 4, _, rfl, rfl, .inl (.inl upd_same), rfl, _, _, rfl, rfl, (by show (0 : Int) < 3; decide), rfl, _, rfl, ite2 (fun _ => ?_) (fun _ => ?_)⟩
          · refine ⟨_, rfl, p, _, 1, _, rfl, rfl, .inl (.inl upd_same), rfl, _, _, rfl, rfl, _, rfl, p, _, 1, 1, rfl, rfl, upd_same, rfl, ?_⟩
            rw [upd_upd]
            refine ⟨_, rfl, _, rfl, cmix _ But.updP ⟨ns, (j : Int) + 1, a, (z * 31 + x + a + 1) % 2147483647, b + 1, upd_same, by rw [upd_ne npq.symm]; exact hq, by omega, hns⟩⟩
          · refine ⟨_, rfl, _, rfl, cmix _ But.updP ⟨ns, (j : Int), a, (z * 31 + x + a + 1) % 2147483647, b + 1, upd_same, by rw [upd_ne npq.symm]; exact hq, by omega, hns⟩⟩
        · -- found = pool[0][pool[1]] % many
          refine ⟨_, rfl, p, _, 0, _, rfl, rfl, sp, rfl, _, rfl, p, _, 1, _, rfl, rfl, sp, rfl, q, _, _, _, rfl, rfl, sq, hat, _, rfl, _, _, rfl, rfl, (by show (0 : Int) < m; omega), ?_⟩
          refine ⟨_, rfl, p, _, 0, _, rfl, rfl, sp, rfl, _, rfl, p, _, 1, _, rfl, rfl, sp, rfl, q, _, _, _, rfl, rfl, sq, hat, _, rfl, _, _, rfl, rfl, wide_div (by omega) (natlt h1 h2) (by decide) (by decide), _, rfl, p, _, 0, _, rfl, rfl, sp, rfl, _, rfl, p, _, 1, _, rfl, rfl, sp, rfl, q, _, _, _, rfl, rfl, hq, hixN, ?_⟩
          have eS : (ns.map V.int).set j (V.int (x / m)) = (ns.set j (x / m)).map V.int := by rw [List.map_set]
          rw [eS]
          have hns' : ∀ n ∈ ns.set j (x / m), 0 ≤ n := fun n hn => by
            rcases List.mem_or_eq_of_mem_set hn with h | h
            · exact hns n h
            · rw [h]
              exact Int.ediv_nonneg hx0 (by omega)
          have hp' : (upd H q (HO.lst ((ns.set j (x / m)).map V.int))) p = some (.lst [.ref q, .int (j : Int), .int a, .int z, .int b]) := by
            rw [upd_ne npq]
            exact hp
          have hq' : (upd H q (HO.lst ((ns.set j (x / m)).map V.int))) q = some (.lst ((ns.set j (x / m)).map V.int)) := upd_same
          have hat' : atI ((ns.set j (x / m)).map V.int) (j : Int) = some (V.int (x / m)) := atI_nat (by
            rw [List.getElem?_map, List.getElem?_set_self hj]
            rfl)
          have r0 : 0 ≤ x % m := Int.emod_nonneg _ (by omega)
          have r1 : x % m < m := Int.emod_lt_of_pos _ (by omega)
          have hB : But p q H (upd H q (HO.lst ((ns.set j (x / m)).map V.int))) := But.updQ
          generalize upd H q (HO.lst ((ns.set j (x / m)).map V.int)) = H1 at *
          have sp1 : SqL K H1 p [.ref q, .int (j : Int), .int a, .int z, .int b] := .inl (.inl hp')
          have sq1 : SqL K H1 q ((ns.set j (x / m)).map V.int) := .inl (.inl hq')
          refine ⟨_, rfl, p, _, 0, _, rfl, rfl, sp1, rfl, _, rfl, p, _, 1, _, rfl, rfl, sp1, rfl, q, _, _, _, rfl, rfl, sq1, hat', rfl, _, rfl, ite2 (fun _ => ?_) (fun _ => ?_)⟩
          · refine ⟨_, rfl, p, _, 1, _, rfl, rfl, sp1, rfl, _, _, rfl, rfl, _, rfl, p, _, 1, 1, rfl, rfl, hp', rfl, ?_⟩
            exact ⟨_, rfl, k _ _ (hB.trans But.updP) ⟨_, (j : Int) + 1, a, z, b, upd_same, by rw [upd_ne npq.symm]; exact hq', by omega, hns'⟩ r0 r1⟩
          · exact ⟨_, rfl, k _ _ hB ⟨_, (j : Int), a, z, b, hp', hq', by omega, hns'⟩ r0 r1⟩
end
/-! ### rules of my own -/
section
variable {X : Cx}
/-- == of a list (a tuple) and an empty one -/
def rEqNil (K : PySem.W.Frag) : V → V → Hp → VK → Prop := fun x y H Q => ∃ (p q : Addr) (xs : List V), x = .ref p ∧ y = .ref q ∧ ((SqL K H p xs ∧ SqL K H q []) ∨ (SqT K H p xs ∧ SqT K H q [])) ∧ Q (.bl xs.isEmpty) H
theorem op_eqNil (hu : X.A.units < cLine) : OpR X (compareOp .Eq) (rEqNil X.K) := by
  intro pins s σ H x y v u Q I rx ry h
  obtain ⟨p, q, xs, rfl, rfl, hpq, k⟩ := h
  cases rx
  cases ry
  rcases hpq with ⟨h1, h2⟩ | ⟨h1, h2⟩
  · obtain ⟨its, r, pl, hz⟩ := I.list h1
    obtain ⟨its2, r2, pl2, hz2⟩ := I.list h2
    cases r2
    have hl := r.length
    cases xs with
    | nil =>
      cases r
      exact SeqAt.eq_listAt (e := fun _ => true) pl.isList pl2.isList rfl hu (fun j h1 _ => absurd h1 (Nat.not_lt_zero _)) ⟨.bl true, H, I, rfl, k⟩
    | cons a b =>
      refine SeqAt.eq_list_lengthsAt pl.isList pl2.isList ?_ hu ⟨.bl false, H, I, rfl, k⟩
      cases its with
      | nil => cases r
      | cons c d => simp
  · obtain ⟨its, r, pl, hz⟩ := I.tuple h1
    obtain ⟨its2, r2, pl2, hz2⟩ := I.tuple h2
    cases r2
    have e1 : s.heap.IsTuple p its.toArray := pl
    have e2 : s.heap.IsTuple q #[] := pl2
    refine SeqAt.eq_tupleAt (e := fun _ => true) e1 e2 hu (fun j _ h2 => absurd h2 (Nat.not_lt_zero _)) ⟨.bl xs.isEmpty, H, I, ?_, k⟩
    cases xs with
    | nil => cases r; rfl
    | cons a b =>
      cases its with
      | nil => cases r
      | cons c d =>
        show Value.bool _ = Value.bool false
        congr 1
/-- + of tuples, the left one not empty: some tuple of both -/
def rCatA1 (K : PySem.W.Frag) : V → V → Hp → VK → Prop := fun x y H Q => ∃ a b xs ys, x = .ref a ∧ y = .ref b ∧ SqT K H a xs ∧ H a = some (.tup xs) ∧ SqT K H b ys ∧ xs.length + ys.length ≤ sizeLine ∧ xs ≠ [] ∧
  ∀ p H', (∀ b o, H b = some o → H' b = some o) → H' p = some (.tup (xs ++ ys)) → Q (.ref p) H'
theorem op_catA1 : OpR X (binaryOp .Add) (rCatA1 X.K) := by
  intro pins s σ H x y v u Q I rx ry h
  obtain ⟨a, b, xs, ys, rfl, rfl, h1, h1', h2, hz, hne, q⟩ := h
  refine op_catA pins s σ H _ _ v u Q I rx ry ⟨a, b, xs, ys, rfl, rfl, h1, h2, hz, fun e => absurd e hne, fun _ e => ?_, fun _ _ p hp => ?_⟩
  · subst e
    exact q a H (fun _ _ h => h) (by rw [List.append_nil]; exact h1')
  · exact q p _ (fun b o e => by rw [upd_ne (ne_of_none e hp)]; exact e) upd_same
theorem call_repr_bool : CallR X (.builtin "repr") (fun xs H Q => ∃ b, xs = [.bl b] ∧ Q (.str (if b then "True" else "False")) H) := by
  intro pins s σ H xs us Q I r h
  obtain ⟨b, rfl, q⟩ := h
  obtain ⟨u, rfl, rfl⟩ := vals1 r
  exact PySem.P.repr_of_bool ⟨.str _, H, I.tok _, ⟨_, rfl⟩, q⟩
end

/-- a thing and its built-in kind -/
inductive Kd (H : Hp) : V → String → Prop where
  | non : Kd H .non "NoneType"
  | bl (b : Bool) : Kd H (.bl b) "bool"
  | int (i : Int) : Kd H (.int i) "int"
  | str (z : Str) (h : z.length ≤ 1000) : Kd H (.str z) "str"
  | lst {a : Addr} {xs : List V} (e : H a = some (.lst xs)) : Kd H (.ref a) "list"
  | tup {a : Addr} {xs : List V} (e : H a = some (.tup xs)) : Kd H (.ref a) "tuple"
  | dK {a : Addr} {kvs : List (Key × V)} (e : H a = some (.dK kvs)) : Kd H (.ref a) "dict"
theorem Kd.ty {K : PySem.W.Frag} {H : Hp} {v : V} {n : String} (h : Kd H v n) : TyX K H v (.type n) := by
  cases h with
  | non => exact .base .non
  | bl b => exact .base (.bl b)
  | int i => exact .base (.int i)
  | str z h => exact .base (.str z)
  | lst e => exact .base (.lst e)
  | tup e => exact .base (.tup e)
  | dK e => exact .base (.dK e)
theorem Kd.same {H H' : Hp} {v : V} {n : String} (h : Kd H v n) (s : Same H H') : Kd H' v n := by
  cases h with
  | non => exact .non
  | bl b => exact .bl b
  | int i => exact .int i
  | str z h => exact .str z h
  | lst e => exact .lst (s _ _ e)
  | tup e => exact .tup (s _ _ e)
  | dK e => exact .dK (s _ _ e)
theorem _root_.L2.Same.new {H : Hp} {a : Addr} {o : HO} (h : H a = none) : Same H (upd H a o) := fun b u e => by
  rw [upd_ne (ne_of_none e h)]
  exact e
theorem _root_.L2.Same.seqT {K : PySem.W.Frag} {H H' : Hp} {a : Addr} {xs : List V} (e : Same H H') (h : SqT K H a xs) : SqT K H' a xs := by
  rcases h with (h | ⟨o, h⟩) | h
  · exact .inl (.inl (e _ _ h))
  · exact .inl (.inr ⟨o, e _ _ h⟩)
  · exact .inr h
/-- a written tuple -/
def isTupV (oc : Value) (d : PySem.Data) (xs : List V) : Bool := match oc, d with
  | .type n, .seq its _ => (n == "tuple") && decide (its.size ≤ 1000) && decide (its.toList.map absV = xs.map some)
  | _, _ => false
theorem vals_of_abs : ∀ {xs : List V} {us : List Value}, us.map absV = xs.map some → Vals xs us
  | [], [], _ => .nil
  | [], _ :: _, h => by cases h
  | _ :: _, [], h => by cases h
  | x :: xs, u :: us, h => by
    rw [List.map_cons, List.map_cons] at h
    injection h with h1 h2
    refine .cons ?_ (vals_of_abs h2)
    cases u <;> simp only [absV, Option.some.injEq, reduceCtorEq] at h1 <;> subst h1 <;> first | rfl | exact ⟨_, rfl⟩
theorem sqT_written {K : PySem.W.Frag} {H : Hp} {a : Addr} {oc : Value} {od : Option Addr} {d : PySem.Data} {sl : Array (Option Value)} {xs : List V} (l : K.lookup a = some ⟨oc, od, d, sl⟩) (h : isTupV oc d xs = true) : SqT K H a xs := by
  unfold isTupV at h
  split at h
  · simp only [Bool.and_eq_true, beq_iff_eq, decide_eq_true_eq] at h
    obtain ⟨⟨h1, h2⟩, h3⟩ := h
    subst h1
    exact .inr ⟨_, _, _, l, rfl, rfl, Nat.le_trans h2 (by decide), vals_of_abs h3⟩
  · cases h

abbrev sCount : Stmt := top 3
abbrev sName : Stmt := top 4
abbrev sRow : Stmt := top 8
abbrev sNeed : Stmt := top 9
def letters : Str := "abcdefghijklmnopqrstuvwxyz"
def nameOk (z : Str) : Bool := if 1 ≤ z.length ∧ z.length ≤ 8 then z.cps.toList.all (fun c => decide (c ∈ letters.cps.toList)) else false
def isName : V → Bool
  | .str z => nameOk z
  | _ => false
def isCount : V → Bool
  | .int i => decide (0 ≤ i)
  | _ => false
def needed (z : Str) : Nat := if z = "set" then 2 else if z = "rest" then 0 else 1
structure MTxt (K : PySem.W.Frag) (mg : Str → Option Value) : Prop where
  isi : mg "isinstance" = none
  int : mg "int" = none
  bool : mg "bool" = none
  str : mg "str" = none
  tup : mg "tuple" = none
  len : mg "len" = none
  all : mg "all" = none
  letters : ∃ t, mg "LETTERS" = some (.str letters t)
  longest : ∃ t, mg "LONGEST_NAME" = some (.int 8 t)
  goals : ∃ t, mg "MOST_GOALS" = some (.int 4 t)

def spCount : Sp := fun vs H Q _ => ∃ (v : V) (n : String), vs = [v] ∧ Kd H v n ∧ Q (.bl (isCount v)) H
def spName : Sp := fun vs H Q _ => ∃ (v : V) (n : String), vs = [v] ∧ Kd H v n ∧ ∀ H', Same H H' → Q (.bl (isName v)) H'
def spNeed : Sp := fun vs H Q _ => ∃ (z : Str), vs = [.str z] ∧ Q (.int (needed z)) H

section
variable {P : Program} {w : World} {K : PySem.W.Frag} {mg : Str → Option Value} {base : Heap}
theorem scCount : FnScope ["value"] ["value"] (defScope sCount) := ⟨rfl, rfl, rfl, by decide +kernel, rfl, by decide +kernel, by decide +kernel⟩
theorem ok_count {f : Addr} {fd : FuncData} (F : Fun K "is_count" "is_count" sCount f fd) (T : MTxt K mg) : FnOk P w K mg base CX0 1 f fd ["value"] spCount := by
  refine F.ok scCount (fun vs H Q E h => ?_) (fun cdv A outer s H vs Q E hr h => ?_)
  · obtain ⟨v, n, rfl, _⟩ := h
    rfl
  · obtain ⟨v, n, rfl, hk, k⟩ := h
    refine ⟨_, pss_one (ps_ret (pe_and (pe_callB call_isi (by rfl) T.isi (by decide +kernel) (pa_cons (pv 0) (pa_cons (pe_bltn (v := .ty "int") (by rfl) T.int (by decide +kernel) rfl) pa_nil)))
      (pe_and (pe_not (pe_callB call_isi (by rfl) T.isi (by decide +kernel) (pa_cons (pv 0) (pa_cons (pe_bltn (v := .ty "bool") (by rfl) T.bool (by decide +kernel) rfl) pa_nil)))) (pe_one (pe_cmpR op_ge (pv 0) pe_int (nomark _)))))), ?_⟩
    have ty : TyX K H v (.type n) := hk.ty
    cases hk with
    | int i => exact ⟨_, rfl, _, _, _, _, true, rfl, .ty _, ty, kit_ty (by decide +kernel), _, rfl, iteT ⟨_, rfl, _, _, _, _, false, rfl, .ty _, ty, kit_ty (by decide +kernel), _, rfl, _, rfl, iteT ⟨_, rfl, _, _, rfl, rfl, k⟩⟩⟩
    | bl b => exact ⟨_, rfl, _, _, _, _, true, rfl, .ty _, ty, kit_ty (by decide +kernel), _, rfl, iteT ⟨_, rfl, _, _, _, _, true, rfl, .ty _, ty, kit_ty (by decide +kernel), _, rfl, _, rfl, iteF k⟩⟩
    | non => exact ⟨_, rfl, _, _, _, _, false, rfl, .ty _, ty, kit_ty (by decide +kernel), _, rfl, iteF k⟩
    | str z hz => exact ⟨_, rfl, _, _, _, _, false, rfl, .ty _, ty, kit_ty (by decide +kernel), _, rfl, iteF k⟩
    | lst e => exact ⟨_, rfl, _, _, _, _, false, rfl, .ty _, ty, kit_ty (by decide +kernel), _, rfl, iteF k⟩
    | tup e => exact ⟨_, rfl, _, _, _, _, false, rfl, .ty _, ty, kit_ty (by decide +kernel), _, rfl, iteF k⟩
    | dK e => exact ⟨_, rfl, _, _, _, _, false, rfl, .ty _, ty, kit_ty (by decide +kernel), _, rfl, iteF k⟩

theorem scName : FnScope ["value", "letter"] ["value"] (defScope sName) := ⟨rfl, rfl, rfl, by decide +kernel, rfl, by decide +kernel, by decide +kernel⟩
theorem ok_name {f : Addr} {fd : FuncData} (F : Fun K "is_name" "is_name" sName f fd) (T : MTxt K mg) : FnOk P w K mg base CX0 1 f fd ["value"] spName := by
  refine F.ok scName (fun vs H Q E h => ?_) (fun cdv A outer s H vs Q E hr h => ?_)
  · obtain ⟨v, n, rfl, _⟩ := h
    rfl
  · obtain ⟨v, n, rfl, hk, k⟩ := h
    obtain ⟨tl, hL⟩ := T.letters
    obtain ⟨tg, hG⟩ := T.longest
    refine ⟨_, pss_cons (ps_if (PW.pt (pw_or (pt_not (pt_val (pe_callB call_isi (by rfl) T.isi (by decide +kernel) (pa_cons (pv 0) (pa_cons (pe_bltn (v := .ty "str") (by rfl) T.str (by decide +kernel) rfl) pa_nil)))))
        (pw_or1 (pt_not (pt_chain op_le op_le pe_int (pe_callB call_len_str (by rfl) T.len PySem.boot_len (pa_cons (pv 0) pa_nil)) (pe_glob (v := .int 8) rfl hG ⟨_, rfl⟩))))))
        (pss_one (ps_ret pe_bl)) pss_nil)
      (pss_one (ps_ret (pe_callB (cr_all rfl) (by rfl) T.all (by decide +kernel) (pa_cons (pe_lc (own := [("letter", 1)]) (g := gName 1) (by rfl) scName.nd (pi_str (pv 0)) (blkOk_by (own := [("letter", 1)]) (N := ["value", "letter"]) (sc := defScope sName) (by decide +kernel))
        (fun _ _ _ _ _ => pg_name (i := 1) scName.nd rfl (Or.inl rfl)) (fun _ _ _ _ _ => pts_nil)
        (fun _ _ _ _ _ => pe_cmpR op_in_sign (pv 1) (pe_glob (v := .str letters) rfl hL ⟨_, rfl⟩) (by rfl))) pa_nil)))), ?_⟩
    have ty : TyX K H v (.type n) := hk.ty
    cases hk with
    | str z hz =>
      refine ⟨_, rfl, _, _, _, _, true, rfl, .ty _, ty, kit_ty (by decide +kernel), _, rfl, ?_⟩
      refine iteF ⟨_, rfl, _, rfl, Nat.le_trans hz (by decide), _, _, rfl, rfl, _, rfl, ite2 (fun h1 => ?_) (fun h1 => ?_)⟩
      · refine ⟨_, _, rfl, rfl, _, rfl, ?_⟩
        have g1 : 1 ≤ z.length := by
          have := of_decide_eq_true h1
          omega
        refine ite2 (fun h2 => ?_) (fun h2 => ?_)
        · have g2 : ¬ z.length ≤ 8 := fun q => by
            rw [decide_eq_true (show ((z.length : Nat) : Int) ≤ 8 by omega)] at h2
            cases h2
          have e : isName (.str z) = false := by
            show nameOk z = false
            unfold nameOk
            rw [if_neg (fun q => g2 q.2)]
          rw [e] at k
          exact k _ (Same.refl _)
        · have g2 : z.length ≤ 8 := by
            by_cases q : z.length ≤ 8
            · exact q
            · rw [decide_eq_false (show ¬ ((z.length : Nat) : Int) ≤ 8 by omega)] at h2
              exact absurd rfl h2
          refine ⟨_, rfl, _, rfl, fun D hD => lc_it walk_str (fun i H' => H' = upd H D (.lst (((z.cps.toList.take i).map fun c => decide (c ∈ letters.cps.toList)).map V.bl)))
            rfl (fun _ _ _ _ => True.intro) ?_ ?_⟩
          · rintro i x H' H'' hi rfl ⟨rfl, c, hc, rfl⟩
            refine ⟨rfl, _, rfl, c, letters, rfl, rfl, _, upd_same, ?_, ?_⟩
            · rw [List.length_map, List.length_map, List.length_take]
              exact Nat.lt_of_le_of_lt (Nat.le_trans (Nat.min_le_right _ _) (show z.cps.toList.length ≤ 1000 from hz)) (by decide)
            · have hc2 : z.cps.toList[i]? = some c := by simpa using hc
              rw [upd_upd, List.take_add_one, hc2, List.map_append, List.map_append]
              rfl
          · rintro H' rfl
            refine ⟨_, _, rfl, .inl (.inl upd_same), ?_⟩
            have e : isName (.str z) = (((z.cps.toList.take z.cps.size).map fun c => decide (c ∈ letters.cps.toList)).all id) := by
              show nameOk z = _
              unfold nameOk
              rw [if_pos ⟨g1, g2⟩, List.take_of_length_le (by simp), List.all_map]
              rfl
            rw [← e]
            exact k _ (Same.new hD)
      · have g1 : ¬ 1 ≤ z.length := fun q => h1 (decide_eq_true (by omega))
        have e : isName (.str z) = false := by
          show nameOk z = false
          unfold nameOk
          rw [if_neg (fun q => g1 q.1)]
        rw [e] at k
        exact ⟨_, rfl, iteT (k _ (Same.refl _))⟩
    | int i => exact ⟨_, rfl, _, _, _, _, false, rfl, .ty _, ty, kit_ty (by decide +kernel), _, rfl, iteT (iteT (k _ (Same.refl _)))⟩
    | bl b => exact ⟨_, rfl, _, _, _, _, false, rfl, .ty _, ty, kit_ty (by decide +kernel), _, rfl, iteT (iteT (k _ (Same.refl _)))⟩
    | non => exact ⟨_, rfl, _, _, _, _, false, rfl, .ty _, ty, kit_ty (by decide +kernel), _, rfl, iteT (iteT (k _ (Same.refl _)))⟩
    | lst e => exact ⟨_, rfl, _, _, _, _, false, rfl, .ty _, ty, kit_ty (by decide +kernel), _, rfl, iteT (iteT (k _ (Same.refl _)))⟩
    | tup e => exact ⟨_, rfl, _, _, _, _, false, rfl, .ty _, ty, kit_ty (by decide +kernel), _, rfl, iteT (iteT (k _ (Same.refl _)))⟩
    | dK e => exact ⟨_, rfl, _, _, _, _, false, rfl, .ty _, ty, kit_ty (by decide +kernel), _, rfl, iteT (iteT (k _ (Same.refl _)))⟩

theorem scNeed : FnScope ["word"] ["word"] (defScope sNeed) := ⟨rfl, rfl, rfl, by decide +kernel, rfl, by decide +kernel, by decide +kernel⟩
theorem ok_need {f : Addr} {fd : FuncData} (F : Fun K "_names_needed" "_names_needed" sNeed f fd) (T : MTxt K mg) : FnOk P w K mg base CX0 1 f fd ["word"] spNeed := by
  refine F.ok scNeed (fun vs H Q E h => ?_) (fun cdv A outer s H vs Q E hr h => ?_)
  · obtain ⟨z, rfl, _⟩ := h
    rfl
  · obtain ⟨z, rfl, k⟩ := h
    refine ⟨_, pss_cons (ps_if (pt_cmpR op_eq (pv 0) pe_str (nomark _)) (pss_one (ps_ret pe_int)) pss_nil) (pss_one (ps_ret (pe_ifExp (pt_cmpR op_eq (pv 0) pe_str (nomark _)) pe_int pe_int))), ?_⟩
    have e : needed z = if z = "set" then 2 else if z = "rest" then 0 else 1 := rfl
    refine ⟨_, rfl, rfl, _, rfl, ite2 (fun h1 => ?_) (fun h1 => ?_)⟩
    · have g : z = "set" := by
        have := of_decide_eq_true h1
        injection this
      rw [e, if_pos g] at k
      exact k
    · have g : ¬ z = "set" := fun q => h1 (decide_eq_true (by rw [q]))
      rw [e, if_neg g] at k
      refine ⟨_, rfl, rfl, _, rfl, ite2 (fun h2 => ?_) (fun h2 => ?_)⟩
      · have g : z = "rest" := by
          have := of_decide_eq_true h2
          injection this
        rw [if_pos g] at k
        exact k
      · have g : ¬ z = "rest" := fun q => h2 (decide_eq_true (by rw [q]))
        rw [if_neg g] at k
        exact k
end
def wordsL : List Str := ["open", "close", "renew", "use", "set", "drop", "lock", "unlock", "go", "rest"]
def rowS (z : Str) (r : List V) : Bool := if z ∈ wordsL then (if z = "go" then (if 1 ≤ r.length ∧ r.length ≤ 4 then r.all isCount else false) else if r.length = needed z then r.all isName else false) else false
def rowL : List V → Bool
  | .str z :: r => rowS z r
  | _ => false
/-- a thing that is asked whether it is a row -/
def RowV (H : Hp) (v : V) : Prop := (∃ n, Kd H v n ∧ n ≠ "tuple") ∨ ∃ a xs, v = .ref a ∧ H a = some (.tup xs) ∧ xs.length ≤ 1000 ∧ ∀ x ∈ xs, ∃ n, Kd H x n
def rowOf (H : Hp) : V → Bool
  | .ref a => match H a with
    | some (.tup xs) => rowL xs
    | _ => false
  | _ => false
theorem RowV.same {H H' : Hp} {v : V} (h : RowV H v) (s : Same H H') : RowV H' v := by
  rcases h with ⟨n, k, e⟩ | ⟨a, xs, rfl, e, hl, hx⟩
  · exact .inl ⟨n, k.same s, e⟩
  · refine .inr ⟨a, xs, rfl, s _ _ e, hl, fun x m => ?_⟩
    obtain ⟨n, k⟩ := hx x m
    exact ⟨n, k.same s⟩
theorem rowOf_tup {H : Hp} {a : Addr} {xs : List V} (e : H a = some (.tup xs)) : rowOf H (.ref a) = rowL xs := by
  simp only [rowOf, e]
theorem rowOf_no {H : Hp} {v : V} {n : String} (k : Kd H v n) (e : n ≠ "tuple") : rowOf H v = false := by
  cases k with
  | lst h => simp only [rowOf, h]
  | dK h => simp only [rowOf, h]
  | tup h => exact absurd rfl e
  | _ => rfl
def spRow : Sp := fun vs H Q _ => ∃ v, vs = [v] ∧ RowV H v ∧ ∀ H', Same H H' → Q (.bl (rowOf H v)) H'
theorem inV_strs (z : Str) : ∀ ys : List Str, inV (.str z) (ys.map V.str) = decide (z ∈ ys)
  | [] => by simp [inV]
  | y :: ys => by
    have ih := inV_strs z ys
    unfold inV at ih ⊢
    rw [List.map_cons, List.any_cons, ih]
    show ((y == z) || decide (z ∈ ys)) = decide (z ∈ y :: ys)
    by_cases e : y = z
    · subst e
      simp
    · have e2 : ¬ z = y := fun q => e q.symm
      simp [e, e2]
theorem flat_strs : ∀ ys : List Str, (ys.map V.str).all flatV = true
  | [] => rfl
  | y :: ys => by
    rw [List.map_cons, List.all_cons, flat_strs ys]
    rfl
theorem at0 {α : Type} (x : α) (r : List α) : atI (x :: r) 0 = some x := atI_nat (j := 0) rfl
theorem cut1 (x : V) (r : List V) : cutV (x :: r) (some 1) none = r := by
  unfold cutV
  rw [show HT.sIx (x :: r).length 0 (some 1) = 1 from by
    show min 1 (r.length + 1) = 1
    omega]
  show List.take (r.length + 1 - 1) r = r
  rw [Nat.add_sub_cancel, List.take_length]
theorem cut1_not (x : V) (r : List V) : ¬ (HT.sIx (x :: r).length 0 (some 1) = 0 ∧ HT.sIx (x :: r).length (x :: r).length none = (x :: r).length) := fun q => by
  have h := q.1
  have e : HT.sIx (x :: r).length 0 (some 1) = 1 := by
    show min 1 (r.length + 1) = 1
    omega
  rw [e] at h
  cases h

section
variable {P : Program} {w : World} {K : PySem.W.Frag} {mg : Str → Option Value} {base : Heap}
theorem scRow : FnScope ["value", "word", "goal", "name"] ["value"] (defScope sRow) := ⟨rfl, rfl, rfl, by decide +kernel, rfl, by decide +kernel, by decide +kernel⟩
theorem ok_row {f fC fN fD aW : Addr} {fd fdC fdN fdD : FuncData} (F : Fun K "is_row" "is_row" sRow f fd) (T : MTxt K mg) (hW : mg "WORDS" = some (.ref aW)) (sW : ∀ H, SqT K H aW (wordsL.map V.str))
    (FC : Fun K "is_count" "is_count" sCount fC fdC) (bC : Binds K fdC ["value"] []) (gC : mg "is_count" = some (.ref fC))
    (FN : Fun K "is_name" "is_name" sName fN fdN) (bN : Binds K fdN ["value"] []) (gN : mg "is_name" = some (.ref fN))
    (FD : Fun K "_names_needed" "_names_needed" sNeed fD fdD) (bD : Binds K fdD ["word"] []) (gD : mg "_names_needed" = some (.ref fD)) : FnOk P w K mg base CX0 2 f fd ["value"] spRow := by
  have GC : FnOk P w K mg base CX0 1 fC fdC ["value"] spCount := ok_count FC T
  have GN : FnOk P w K mg base CX0 1 fN fdN ["value"] spName := ok_name FN T
  have GD : FnOk P w K mg base CX0 1 fD fdD ["word"] spNeed := ok_need FD T
  refine F.ok scRow (fun vs H Q E h => ?_) (fun cdv A outer s H vs Q E hr h => ?_)
  · obtain ⟨v, rfl, _⟩ := h
    rfl
  · obtain ⟨v, rfl, hv, k⟩ := h
    obtain ⟨tg, hG⟩ := T.goals
    refine ⟨_, pss_cons (ps_if (PW.pt (pw_or (pt_not (pt_val (pe_callB call_isi (by rfl) T.isi (by decide +kernel) (pa_cons (pv 0) (pa_cons (pe_bltn (v := .ty "tuple") (by rfl) T.tup (by decide +kernel) rfl) pa_nil)))))
        (pw_or1 (pt_cmpR op_eq (pe_callB call_len_seq (by rfl) T.len PySem.boot_len (pa_cons (pv 0) pa_nil)) pe_int (nomark _)))))
        (pss_one (ps_ret pe_bl)) pss_nil)
      (pss_cons (ps_set (i := 1) scRow.nd rfl (.inl rfl) (pe_ix ix_tup (pv 0) pe_int (fun _ _ => rfl)))
      (pss_cons (ps_if (PW.pt (pw_or (pt_not (pt_val (pe_callB call_isi (by rfl) T.isi (by decide +kernel) (pa_cons (pv 1) (pa_cons (pe_bltn (v := .ty "str") (by rfl) T.str (by decide +kernel) rfl) pa_nil)))))
        (pw_or1 (pt_cmpR op_notIn_seq (pv 1) (pe_glob (v := .ref aW) rfl hW rfl) (by rfl)))))
        (pss_one (ps_ret pe_bl)) pss_nil)
      (pss_cons (ps_if (pt_cmpR op_eq (pv 1) pe_str (nomark _))
        (pss_one (ps_ret (pe_and (pe_chain op_le op_le pe_int (pe_op op_sub (pe_callB call_len_seq (by rfl) T.len PySem.boot_len (pa_cons (pv 0) pa_nil)) pe_int) (pe_glob (v := .int 4) rfl hG ⟨_, rfl⟩))
          (pe_one (pe_callB (cr_all rfl) (by rfl) T.all (by decide +kernel) (pa_cons (pe_lc (own := [("goal", 2)]) (g := gName 2) (by rfl) scRow.nd (pi_tup (pe_slice sl_tup (pv 0) (po_some pe_int) po_none)) (blkOk_by (own := [("goal", 2)]) (N := ["value", "word", "goal", "name"]) (sc := defScope sRow) (by decide +kernel))
            (fun _ _ _ _ _ => pg_name (i := 2) scRow.nd rfl (Or.inl rfl)) (fun _ _ _ _ _ => pts_nil)
            (fun _ _ _ _ _ => pe_call GC hr rfl gC FC.kp bC .nil pass0 (pa_cons (pv 2) pa_nil))) pa_nil)))))) pss_nil)
      (pss_one (ps_ret (pe_and (pe_cmpR op_eq (pe_op op_sub (pe_callB call_len_seq (by rfl) T.len PySem.boot_len (pa_cons (pv 0) pa_nil)) pe_int) (pe_call GD hr rfl gD FD.kp bD .nil pass0 (pa_cons (pv 1) pa_nil)) (nomark _))
          (pe_one (pe_callB (cr_all rfl) (by rfl) T.all (by decide +kernel) (pa_cons (pe_lc (own := [("name", 3)]) (g := gName 3) (by rfl) scRow.nd (pi_tup (pe_slice sl_tup (pv 0) (po_some pe_int) po_none)) (blkOk_by (own := [("name", 3)]) (N := ["value", "word", "goal", "name"]) (sc := defScope sRow) (by decide +kernel))
            (fun _ _ _ _ _ => pg_name (i := 3) scRow.nd rfl (Or.inl rfl)) (fun _ _ _ _ _ => pts_nil)
            (fun _ _ _ _ _ => pe_call GN hr rfl gN FN.kp bN .nil pass0 (pa_cons (pv 3) pa_nil))) pa_nil))))))))), ?_⟩
    rcases hv with ⟨n, kd, ne⟩ | ⟨a, xs, rfl, ha, hl, hx⟩
    · rw [rowOf_no kd ne] at k
      refine ⟨_, rfl, _, _, _, _, false, rfl, .ty _, kd.ty, kit_ty ?_, _, rfl, iteT (iteT (k _ (Same.refl _)))⟩
      cases kd <;> first | decide +kernel | exact absurd rfl ne
    · rw [rowOf_tup ha] at k
      have sa : SqT K H a xs := .inl (.inl ha)
      refine ⟨_, rfl, _, _, _, _, true, rfl, .ty _, (Kd.tup ha).ty, kit_ty (by decide +kernel), _, rfl, iteF ⟨_, rfl, a, _, rfl, .inr sa, rfl, _, rfl, ite2 (fun h0 => ?_) (fun h0 => ?_)⟩⟩
      · have e : xs = [] := by
          have := of_decide_eq_true h0
          injection this with this
          exact List.eq_nil_of_length_eq_zero (by omega)
        subst e
        exact k _ (Same.refl _)
      · cases xs with
        | nil => exact absurd (decide_eq_true rfl) h0
        | cons x r =>
          refine ⟨_, rfl, a, _, 0, x, rfl, rfl, sa, at0 _ _, ?_⟩
          obtain ⟨n, kx⟩ := hx x (List.mem_cons_self ..)
          have kr : ∀ y ∈ r, ∃ n, Kd H y n := fun y m => hx y (List.mem_cons_of_mem _ m)
          have hlr : r.length ≤ 999 := by
            have : (x :: r).length = r.length + 1 := rfl
            omega
          have tx : TyX K H x (.type n) := kx.ty
          cases kx with
          | str z hz =>
            refine ⟨_, rfl, _, _, _, _, true, rfl, .ty _, tx, kit_ty (by decide +kernel), _, rfl, iteF ⟨_, rfl, aW, _, rfl, .inr (sW _), rfl, flat_strs _, _, rfl, ?_⟩⟩
            rw [inV_strs]
            refine ite2 (fun hm => ?_) (fun hm => ?_)
            · have hn : ¬ z ∈ wordsL := fun q => by
                rw [decide_eq_true q] at hm
                cases hm
              have e : rowL (.str z :: r) = false := by
                show rowS z r = false
                unfold rowS
                rw [if_neg hn]
              rw [e] at k
              exact k _ (Same.refl _)
            · have hn : z ∈ wordsL := by
                by_cases q : z ∈ wordsL
                · exact q
                · rw [decide_eq_false q] at hm
                  exact absurd rfl hm
              have et : rowL (.str z :: r) = (if z = "go" then (if 1 ≤ r.length ∧ r.length ≤ 4 then r.all isCount else false) else if r.length = needed z then r.all isName else false) := by
                show rowS z r = _
                unfold rowS
                rw [if_pos hn]
              rw [et] at k
              have elen : (((V.str z :: r).length : Nat) : Int) - 1 = (r.length : Int) := by
                show (((r.length + 1 : Nat)) : Int) - 1 = _
                omega
              refine ⟨_, rfl, rfl, _, rfl, ite2 (fun hg => ?_) (fun hg => ?_)⟩
              · have g : z = "go" := by
                  have := of_decide_eq_true hg
                  injection this
                rw [if_pos g] at k
                refine ⟨_, rfl, a, _, rfl, .inr sa, _, _, rfl, rfl, _, _, rfl, rfl, _, rfl, ?_⟩
                rw [elen]
                refine ite2 (fun h1 => ?_) (fun h1 => ?_)
                · have g1 : 1 ≤ r.length := by
                    have := of_decide_eq_true h1
                    omega
                  refine ⟨_, _, rfl, rfl, _, rfl, ite2 (fun h2 => ?_) (fun h2 => ?_)⟩
                  · have g2 : r.length ≤ 4 := by
                      have := of_decide_eq_true h2
                      omega
                    rw [if_pos ⟨g1, g2⟩] at k
                    refine ⟨_, rfl, _, rfl, a, _, rfl, sa, cut1_not _ _, fun p hp => ?_⟩
                    rw [cut1]
                    have s1 : Same H (upd H p (.tup r)) := Same.new hp
                    have sr : SqT K (upd H p (.tup r)) p r := .inl (.inl upd_same)
                    refine ⟨p, rfl, ⟨_, sr⟩, fun D hD => lc_it walk_tup (fun i H' => H' = upd (upd H p (.tup r)) D (.lst (((r.take i).map isCount).map V.bl)))
                      rfl (fun i H' _ e => by rw [e]; exact .inl (.inl ((Same.new hD) _ _ upd_same))) ?_ ?_⟩
                    · rintro i y H' H'' hi rfl ⟨rfl, hy⟩
                      obtain ⟨m, ky⟩ := kr y (List.mem_of_getElem? hy)
                      refine ⟨rfl, _, rfl, y, m, rfl, (ky.same s1).same (Same.new hD), _, upd_same, ?_, ?_⟩
                      · rw [List.length_map, List.length_map, List.length_take]
                        exact Nat.lt_of_le_of_lt (Nat.le_trans (Nat.min_le_right _ _) hlr) (by decide)
                      · rw [upd_upd, List.take_add_one, hy, List.map_append, List.map_append]
                        rfl
                    · rintro H' rfl
                      refine ⟨_, _, rfl, .inl (.inl upd_same), ?_⟩
                      have e : r.all isCount = (((r.take r.length).map isCount).all id) := by
                        rw [List.take_length, List.all_map]
                        rfl
                      rw [← e]
                      exact k _ (s1.trans (Same.new hD))
                  · have g2 : ¬ r.length ≤ 4 := fun q => h2 (decide_eq_true (by omega))
                    rw [if_neg (fun q => g2 q.2)] at k
                    exact k _ (Same.refl _)
                · have g1 : ¬ 1 ≤ r.length := fun q => h1 (decide_eq_true (by omega))
                  rw [if_neg (fun q => g1 q.1)] at k
                  exact ⟨_, rfl, k _ (Same.refl _)⟩
              · have g : ¬ z = "go" := fun q => hg (decide_eq_true (by rw [q]))
                rw [if_neg g] at k
                refine ⟨_, rfl, a, _, rfl, .inr sa, _, _, rfl, rfl, _, rfl, z, rfl, rfl, _, rfl, ?_⟩
                show if decide (V.int ((((V.str z :: r).length : Nat) : Int) - 1) = V.int (needed z)) = true then _ else _
                rw [elen]
                refine ite2 (fun h1 => ?_) (fun h1 => ?_)
                · have g1 : r.length = needed z := by
                    have := of_decide_eq_true h1
                    injection this with this
                    omega
                  rw [if_pos g1] at k
                  refine ⟨_, rfl, _, rfl, a, _, rfl, sa, cut1_not _ _, fun p hp => ?_⟩
                  rw [cut1]
                  have s1 : Same H (upd H p (.tup r)) := Same.new hp
                  have sr : SqT K (upd H p (.tup r)) p r := .inl (.inl upd_same)
                  refine ⟨p, rfl, ⟨_, sr⟩, fun D hD => lc_it walk_tup (fun i H' => Same (upd H p (.tup r)) H' ∧ H' D = some (.lst (((r.take i).map isName).map V.bl)))
                    ⟨Same.new hD, upd_same⟩ (fun i H' _ e => e.1.seqT sr) ?_ ?_⟩
                  · rintro i y H' H'' hi ⟨s2, hD2⟩ ⟨rfl, hy⟩
                    obtain ⟨m, ky⟩ := kr y (List.mem_of_getElem? hy)
                    refine ⟨rfl, _, rfl, y, m, rfl, (ky.same s1).same s2, fun H3 s3 => ⟨_, s3 _ _ hD2, ?_, ?_⟩⟩
                    · rw [List.length_map, List.length_map, List.length_take]
                      exact Nat.lt_of_le_of_lt (Nat.le_trans (Nat.min_le_right _ _) hlr) (by decide)
                    · refine ⟨fun b o e => ?_, ?_⟩
                      · rw [upd_ne (ne_of_none e hD)]
                        exact s3 _ _ (s2 _ _ e)
                      · rw [upd_same, List.take_add_one, hy, List.map_append, List.map_append]
                        rfl
                  · rintro H' ⟨s2, hD2⟩
                    refine ⟨_, _, rfl, .inl (.inl hD2), ?_⟩
                    have e : r.all isName = (((r.take r.length).map isName).all id) := by
                      rw [List.take_length, List.all_map]
                      rfl
                    rw [← e]
                    exact k _ (s1.trans s2)
                · have g1 : ¬ r.length = needed z := fun q => h1 (decide_eq_true (by rw [q]))
                  rw [if_neg g1] at k
                  exact k _ (Same.refl _)
          | int i => exact ⟨_, rfl, _, _, _, _, false, rfl, .ty _, tx, kit_ty (by decide +kernel), _, rfl, iteT (iteT (k _ (Same.refl _)))⟩
          | bl b => exact ⟨_, rfl, _, _, _, _, false, rfl, .ty _, tx, kit_ty (by decide +kernel), _, rfl, iteT (iteT (k _ (Same.refl _)))⟩
          | non => exact ⟨_, rfl, _, _, _, _, false, rfl, .ty _, tx, kit_ty (by decide +kernel), _, rfl, iteT (iteT (k _ (Same.refl _)))⟩
          | lst e => exact ⟨_, rfl, _, _, _, _, false, rfl, .ty _, tx, kit_ty (by decide +kernel), _, rfl, iteT (iteT (k _ (Same.refl _)))⟩
          | tup e => exact ⟨_, rfl, _, _, _, _, false, rfl, .ty _, tx, kit_ty (by decide +kernel), _, rfl, iteT (iteT (k _ (Same.refl _)))⟩
          | dK e => exact ⟨_, rfl, _, _, _, _, false, rfl, .ty _, tx, kit_ty (by decide +kernel), _, rfl, iteT (iteT (k _ (Same.refl _)))⟩
end
abbrev sBadNum : Stmt := top 14
abbrev sBadName : Stmt := top 15
abbrev sWordOk : Stmt := top 16
abbrev sCountOk : Stmt := top 17
abbrev sRowOk : Stmt := top 18
/-- something of a built-in kind, and the pool a step on -/
def spSome : Sp := fun vs H Q _ => ∃ (p q : Addr), vs = [.ref p] ∧ PoolAt H p q ∧ ∀ H' v n, But p q H H' → PoolAt H' p q → Kd H' v n → Q v H'
def KdL (H : Hp) (xs : List V) : Prop := ∀ x ∈ xs, ∃ n, Kd H x n
theorem kdl_nil {H : Hp} : KdL H [] := fun _ h => nomatch h
theorem kdl_cons {H : Hp} {x : V} {n : String} {xs : List V} (k : Kd H x n) (r : KdL H xs) : KdL H (x :: xs) := fun y m => by
  rcases List.mem_cons.mp m with h | h
  · subst h
    exact ⟨n, k⟩
  · exact r y h
theorem kdl_app {H : Hp} {xs ys : List V} (a : KdL H xs) (b : KdL H ys) : KdL H (xs ++ ys) := fun y m => by
  rcases List.mem_append.mp m with h | h
  · exact a y h
  · exact b y h
theorem KdL.same {H H' : Hp} {xs : List V} (h : KdL H xs) (s : Same H H') : KdL H' xs := fun x m => by
  obtain ⟨n, k⟩ := h x m
  exact ⟨n, k.same s⟩
theorem at_ex {α : Type} {xs : List α} {r : Int} (h0 : 0 ≤ r) (h1 : r < (xs.length : Int)) : ∃ v, v ∈ xs ∧ atI xs r = some v := by
  obtain ⟨j, rfl⟩ : ∃ j : Nat, r = (j : Int) := ⟨r.toNat, by omega⟩
  have hj : j < xs.length := by omega
  exact ⟨xs[j], List.getElem_mem hj, atI_nat (List.getElem?_eq_getElem hj)⟩
theorem kd_at {H : Hp} {xs : List V} {r : Int} (hx : KdL H xs) (h0 : 0 ≤ r) (h1 : r < (xs.length : Int)) : ∃ v n, atI xs r = some v ∧ Kd H v n := by
  obtain ⟨v, m, e⟩ := at_ex h0 h1
  obtain ⟨n, k⟩ := hx v m
  exact ⟨v, n, e, k⟩
theorem PoolAt.ne1 {H : Hp} {p q a : Addr} (h : PoolAt H p q) (e : H a = none) : a ≠ p := by
  obtain ⟨ns, i, x, s, b, h1, h2, _⟩ := h
  exact fun z => ne_of_none h1 e z.symm
theorem PoolAt.ne2 {H : Hp} {p q a : Addr} (h : PoolAt H p q) (e : H a = none) : a ≠ q := by
  obtain ⟨ns, i, x, s, b, h1, h2, _⟩ := h
  exact fun z => ne_of_none h2 e z.symm

section
variable {P : Program} {w : World} {K : PySem.W.Frag} {mg : Str → Option Value} {base : Heap}
theorem scBadNum : FnScope ["pool"] ["pool"] (defScope sBadNum) := ⟨rfl, rfl, rfl, by decide +kernel, rfl, by decide +kernel, by decide +kernel⟩
theorem ok_badnum {f fD : Addr} {fd fdD : FuncData} (F : Fun K "_law_bad_number" "_law_bad_number" sBadNum f fd) (FD : Fun K "_law_draw" "_law_draw" sDraw fD fdD) (bD : Binds K fdD ["pool", "many"] []) (gD : mg "_law_draw" = some (.ref fD)) (GD : FnOk P w K mg base CX0 2 fD fdD ["pool", "many"] spDraw) : FnOk P w K mg base CX0 3 f fd ["pool"] spSome := by
  refine F.ok scBadNum (fun vs H Q E h => ?_) (fun cdv A outer s H vs Q E hr h => ?_)
  · obtain ⟨p, q, rfl, _⟩ := h
    rfl
  · obtain ⟨p, q, rfl, hP, k⟩ := h
    refine ⟨_, pss_one (ps_ret (pe_ix ix_list (pe_lst (pa_cons (pe_un un_neg pe_int) (pa_cons pe_non (pa_cons pe_bl (pa_cons pe_str (pa_cons (pe_tup (pa_cons pe_int pa_nil)) (pa_cons (pe_lst (pa_cons pe_int pa_nil)) (pa_cons pe_dnewK (pa_cons pe_bl (pa_cons (pe_op op_sub pe_int (pe_op op_pow pe_int pe_int)) pa_nil))))))))))
      (pe_call GD hr rfl gD FD.kp bD .nil pass0 (pa_cons (pv 0) (pa_cons pe_int pa_nil))) (fun _ _ => rfl))), ?_⟩
    refine ⟨_, rfl, (by show 1 ≤ sizeLine; decide), fun t ht => ⟨(by show 1 ≤ sizeLine; decide), fun l hl d hd => ⟨_, _, rfl, rfl, ⟨by decide, by decide, by decide⟩, _, _, rfl, rfl, (by show 9 ≤ sizeLine; decide), fun L hL => ?_⟩⟩⟩
    have s1 := Same.new (o := .tup [.int 1]) ht
    have s2 := Same.new (o := .lst [.int 1]) hl
    have s3 := Same.new (o := .dK []) hd
    have et := s3 _ _ (s2 _ _ (upd_same (H := H) (a := t) (o := .tup [.int 1])))
    have el := s3 _ _ (upd_same (H := upd H t (.tup [.int 1])) (a := l) (o := .lst [.int 1]))
    have ed := upd_same (H := upd (upd H t (.tup [.int 1])) l (.lst [.int 1])) (a := d) (o := .dK [])
    have s123 := (s1.trans s2).trans s3
    generalize upd (upd (upd H t (.tup [.int 1])) l (.lst [.int 1])) d (.dK []) = H1 at *
    have s4 := Same.new (o := .lst [.int (-1), .non, .bl true, .str "1", .ref t, .ref l, .ref d, .bl false, .int (0 - 10 ^ 30)]) hL
    have eL := upd_same (H := H1) (a := L) (o := .lst [.int (-1), .non, .bl true, .str "1", .ref t, .ref l, .ref d, .bl false, .int (0 - 10 ^ 30)])
    have nL1 := (hP.same s123).ne1 hL
    have nL2 := (hP.same s123).ne2 hL
    refine ⟨_, rfl, p, q, 9, rfl, (hP.same s123).same s4, by decide, by decide, fun H2 r b2 p2 r0 r1 => ?_⟩
    have nt : ∀ a, H a = none → a ≠ p ∧ a ≠ q := fun a h => ⟨hP.ne1 h, hP.ne2 h⟩
    have hx : KdL H2 [.int (-1), .non, .bl true, .str "1", .ref t, .ref l, .ref d, .bl false, .int (0 - 10 ^ 30)] :=
      kdl_cons (.int _) (kdl_cons .non (kdl_cons (.bl _) (kdl_cons (.str _ (by decide +kernel)) (kdl_cons (.tup (b2 _ _ (nt _ ht).1 (nt _ ht).2 (s4 _ _ et)))
        (kdl_cons (.lst (b2 _ _ (nt _ (s1.free hl)).1 (nt _ (s1.free hl)).2 (s4 _ _ el))) (kdl_cons (.dK (b2 _ _ (nt _ ((s1.trans s2).free hd)).1 (nt _ ((s1.trans s2).free hd)).2 (s4 _ _ ed))) (kdl_cons (.bl _) (kdl_cons (.int _) kdl_nil))))))))
    obtain ⟨v, n, e1, e2⟩ := kd_at hx r0 r1
    refine ⟨L, _, r, v, rfl, rfl, .inl (.inl (b2 _ _ nL1 nL2 eL)), e1, k _ _ _ ((But.of_same (s123.trans s4)).trans b2) p2 e2⟩

theorem scBadName : FnScope ["pool"] ["pool"] (defScope sBadName) := ⟨rfl, rfl, rfl, by decide +kernel, rfl, by decide +kernel, by decide +kernel⟩
theorem ok_badname {f fD : Addr} {fd fdD : FuncData} (F : Fun K "_law_bad_name" "_law_bad_name" sBadName f fd) (FD : Fun K "_law_draw" "_law_draw" sDraw fD fdD) (bD : Binds K fdD ["pool", "many"] []) (gD : mg "_law_draw" = some (.ref fD)) (GD : FnOk P w K mg base CX0 2 fD fdD ["pool", "many"] spDraw) : FnOk P w K mg base CX0 3 f fd ["pool"] spSome := by
  refine F.ok scBadName (fun vs H Q E h => ?_) (fun cdv A outer s H vs Q E hr h => ?_)
  · obtain ⟨p, q, rfl, _⟩ := h
    rfl
  · obtain ⟨p, q, rfl, hP, k⟩ := h
    refine ⟨_, pss_one (ps_ret (pe_ix ix_list (pe_lst (pa_cons pe_str (pa_cons pe_str (pa_cons pe_str (pa_cons pe_str (pa_cons pe_str (pa_cons pe_non (pa_cons pe_int (pa_cons pe_bl (pa_cons (pe_tup (pa_cons pe_str pa_nil)) (pa_cons (pe_lst (pa_cons pe_str pa_nil)) pa_nil)))))))))))
      (pe_call GD hr rfl gD FD.kp bD .nil pass0 (pa_cons (pv 0) (pa_cons pe_int pa_nil))) (fun _ _ => rfl))), ?_⟩
    refine ⟨(by show 1 ≤ sizeLine; decide), fun t ht => ⟨(by show 1 ≤ sizeLine; decide), fun l hl => ⟨(by show 10 ≤ sizeLine; decide), fun L hL => ?_⟩⟩⟩
    have s1 := Same.new (o := .tup [.str "a"]) ht
    have s2 := Same.new (o := .lst [.str "a"]) hl
    have et := s2 _ _ (upd_same (H := H) (a := t) (o := .tup [.str "a"]))
    have el := upd_same (H := upd H t (.tup [.str "a"])) (a := l) (o := .lst [.str "a"])
    have s123 := s1.trans s2
    generalize upd (upd H t (.tup [.str "a"])) l (.lst [.str "a"]) = H1 at *
    have s4 := Same.new (o := .lst [.str "", .str "A", .str "a1", .str "toolongne", .str "a b", .non, .int 3, .bl true, .ref t, .ref l]) hL
    have eL := upd_same (H := H1) (a := L) (o := .lst [.str "", .str "A", .str "a1", .str "toolongne", .str "a b", .non, .int 3, .bl true, .ref t, .ref l])
    have nL1 := (hP.same s123).ne1 hL
    have nL2 := (hP.same s123).ne2 hL
    refine ⟨_, rfl, p, q, 10, rfl, (hP.same s123).same s4, by decide, by decide, fun H2 r b2 p2 r0 r1 => ?_⟩
    have nt : ∀ a, H a = none → a ≠ p ∧ a ≠ q := fun a h => ⟨hP.ne1 h, hP.ne2 h⟩
    have hx : KdL H2 [.str "", .str "A", .str "a1", .str "toolongne", .str "a b", .non, .int 3, .bl true, .ref t, .ref l] :=
      kdl_cons (.str _ (by decide +kernel)) (kdl_cons (.str _ (by decide +kernel)) (kdl_cons (.str _ (by decide +kernel)) (kdl_cons (.str _ (by decide +kernel)) (kdl_cons (.str _ (by decide +kernel)) (kdl_cons .non (kdl_cons (.int _) (kdl_cons (.bl _) (kdl_cons (.tup (b2 _ _ (nt _ ht).1 (nt _ ht).2 (s4 _ _ et)))
        (kdl_cons (.lst (b2 _ _ (nt _ (s1.free hl)).1 (nt _ (s1.free hl)).2 (s4 _ _ el))) kdl_nil)))))))))
    obtain ⟨v, n, e1, e2⟩ := kd_at hx r0 r1
    refine ⟨L, _, r, v, rfl, rfl, .inl (.inl (b2 _ _ nL1 nL2 eL)), e1, k _ _ _ ((But.of_same (s123.trans s4)).trans b2) p2 e2⟩

theorem scCountOk : FnScope ["value"] ["value"] (defScope sCountOk) := ⟨rfl, rfl, rfl, by decide +kernel, rfl, by decide +kernel, by decide +kernel⟩
theorem ok_countok {f : Addr} {fd : FuncData} (F : Fun K "_law_count_ok" "_law_count_ok" sCountOk f fd) (T : MTxt K mg) : FnOk P w K mg base CX0 1 f fd ["value"] spCount := by
  refine F.ok scCountOk (fun vs H Q E h => ?_) (fun cdv A outer s H vs Q E hr h => ?_)
  · obtain ⟨v, n, rfl, _⟩ := h
    rfl
  · obtain ⟨v, n, rfl, hk, k⟩ := h
    refine ⟨_, pss_one (ps_ret (pe_and (pe_callB call_isi (by rfl) T.isi (by decide +kernel) (pa_cons (pv 0) (pa_cons (pe_bltn (v := .ty "int") (by rfl) T.int (by decide +kernel) rfl) pa_nil)))
      (pe_and (pe_not (pe_callB call_isi (by rfl) T.isi (by decide +kernel) (pa_cons (pv 0) (pa_cons (pe_bltn (v := .ty "bool") (by rfl) T.bool (by decide +kernel) rfl) pa_nil)))) (pe_one (pe_cmpR op_ge (pv 0) pe_int (nomark _)))))), ?_⟩
    have ty : TyX K H v (.type n) := hk.ty
    cases hk with
    | int i => exact ⟨_, rfl, _, _, _, _, true, rfl, .ty _, ty, kit_ty (by decide +kernel), _, rfl, iteT ⟨_, rfl, _, _, _, _, false, rfl, .ty _, ty, kit_ty (by decide +kernel), _, rfl, _, rfl, iteT ⟨_, rfl, _, _, rfl, rfl, k⟩⟩⟩
    | bl b => exact ⟨_, rfl, _, _, _, _, true, rfl, .ty _, ty, kit_ty (by decide +kernel), _, rfl, iteT ⟨_, rfl, _, _, _, _, true, rfl, .ty _, ty, kit_ty (by decide +kernel), _, rfl, _, rfl, iteF k⟩⟩
    | non => exact ⟨_, rfl, _, _, _, _, false, rfl, .ty _, ty, kit_ty (by decide +kernel), _, rfl, iteF k⟩
    | str z hz => exact ⟨_, rfl, _, _, _, _, false, rfl, .ty _, ty, kit_ty (by decide +kernel), _, rfl, iteF k⟩
    | lst e => exact ⟨_, rfl, _, _, _, _, false, rfl, .ty _, ty, kit_ty (by decide +kernel), _, rfl, iteF k⟩
    | tup e => exact ⟨_, rfl, _, _, _, _, false, rfl, .ty _, ty, kit_ty (by decide +kernel), _, rfl, iteF k⟩
    | dK e => exact ⟨_, rfl, _, _, _, _, false, rfl, .ty _, ty, kit_ty (by decide +kernel), _, rfl, iteF k⟩

theorem all_filter (f : Nat → Bool) : ∀ l : List Nat, ((l.filter fun c => !f c).map fun c => V.str ⟨#[c]⟩).isEmpty = l.all f
  | [] => rfl
  | c :: l => by
    have ih := all_filter f l
    rw [List.filter_cons, List.all_cons]
    cases e : f c with
    | true => simpa using ih
    | false => rfl
theorem all_filterV (f : V → Bool) : ∀ l : List V, (l.filter fun c => !f c).isEmpty = l.all f
  | [] => rfl
  | c :: l => by
    have ih := all_filterV f l
    rw [List.filter_cons, List.all_cons]
    cases e : f c with
    | true => simpa using ih
    | false => rfl
theorem scWordOk : FnScope ["value", "sign"] ["value"] (defScope sWordOk) := ⟨rfl, rfl, rfl, by decide +kernel, rfl, by decide +kernel, by decide +kernel⟩
theorem ok_wordok {f : Addr} {fd : FuncData} (F : Fun K "_law_word_ok" "_law_word_ok" sWordOk f fd) (T : MTxt K mg) : FnOk P w K mg base CX0 1 f fd ["value"] spName := by
  refine F.ok scWordOk (fun vs H Q E h => ?_) (fun cdv A outer s H vs Q E hr h => ?_)
  · obtain ⟨v, n, rfl, _⟩ := h
    rfl
  · obtain ⟨v, n, rfl, hk, k⟩ := h
    refine ⟨_, pss_cons (ps_if (PW.pt (pw_or (pt_not (pt_val (pe_callB call_isi (by rfl) T.isi (by decide +kernel) (pa_cons (pv 0) (pa_cons (pe_bltn (v := .ty "str") (by rfl) T.str (by decide +kernel) rfl) pa_nil)))))
        (pw_or1 (pt_not (pt_chain op_le op_le pe_int (pe_callB call_len_str (by rfl) T.len PySem.boot_len (pa_cons (pv 0) pa_nil)) pe_int)))))
        (pss_one (ps_ret pe_bl)) pss_nil)
      (pss_one (ps_ret (pe_cmpR (op_eqNil hr.units0) (pe_lc (own := [("sign", 1)]) (g := gName 1) (by rfl) scWordOk.nd (pi_str (pv 0)) (blkOk_by (own := [("sign", 1)]) (N := ["value", "sign"]) (sc := defScope sWordOk) (by decide +kernel))
        (fun _ _ _ _ _ => pg_name (i := 1) scWordOk.nd rfl (Or.inl rfl)) (fun _ _ _ _ _ => pts_one (pt_cmpR op_notIn_sign (pv 1) pe_str (by rfl)))
        (fun _ _ _ _ _ => pv 1)) (pe_lst pa_nil) (nomark _)))), ?_⟩
    have ty : TyX K H v (.type n) := hk.ty
    cases hk with
    | str z hz =>
      refine ⟨_, rfl, _, _, _, _, true, rfl, .ty _, ty, kit_ty (by decide +kernel), _, rfl, ?_⟩
      refine iteF ⟨_, rfl, _, rfl, Nat.le_trans hz (by decide), _, _, rfl, rfl, _, rfl, ite2 (fun h1 => ?_) (fun h1 => ?_)⟩
      · refine ⟨_, _, rfl, rfl, _, rfl, ?_⟩
        have g1 : 1 ≤ z.length := by
          have := of_decide_eq_true h1
          omega
        refine ite2 (fun h2 => ?_) (fun h2 => ?_)
        · have g2 : ¬ z.length ≤ 8 := fun q => by
            rw [decide_eq_true (show ((z.length : Nat) : Int) ≤ 8 by omega)] at h2
            cases h2
          have e : isName (.str z) = false := by
            show nameOk z = false
            unfold nameOk
            rw [if_neg (fun q => g2 q.2)]
          rw [e] at k
          exact k _ (Same.refl _)
        · have g2 : z.length ≤ 8 := by
            by_cases q : z.length ≤ 8
            · exact q
            · rw [decide_eq_false (show ¬ ((z.length : Nat) : Int) ≤ 8 by omega)] at h2
              exact absurd rfl h2
          refine ⟨_, rfl, _, rfl, fun D hD => lc_it walk_str (fun i H' => H' = upd H D (.lst (((z.cps.toList.take i).filter fun c => !decide (c ∈ letters.cps.toList)).map fun c => V.str ⟨#[c]⟩)))
            rfl (fun _ _ _ _ => True.intro) ?_ ?_⟩
          · rintro i x H' H'' hi rfl ⟨rfl, c, hc, rfl⟩
            have hc2 : z.cps.toList[i]? = some c := by simpa using hc
            refine ⟨rfl, _, rfl, c, letters, rfl, rfl, _, rfl, ite2 (fun hf => ?_) (fun hf => ?_)⟩
            · refine ⟨_, rfl, _, upd_same, ?_, ?_⟩
              · rw [List.length_map]
                exact Nat.lt_of_le_of_lt (Nat.le_trans (List.length_filter_le _ _) (by rw [List.length_take]; exact Nat.le_trans (Nat.min_le_right _ _) (show z.cps.toList.length ≤ 1000 from hz))) (by decide)
              · rw [upd_upd, List.take_add_one, hc2, List.filter_append, List.map_append]
                show _ = upd H D (.lst (_ ++ (([c].filter _).map _)))
                rw [List.filter_cons, if_pos hf]
                rfl
            · rw [List.take_add_one, hc2, List.filter_append, List.map_append]
              show _ = upd H D (.lst (_ ++ (([c].filter _).map _)))
              rw [List.filter_cons, if_neg hf]
              show _ = upd H D (.lst (_ ++ []))
              rw [List.append_nil]
          · rintro H' rfl
            refine ⟨Nat.zero_le _, fun l hl => ⟨D, l, _, rfl, rfl, .inl ⟨.inl (.inl ((Same.new hl) _ _ upd_same)), .inl (.inl upd_same)⟩, ?_⟩⟩
            have e : isName (.str z) = (((z.cps.toList.take z.cps.size).filter fun c => !decide (c ∈ letters.cps.toList)).map fun c => V.str ⟨#[c]⟩).isEmpty := by
              show nameOk z = _
              unfold nameOk
              rw [if_pos ⟨g1, g2⟩, List.take_of_length_le (by simp), all_filter (fun c => decide (c ∈ letters.cps.toList))]
            rw [← e]
            exact k _ ((Same.new hD).trans (Same.new hl))
      · have g1 : ¬ 1 ≤ z.length := fun q => h1 (decide_eq_true (by omega))
        have e : isName (.str z) = false := by
          show nameOk z = false
          unfold nameOk
          rw [if_neg (fun q => g1 q.1)]
        rw [e] at k
        exact ⟨_, rfl, iteT (k _ (Same.refl _))⟩
    | int i => exact ⟨_, rfl, _, _, _, _, false, rfl, .ty _, ty, kit_ty (by decide +kernel), _, rfl, iteT (iteT (k _ (Same.refl _)))⟩
    | bl b => exact ⟨_, rfl, _, _, _, _, false, rfl, .ty _, ty, kit_ty (by decide +kernel), _, rfl, iteT (iteT (k _ (Same.refl _)))⟩
    | non => exact ⟨_, rfl, _, _, _, _, false, rfl, .ty _, ty, kit_ty (by decide +kernel), _, rfl, iteT (iteT (k _ (Same.refl _)))⟩
    | lst e => exact ⟨_, rfl, _, _, _, _, false, rfl, .ty _, ty, kit_ty (by decide +kernel), _, rfl, iteT (iteT (k _ (Same.refl _)))⟩
    | tup e => exact ⟨_, rfl, _, _, _, _, false, rfl, .ty _, ty, kit_ty (by decide +kernel), _, rfl, iteT (iteT (k _ (Same.refl _)))⟩
    | dK e => exact ⟨_, rfl, _, _, _, _, false, rfl, .ty _, ty, kit_ty (by decide +kernel), _, rfl, iteT (iteT (k _ (Same.refl _)))⟩
end
def lenKvs : List (Key × V) := [(.inr "open", .int 2), (.inr "close", .int 2), (.inr "renew", .int 2), (.inr "use", .int 2), (.inr "set", .int 3), (.inr "drop", .int 2), (.inr "lock", .int 2), (.inr "unlock", .int 2), (.inr "rest", .int 1)]
theorem lenKvs_merge : mergeK [] lenKvs = lenKvs := by decide +kernel
theorem valV_cons_ne {k l : Key} {v : V} {r : List (Key × V)} (h : ¬ k = l) : valV ((k, v) :: r) l = valV r l := by
  unfold valV
  rw [List.find?_cons, decide_eq_false h]
theorem valV_cons_eq {k : Key} {v : V} {r : List (Key × V)} : valV ((k, v) :: r) k = some v := by
  unfold valV
  rw [List.find?_cons, decide_eq_true rfl]
  rfl
theorem len_no {z : Str} (h : ¬ z ∈ wordsL) : valV lenKvs (.inr z) = none := by
  have key : ∀ x : Str, x ∈ wordsL → ¬ (Sum.inr x : Key) = Sum.inr z := fun x hx e => by
    have e2 : x = z := Sum.inr.inj e
    exact h (e2 ▸ hx)
  unfold lenKvs
  rw [valV_cons_ne (key _ (by decide +kernel)), valV_cons_ne (key _ (by decide +kernel)), valV_cons_ne (key _ (by decide +kernel)), valV_cons_ne (key _ (by decide +kernel)), valV_cons_ne (key _ (by decide +kernel)), valV_cons_ne (key _ (by decide +kernel)), valV_cons_ne (key _ (by decide +kernel)), valV_cons_ne (key _ (by decide +kernel)), valV_cons_ne (key _ (by decide +kernel))]
  rfl
theorem len_yes : ∀ z ∈ wordsL, ¬ z = "go" → valV lenKvs (.inr z) = some (.int ((needed z : Int) + 1)) := by decide +kernel

section
variable {P : Program} {w : World} {K : PySem.W.Frag} {mg : Str → Option Value} {base : Heap}
theorem scRowOk : FnScope ["value", "lengths", "one"] ["value"] (defScope sRowOk) := ⟨rfl, rfl, rfl, by decide +kernel, rfl, by decide +kernel, by decide +kernel⟩
theorem ok_rowok {f fC fN : Addr} {fd fdC fdN : FuncData} (F : Fun K "_law_row_ok" "_law_row_ok" sRowOk f fd) (T : MTxt K mg)
    (FC : Fun K "_law_count_ok" "_law_count_ok" sCountOk fC fdC) (bC : Binds K fdC ["value"] []) (gC : mg "_law_count_ok" = some (.ref fC))
    (FN : Fun K "_law_word_ok" "_law_word_ok" sWordOk fN fdN) (bN : Binds K fdN ["value"] []) (gN : mg "_law_word_ok" = some (.ref fN)) : FnOk P w K mg base CX0 2 f fd ["value"] spRow := by
  have GC : FnOk P w K mg base CX0 1 fC fdC ["value"] spCount := ok_countok FC T
  have GN : FnOk P w K mg base CX0 1 fN fdN ["value"] spName := ok_wordok FN T
  refine F.ok scRowOk (fun vs H Q E h => ?_) (fun cdv A outer s H vs Q E hr h => ?_)
  · obtain ⟨v, rfl, _⟩ := h
    rfl
  · obtain ⟨v, rfl, hv, k⟩ := h
    refine ⟨_, pss_cons (ps_set (i := 1) scRowOk.nd rfl (.inl rfl) (pe_disp (pps_cons pe_str pe_int (pps_cons pe_str pe_int (pps_cons pe_str pe_int (pps_cons pe_str pe_int (pps_cons pe_str pe_int (pps_cons pe_str pe_int (pps_cons pe_str pe_int (pps_cons pe_str pe_int (pps_cons pe_str pe_int pps_nil))))))))) (by rfl) (by rfl) (fun z => by cases z) (by decide)))
      (pss_cons (ps_if (PW.pt (pw_or (pt_not (pt_val (pe_callB call_isi (by rfl) T.isi (by decide +kernel) (pa_cons (pv 0) (pa_cons (pe_bltn (v := .ty "tuple") (by rfl) T.tup (by decide +kernel) rfl) pa_nil)))))
        (pw_or (pt_cmpR (op_eqNil hr.units0) (pv 0) (pe_tup pa_nil) (nomark _))
        (pw_or1 (pt_not (pt_val (pe_callB call_isi (by rfl) T.isi (by decide +kernel) (pa_cons (pe_ix ix_tup (pv 0) pe_int (fun _ _ => rfl)) (pa_cons (pe_bltn (v := .ty "str") (by rfl) T.str (by decide +kernel) rfl) pa_nil)))))))))
        (pss_one (ps_ret pe_bl)) pss_nil)
      (pss_cons (ps_if (pt_cmpR op_eq (pe_ix ix_tup (pv 0) pe_int (fun _ _ => rfl)) pe_str (nomark _))
        (pss_one (ps_ret (pe_and (pe_chain op_le op_le pe_int (pe_callB call_len_seq (by rfl) T.len PySem.boot_len (pa_cons (pv 0) pa_nil)) pe_int)
          (pe_one (pe_cmpR (op_eqNil hr.units0) (pe_lc (own := [("one", 2)]) (g := gName 2) (by rfl) scRowOk.nd (pi_tup (pe_slice sl_tup (pv 0) (po_some pe_int) po_none)) (blkOk_by (own := [("one", 2)]) (N := ["value", "lengths", "one"]) (sc := defScope sRowOk) (by decide +kernel))
            (fun _ _ _ _ _ => pg_name (i := 2) scRowOk.nd rfl (Or.inl rfl)) (fun _ _ _ _ _ => pts_one (pt_not (pt_val (pe_call GC hr rfl gC FC.kp bC .nil pass0 (pa_cons (pv 2) pa_nil)))))
            (fun _ _ _ _ _ => pv 2)) (pe_lst pa_nil) (nomark _)))))) pss_nil)
      (pss_cons (ps_if (PW.pt (pw_or (pt_cmp (pc_dnotin (hu_of hr) (pe_ix ix_tup (pv 0) pe_int (fun _ _ => rfl)) (pv 1)))
          (pw_or1 (pt_cmpR op_ne (pe_callB call_len_seq (by rfl) T.len PySem.boot_len (pa_cons (pv 0) pa_nil)) (pe_dget (hu_of hr) (pv 1) (pe_ix ix_tup (pv 0) pe_int (fun _ _ => rfl)) (fun _ _ => rfl)) (nomark _)))))
        (pss_one (ps_ret pe_bl)) pss_nil)
      (pss_one (ps_ret (pe_cmpR (op_eqNil hr.units0) (pe_lc (own := [("one", 2)]) (g := gName 2) (by rfl) scRowOk.nd (pi_tup (pe_slice sl_tup (pv 0) (po_some pe_int) po_none)) (blkOk_by (own := [("one", 2)]) (N := ["value", "lengths", "one"]) (sc := defScope sRowOk) (by decide +kernel))
            (fun _ _ _ _ _ => pg_name (i := 2) scRowOk.nd rfl (Or.inl rfl)) (fun _ _ _ _ _ => pts_one (pt_not (pt_val (pe_call GN hr rfl gN FN.kp bN .nil pass0 (pa_cons (pv 2) pa_nil)))))
            (fun _ _ _ _ _ => pv 2)) (pe_lst pa_nil) (nomark _))))))), ?_⟩
    refine fun dd hdd => ⟨upd_same, lenKvs, rfl, by decide, ?_⟩
    rw [upd_upd, lenKvs_merge]
    have s0 : Same H (upd H dd (.dK lenKvs)) := Same.new hdd
    have ed : (upd H dd (.dK lenKvs)) dd = some (.dK lenKvs) := upd_same
    have k0 : ∀ H', Same (upd H dd (.dK lenKvs)) H' → Q (.bl (rowOf H v)) H' := fun H' s => k H' (s0.trans s)
    have hv0 := hv.same s0
    rcases hv with ⟨n, kd, ne⟩ | ⟨a, xs, rfl, ha, hl, hx⟩
    · rw [rowOf_no kd ne] at k0
      refine ⟨_, rfl, _, _, _, _, false, rfl, .ty _, (kd.same s0).ty, kit_ty ?_, _, rfl, iteT (iteT (k0 _ (Same.refl _)))⟩
      cases kd <;> first | decide +kernel | exact absurd rfl ne
    · rw [rowOf_tup ha] at k0
      have ha0 := s0 _ _ ha
      have kr0 : ∀ y ∈ xs, ∃ n, Kd (upd H dd (.dK lenKvs)) y n := fun y m => by
        obtain ⟨n, q⟩ := hx y m
        exact ⟨n, q.same s0⟩
      generalize upd H dd (.dK lenKvs) = H1 at *
      have sa : SqT K H1 a xs := .inl (.inl ha0)
      refine ⟨_, rfl, _, _, _, _, true, rfl, .ty _, (Kd.tup ha0).ty, kit_ty (by decide +kernel), _, rfl, iteF ?_⟩
      refine ⟨_, rfl, Nat.zero_le _, fun e he => ⟨a, e, xs, rfl, rfl, .inr ⟨(Same.new he).seqT sa, .inl (.inl upd_same)⟩, _, rfl, ?_⟩⟩
      have s1 : Same H1 (upd H1 e (.tup [])) := Same.new he
      have sa1 := s1.seqT sa
      have ed1 := s1 _ _ ed
      have kr1 : ∀ y ∈ xs, ∃ n, Kd (upd H1 e (.tup [])) y n := fun y m => by
        obtain ⟨n, q⟩ := kr0 y m
        exact ⟨n, q.same s1⟩
      have k1 : ∀ H', Same (upd H1 e (.tup [])) H' → Q (.bl (rowL xs)) H' := fun H' s => k0 H' (s1.trans s)
      generalize upd H1 e (.tup []) = H2 at *
      cases xs with
      | nil => exact iteT (iteT (k1 _ (Same.refl _)))
      | cons x r =>
        refine iteF ⟨_, rfl, a, _, 0, x, rfl, rfl, sa1, at0 _ _, ?_⟩
        obtain ⟨n, kx⟩ := kr1 x (List.mem_cons_self ..)
        have kr : ∀ y ∈ r, ∃ n, Kd H2 y n := fun y m => kr1 y (List.mem_cons_of_mem _ m)
        have hlr : r.length ≤ 999 := by
          have : (x :: r).length = r.length + 1 := rfl
          omega
        have tx : TyX K H2 x (.type n) := kx.ty
        cases kx with
        | str z hz =>
          refine ⟨_, _, _, _, true, rfl, .ty _, tx, kit_ty (by decide +kernel), _, rfl, iteF ?_⟩
          refine ⟨_, rfl, a, _, 0, _, rfl, rfl, sa1, at0 _ _, rfl, _, rfl, ite2 (fun hg => ?_) (fun hg => ?_)⟩
          · have g : z = "go" := by
              have := of_decide_eq_true hg
              injection this
            have hn : z ∈ wordsL := by rw [g]; decide +kernel
            have et : rowL (.str z :: r) = if 1 ≤ r.length ∧ r.length ≤ 4 then r.all isCount else false := by
              show rowS z r = _
              unfold rowS
              rw [if_pos hn, if_pos g]
            rw [et] at k1
            have elen : (((V.str z :: r).length : Nat) : Int) = (r.length : Int) + 1 := by
              show (((r.length + 1 : Nat)) : Int) = _
              omega
            refine ⟨_, rfl, a, _, rfl, .inr sa1, _, _, rfl, rfl, _, rfl, ?_⟩
            rw [elen]
            refine ite2 (fun h1 => ?_) (fun h1 => ?_)
            · have g1 : 1 ≤ r.length := by
                have := of_decide_eq_true h1
                omega
              refine ⟨_, _, rfl, rfl, _, rfl, ite2 (fun h2 => ?_) (fun h2 => ?_)⟩
              · have g2 : r.length ≤ 4 := by
                  have := of_decide_eq_true h2
                  omega
                rw [if_pos ⟨g1, g2⟩] at k1
                refine ⟨_, rfl, _, rfl, a, _, rfl, sa1, cut1_not _ _, fun p hp => ?_⟩
                rw [cut1]
                have s1 : Same H2 (upd H2 p (.tup r)) := Same.new hp
                have sr : SqT K (upd H2 p (.tup r)) p r := .inl (.inl upd_same)
                refine ⟨p, rfl, ⟨_, sr⟩, fun D hD => lc_it walk_tup (fun i H' => H' = upd (upd H2 p (.tup r)) D (.lst ((r.take i).filter fun x => !isCount x)))
                  rfl (fun i H' _ e => by rw [e]; exact .inl (.inl ((Same.new hD) _ _ upd_same))) ?_ ?_⟩
                · rintro i y H' H'' hi rfl ⟨rfl, hy⟩
                  obtain ⟨m, ky⟩ := kr y (List.mem_of_getElem? hy)
                  refine ⟨rfl, _, rfl, y, m, rfl, (ky.same s1).same (Same.new hD), _, rfl, ite2 (fun hf => ?_) (fun hf => ?_)⟩
                  · refine ⟨_, rfl, _, upd_same, ?_, ?_⟩
                    · exact Nat.lt_of_le_of_lt (Nat.le_trans (List.length_filter_le _ _) (by rw [List.length_take]; exact Nat.le_trans (Nat.min_le_right _ _) hlr)) (by decide)
                    · rw [upd_upd, List.take_add_one, hy, List.filter_append]
                      show _ = upd _ D (.lst (_ ++ ([y].filter _)))
                      rw [List.filter_cons, if_pos hf]
                      rfl
                  · rw [List.take_add_one, hy, List.filter_append]
                    show _ = upd _ D (.lst (_ ++ ([y].filter _)))
                    rw [List.filter_cons, if_neg hf]
                    show _ = upd _ D (.lst (_ ++ []))
                    rw [List.append_nil]
                · rintro H' rfl
                  refine ⟨Nat.zero_le _, fun l hl => ⟨D, l, _, rfl, rfl, .inl ⟨.inl (.inl ((Same.new hl) _ _ upd_same)), .inl (.inl upd_same)⟩, ?_⟩⟩
                  have e : r.all isCount = ((r.take r.length).filter fun x => !isCount x).isEmpty := by
                    rw [List.take_length, all_filterV]
                  rw [← e]
                  exact k1 _ ((s1.trans (Same.new hD)).trans (Same.new hl))
              · have g2 : ¬ r.length ≤ 4 := fun q => h2 (decide_eq_true (by omega))
                rw [if_neg (fun q => g2 q.2)] at k1
                exact k1 _ (Same.refl _)
            · have g1 : ¬ 1 ≤ r.length := fun q => h1 (decide_eq_true (by omega))
              rw [if_neg (fun q => g1 q.1)] at k1
              exact ⟨_, rfl, k1 _ (Same.refl _)⟩
          · have g : ¬ z = "go" := fun q => hg (decide_eq_true (by rw [q]))
            refine ⟨_, rfl, a, _, 0, _, rfl, rfl, sa1, at0 _ _, _, rfl, dd, _, rfl, DGet.k (k := Sum.inr z) ed1, _, rfl, ?_⟩
            by_cases hn : z ∈ wordsL
            · have et : rowL (.str z :: r) = if r.length = needed z then r.all isName else false := by
                show rowS z r = _
                unfold rowS
                rw [if_pos hn, if_neg g]
              rw [et] at k1
              rw [len_yes z hn g]
              refine iteF ⟨_, rfl, a, _, rfl, .inr sa1, _, rfl, _, rfl, a, _, 0, _, rfl, rfl, sa1, at0 _ _, dd, _, rfl, (len_yes z hn g) ▸ DGet.k (k := Sum.inr z) ed1, rfl, _, rfl, ?_⟩
              have elen : (((V.str z :: r).length : Nat) : Int) = (r.length : Int) + 1 := by
                show (((r.length + 1 : Nat)) : Int) = _
                omega
              rw [elen]
              by_cases g1 : r.length = needed z
              · rw [if_pos g1] at k1
                refine iteNS (by rw [g1]) ?_
                refine ⟨_, rfl, _, rfl, a, _, rfl, sa1, cut1_not _ _, fun p hp => ?_⟩
                rw [cut1]
                have s1 : Same H2 (upd H2 p (.tup r)) := Same.new hp
                have sr : SqT K (upd H2 p (.tup r)) p r := .inl (.inl upd_same)
                refine ⟨p, rfl, ⟨_, sr⟩, fun D hD => lc_it walk_tup (fun i H' => Same (upd H2 p (.tup r)) H' ∧ H' D = some (.lst ((r.take i).filter fun x => !isName x)))
                  ⟨Same.new hD, upd_same⟩ (fun i H' _ e => e.1.seqT sr) ?_ ?_⟩
                · rintro i y H' H'' hi ⟨s2, hD2⟩ ⟨rfl, hy⟩
                  obtain ⟨m, ky⟩ := kr y (List.mem_of_getElem? hy)
                  refine ⟨rfl, _, rfl, y, m, rfl, (ky.same s1).same s2, fun H3 s3 => ⟨_, rfl, ite2 (fun hf => ?_) (fun hf => ?_)⟩⟩
                  · refine ⟨_, rfl, _, s3 _ _ hD2, ?_, ?_⟩
                    · exact Nat.lt_of_le_of_lt (Nat.le_trans (List.length_filter_le _ _) (by rw [List.length_take]; exact Nat.le_trans (Nat.min_le_right _ _) hlr)) (by decide)
                    · refine ⟨fun b o e => ?_, ?_⟩
                      · rw [upd_ne (ne_of_none e hD)]
                        exact s3 _ _ (s2 _ _ e)
                      · rw [upd_same, List.take_add_one, hy, List.filter_append]
                        show _ = some (HO.lst (_ ++ ([y].filter _)))
                        rw [List.filter_cons, if_pos hf]
                        rfl
                  · refine ⟨s2.trans s3, ?_⟩
                    rw [s3 _ _ hD2, List.take_add_one, hy, List.filter_append]
                    show _ = some (HO.lst (_ ++ ([y].filter _)))
                    rw [List.filter_cons, if_neg hf]
                    show _ = some (HO.lst (_ ++ []))
                    rw [List.append_nil]
                · rintro H' ⟨s2, hD2⟩
                  refine ⟨Nat.zero_le _, fun l hl => ⟨D, l, _, rfl, rfl, .inl ⟨.inl (.inl ((Same.new hl) _ _ hD2)), .inl (.inl upd_same)⟩, ?_⟩⟩
                  have e : r.all isName = ((r.take r.length).filter fun x => !isName x).isEmpty := by
                    rw [List.take_length, all_filterV]
                  rw [← e]
                  exact k1 _ ((s1.trans s2).trans (Same.new hl))
              · rw [if_neg g1] at k1
                have hne : ¬ V.int ((r.length : Int) + 1) = V.int ((needed z : Int) + 1) := fun q => by
                  injection q with q
                  omega
                rw [decide_eq_false hne]
                exact iteT (k1 _ (Same.refl _))
            · have et : rowL (.str z :: r) = false := by
                show rowS z r = _
                unfold rowS
                rw [if_neg hn]
              rw [et] at k1
              rw [len_no hn]
              exact iteT (iteT (k1 _ (Same.refl _)))
        | int i => exact ⟨_, _, _, _, false, rfl, .ty _, tx, kit_ty (by decide +kernel), _, rfl, iteT (k1 _ (Same.refl _))⟩
        | bl b => exact ⟨_, _, _, _, false, rfl, .ty _, tx, kit_ty (by decide +kernel), _, rfl, iteT (k1 _ (Same.refl _))⟩
        | non => exact ⟨_, _, _, _, false, rfl, .ty _, tx, kit_ty (by decide +kernel), _, rfl, iteT (k1 _ (Same.refl _))⟩
        | lst e => exact ⟨_, _, _, _, false, rfl, .ty _, tx, kit_ty (by decide +kernel), _, rfl, iteT (k1 _ (Same.refl _))⟩
        | tup e => exact ⟨_, _, _, _, false, rfl, .ty _, tx, kit_ty (by decide +kernel), _, rfl, iteT (k1 _ (Same.refl _))⟩
        | dK e => exact ⟨_, _, _, _, false, rfl, .ty _, tx, kit_ty (by decide +kernel), _, rfl, iteT (k1 _ (Same.refl _))⟩
end
abbrev sLaw : Stmt := top 19
def spLaw (K : PySem.W.Frag) : Sp := fun vs H Q _ => ∃ (a : Addr) (ns : List Int), vs = [.ref a] ∧ SqL K H a (ns.map V.int) ∧ ns.length ≤ 63 ∧ ∀ H', Q (.bl true) H'
theorem Kd.step {H H' : Hp} {p q : Addr} {v : V} {n : String} (h : Kd H v n) (hP : PoolAt H p q) (b : But p q H H') (hP' : PoolAt H' p q) : Kd H' v n := by
  obtain ⟨ns, i, x, s, z, h1, h2, _⟩ := hP
  obtain ⟨ns', i', x', s', z', h1', h2', _⟩ := hP'
  cases h with
  | non => exact .non
  | bl b => exact .bl b
  | int i => exact .int i
  | str z h => exact .str z h
  | @lst a xs e =>
    by_cases ap : a = p
    · subst ap; exact .lst h1'
    · by_cases aq : a = q
      · subst aq; exact .lst h2'
      · exact .lst (b _ _ ap aq e)
  | @tup a xs e =>
    refine .tup (b _ _ (fun z => ?_) (fun z => ?_) e)
    · subst z; rw [h1] at e; cases e
    · subst z; rw [h2] at e; cases e
  | @dK a xs e =>
    refine .dK (b _ _ (fun z => ?_) (fun z => ?_) e)
    · subst z; rw [h1] at e; cases e
    · subst z; rw [h2] at e; cases e
theorem Kd.updL {H : Hp} {R : Addr} {xs ys : List V} {v : V} {n : String} (h : Kd H v n) (e : H R = some (.lst xs)) : Kd (upd H R (.lst ys)) v n := by
  cases h with
  | non => exact .non
  | bl b => exact .bl b
  | int i => exact .int i
  | str z h => exact .str z h
  | @lst a xs e2 =>
    by_cases ap : a = R
    · subst ap; exact .lst upd_same
    · exact .lst (by rw [upd_ne ap]; exact e2)
  | @tup a xs e2 => exact .tup (by rw [upd_ne (fun z => by subst z; rw [e] at e2; cases e2)]; exact e2)
  | @dK a xs e2 => exact .dK (by rw [upd_ne (fun z => by subst z; rw [e] at e2; cases e2)]; exact e2)
theorem RowV.kd {H : Hp} {v : V} (h : RowV H v) : ∃ n, Kd H v n := by
  rcases h with ⟨n, k, _⟩ | ⟨a, xs, rfl, e, _⟩
  · exact ⟨n, k⟩
  · exact ⟨_, .tup e⟩
theorem RowV.step {H H' : Hp} {p q : Addr} {v : V} (h : RowV H v) (hP : PoolAt H p q) (b : But p q H H') (hP' : PoolAt H' p q) : RowV H' v := by
  rcases h with ⟨n, k, e⟩ | ⟨a, xs, rfl, e, hl, hx⟩
  · exact .inl ⟨n, k.step hP b hP', e⟩
  · refine .inr ⟨a, xs, rfl, ?_, hl, fun x m => ?_⟩
    · obtain ⟨ns, i, x, s, z, h1, h2, _⟩ := hP
      refine b _ _ (fun z => ?_) (fun z => ?_) e
      · subst z; rw [h1] at e; cases e
      · subst z; rw [h2] at e; cases e
    · obtain ⟨n, k⟩ := hx x m
      exact ⟨n, k.step hP b hP'⟩
theorem RowV.updL {H : Hp} {R : Addr} {xs ys : List V} {v : V} (h : RowV H v) (e : H R = some (.lst xs)) : RowV (upd H R (.lst ys)) v := by
  rcases h with ⟨n, k, e1⟩ | ⟨a, xs, rfl, e1, hl, hx⟩
  · exact .inl ⟨n, k.updL e, e1⟩
  · refine .inr ⟨a, xs, rfl, by rw [upd_ne (fun z => by subst z; rw [e] at e1; cases e1)]; exact e1, hl, fun x m => ?_⟩
    obtain ⟨n, k⟩ := hx x m
    exact ⟨n, k.updL e⟩
theorem KdL.step {H H' : Hp} {p q : Addr} {xs : List V} (h : KdL H xs) (hP : PoolAt H p q) (b : But p q H H') (hP' : PoolAt H' p q) : KdL H' xs := fun x m => by
  obtain ⟨n, k⟩ := h x m
  exact ⟨n, k.step hP b hP'⟩
theorem KdL.updL {H : Hp} {R : Addr} {xs ys : List V} {vs : List V} (h : KdL H vs) (e : H R = some (.lst xs)) : KdL (upd H R (.lst ys)) vs := fun x m => by
  obtain ⟨n, k⟩ := h x m
  exact ⟨n, k.updL e⟩
theorem rowOf_same {H H' : Hp} {v : V} (h : RowV H v) (s : Same H H') : rowOf H' v = rowOf H v := by
  rcases h with ⟨n, k, e⟩ | ⟨a, xs, rfl, e, hl, hx⟩
  · rw [rowOf_no k e, rowOf_no (k.same s) e]
  · rw [rowOf_tup e, rowOf_tup (s _ _ e)]
theorem rowV_tup {H : Hp} {a : Addr} {xs : List V} (e : H a = some (.tup xs)) (hl : xs.length ≤ 1000) (hx : KdL H xs) : RowV H (.ref a) := .inr ⟨a, xs, rfl, e, hl, hx⟩
theorem rowV_lst {H : Hp} {a : Addr} {xs : List V} (e : H a = some (.lst xs)) : RowV H (.ref a) := .inl ⟨_, .lst e, by decide⟩
theorem dp_strs {K : PySem.W.Frag} {H : Hp} : ∀ ys : List Str, DpAll K H (ys.map V.str) (ys.map PyData.str)
  | [] => .nil
  | y :: ys => .cons (.str y) (dp_strs ys)
theorem dp_bools {K : PySem.W.Frag} {H : Hp} : ∀ ys : List Bool, DpAll K H (ys.map V.bl) (ys.map PyData.bool)
  | [] => .nil
  | y :: ys => .cons (.bl y) (dp_bools ys)
def RowL (H : Hp) (xs : List V) : Prop := ∀ x ∈ xs, RowV H x
theorem rowl_nil {H : Hp} : RowL H [] := fun _ h => nomatch h
theorem rowl_cons {H : Hp} {x : V} {xs : List V} (k : RowV H x) (r : RowL H xs) : RowL H (x :: xs) := fun y m => by
  rcases List.mem_cons.mp m with h | h
  · subst h
    exact k
  · exact r y h

section
variable {P : Program} {w : World} {K : PySem.W.Frag} {mg : Str → Option Value} {base : Heap}
theorem scLaw : FnScope ["script", "pool", "words", "k", "word", "rest", "again", "some", "value", "odd"] ["script"] (defScope sLaw) := ⟨rfl, rfl, rfl, by decide +kernel, rfl, by decide +kernel, by decide +kernel⟩
theorem ok_law {f fB fD fN fM fR fO aW : Addr} {fd fdB fdD fdN fdM fdR fdO : FuncData} (F : Fun K "law" "law" sLaw f fd) (T : MTxt K mg) (TP : PTxt mg) (mgRepr : mg "repr" = none) (hW : mg "WORDS" = some (.ref aW)) (sW : ∀ H, SqT K H aW (wordsL.map V.str))
    (FB : Fun K "_law_begin" "_law_begin" sBegin fB fdB) (bB : Binds K fdB ["script"] []) (gB : mg "_law_begin" = some (.ref fB)) (GB : FnOk P w K mg base CX0 1 fB fdB ["script"] (spBegin K))
    (FD : Fun K "_law_draw" "_law_draw" sDraw fD fdD) (bD : Binds K fdD ["pool", "many"] []) (gD : mg "_law_draw" = some (.ref fD)) (GD : FnOk P w K mg base CX0 2 fD fdD ["pool", "many"] spDraw)
    (FN : Fun K "_law_bad_name" "_law_bad_name" sBadName fN fdN) (bN : Binds K fdN ["pool"] []) (gN : mg "_law_bad_name" = some (.ref fN)) (GN : FnOk P w K mg base CX0 3 fN fdN ["pool"] spSome)
    (FM : Fun K "_law_bad_number" "_law_bad_number" sBadNum fM fdM) (bM : Binds K fdM ["pool"] []) (gM : mg "_law_bad_number" = some (.ref fM)) (GM : FnOk P w K mg base CX0 3 fM fdM ["pool"] spSome)
    (FR : Fun K "is_row" "is_row" sRow fR fdR) (bR : Binds K fdR ["value"] []) (gR : mg "is_row" = some (.ref fR)) (GR : FnOk P w K mg base CX0 2 fR fdR ["value"] spRow)
    (FO : Fun K "_law_row_ok" "_law_row_ok" sRowOk fO fdO) (bO : Binds K fdO ["value"] []) (gO : mg "_law_row_ok" = some (.ref fO)) (GO : FnOk P w K mg base CX0 2 fO fdO ["value"] spRow) : FnOk P w K mg base CX0 4 f fd ["script"] (spLaw K) := by
  refine F.ok scLaw (fun vs H Q E h => ?_) (fun cdv A outer s H vs Q E hr h => ?_)
  · obtain ⟨a, ns, rfl, _⟩ := h
    rfl
  · obtain ⟨a, ns, rfl, hS, hlen, k⟩ := h
    have hr1 : Room 1 _ := hr.mono (by decide)
    have hr2 : Room 2 _ := hr.mono (by decide)
    refine ⟨_, pss_cons (ps_set (i := 1) scLaw.nd rfl (.inl rfl) (pe_call GB hr1 rfl gB FB.kp bB .nil pass0 (pa_cons (pv 0) pa_nil)))
      (pss_cons (ps_set (i := 2) scLaw.nd rfl (.inl rfl) (pe_lst (pa_cons pe_str (pa_cons pe_str (pa_cons pe_str (pa_cons pe_str (pa_cons pe_str (pa_cons pe_str (pa_cons pe_str (pa_cons pe_str (pa_cons pe_str (pa_cons pe_str pa_nil))))))))))))
      (pss_cons (ps_if (pt_cmpR (op_neD hr.units) (pe_glob (v := .ref aW) rfl hW rfl) (pe_callTy call_tuple_of (by rfl) T.tup (by decide +kernel) (pa_cons (pv 2) pa_nil)) (nomark _)) (pss_one (ps_ret pe_bl)) pss_nil)
      (pss_cons (ps_for PassesOwn.never rfl (pi_range1 rfl TP.range (pa_cons pe_int pa_nil)) (pg_name (i := 3) scLaw.nd rfl (.inl rfl))
        (pss_cons (ps_set (i := 4) scLaw.nd rfl (.inl rfl) (pe_ix ix_list (pe_op op_cat (pv 2) (pe_lst (pa_cons pe_str (pa_cons pe_str (pa_cons pe_non (pa_cons pe_int (pa_cons (pe_tup (pa_cons pe_str pa_nil)) pa_nil))))))) (pe_call GD hr2 rfl gD FD.kp bD .nil pass0 (pa_cons (pv 1) (pa_cons pe_int pa_nil))) (fun _ _ => rfl)))
        (pss_cons (ps_set (i := 5) scLaw.nd rfl (.inl rfl) (pe_lst pa_nil))
        (pss_cons (ps_for PassesOwn.never rfl (pi_range1 rfl TP.range (pa_cons (pe_call GD hr2 rfl gD FD.kp bD .nil pass0 (pa_cons (pv 1) (pa_cons pe_int pa_nil))) pa_nil)) (pg_name (i := 6) scLaw.nd rfl (.inl rfl))
          (pss_cons (ps_set (i := 7) scLaw.nd rfl (.inl rfl) (pe_lst (pa_cons (pe_call GN hr rfl gN FN.kp bN .nil pass0 (pa_cons (pv 1) pa_nil)) (pa_cons pe_str (pa_cons pe_str (pa_cons (pe_call GM hr rfl gM FM.kp bM .nil pass0 (pa_cons (pv 1) pa_nil)) (pa_cons pe_int (pa_cons pe_int (pa_cons (pe_op op_pow pe_int pe_int) pa_nil)))))))))
          (pss_one (ps_expr (pe_bm PySem.F.plainAttrs_list PySem.F.slot_list_append PySem.F.type_list_append mt_append (pv 5) (pa_cons (pe_ix ix_list (pv 7) (pe_call GD hr2 rfl gD FD.kp bD .nil pass0 (pa_cons (pv 1) (pa_cons pe_int pa_nil))) (fun _ _ => rfl)) pa_nil))))))
        (pss_cons (ps_set (i := 7) scLaw.nd rfl (.inl rfl) (pe_lst (pa_cons (pe_op op_catA1 (pe_tup (pa_cons (pv 4) pa_nil)) (pe_callTy call_tuple_of (by rfl) T.tup (by decide +kernel) (pa_cons (pv 5) pa_nil)))
          (pa_cons (pe_op op_cat (pe_lst (pa_cons (pv 4) pa_nil)) (pv 5)) (pa_cons (pe_tup (pa_cons (pv 4) pa_nil)) (pa_cons (pe_tup (pa_cons (pv 4) (pa_cons pe_str pa_nil))) (pa_cons (pe_tup (pa_cons (pv 4) (pa_cons pe_str (pa_cons pe_str pa_nil)))) (pa_cons (pe_tup (pa_cons (pv 4) (pa_cons pe_int (pa_cons pe_int pa_nil)))) pa_nil))))))))
        (pss_one (ps_for PassesOwn.never rfl (pi_list (pe_op op_cat (pv 7) (pe_lst (pa_cons (pv 4) pa_nil)))) (pg_name (i := 8) scLaw.nd rfl (.inl rfl))
          (pss_one (ps_if (pt_cmpR op_ne (pe_callB call_repr_bool (by rfl) mgRepr (by decide +kernel) (pa_cons (pe_call GR hr2 rfl gR FR.kp bR .nil pass0 (pa_cons (pv 8) pa_nil)) pa_nil)) (pe_callB call_repr_bool (by rfl) mgRepr (by decide +kernel) (pa_cons (pe_call GO hr2 rfl gO FO.kp bO .nil pass0 (pa_cons (pv 8) pa_nil)) pa_nil)) (nomark _)) (pss_one (ps_ret pe_bl)) pss_nil)))))))))
      (pss_one (ps_ret (pe_cmpR (op_eqD hr.units) (pe_lc (own := [("odd", 9)]) (g := gName 9) (by rfl) scLaw.nd (pi_list (pe_lst (pa_cons (pe_tup pa_nil) (pa_cons pe_non (pa_cons pe_int (pa_cons pe_str (pa_cons pe_dnewK pa_nil))))))) (blkOk_by (own := [("odd", 9)]) (N := ["script", "pool", "words", "k", "word", "rest", "again", "some", "value", "odd"]) (sc := defScope sLaw) (by decide +kernel))
          (fun _ _ _ _ _ => pg_name (i := 9) scLaw.nd rfl (Or.inl rfl)) (fun _ _ _ _ _ => pts_nil) (fun _ _ _ _ _ => pe_call GR hr2 rfl gR FR.kp bR .nil pass0 (pa_cons (pv 9) pa_nil))) (pe_op op_rep (pe_lst (pa_cons pe_bl pa_nil)) pe_int) (nomark _))))))), ?_⟩
    refine ⟨_, rfl, a, ns, rfl, hS, hlen, fun H1 p q s1 p0 q0 hP => ?_⟩
    refine ⟨(by show 10 ≤ sizeLine; decide), fun W hW0 => ?_⟩
    have eW := upd_same (H := H1) (a := W) (o := .lst (wordsL.map V.str))
    have hP1 := hP.same (Same.new (o := .lst (wordsL.map V.str)) hW0)
    have nWp := hP.ne1 hW0
    have nWq := hP.ne2 hW0
    have eW2 : (upd H1 W (.lst (wordsL.map V.str))) = (upd H1 W (HO.lst [V.str "open", V.str "close", V.str "renew", V.str "use", V.str "set", V.str "drop", V.str "lock", V.str "unlock", V.str "go", V.str "rest"])) := rfl
    rw [← eW2]
    generalize upd H1 W (.lst (wordsL.map V.str)) = H2 at *
    refine ⟨_, rfl, W, _, rfl, .inl ⟨.inl (.inl eW), fun t ht => ?_⟩⟩
    have hP2 := hP1.same (Same.new (o := .tup (wordsL.map V.str)) ht)
    have eW3 := (Same.new (o := .tup (wordsL.map V.str)) ht) _ _ eW
    refine ⟨.tuple (wordsL.map PyData.str), .tuple (wordsL.map PyData.str), .tup (sW _) (dp_strs _), .tup (.inl (.inl upd_same)) (dp_strs _), by decide +kernel, by decide +kernel, ?_⟩
    generalize upd H2 t (.tup (wordsL.map V.str)) = H3 at *
    rw [show PyData.eqv (.tuple (wordsL.map PyData.str)) (.tuple (wordsL.map PyData.str)) = true from by decide +kernel]
    refine ⟨_, rfl, iteF ?_⟩
    refine ⟨20, rfl, by decide, by decide, for_range (lo := 0) (n := 20) (fun i σ H' => ∃ v3 v4 v5 v6 v7 v8 v9, σ = [some (.ref a), some (.ref p), some (.ref W), v3, v4, v5, v6, v7, v8, v9] ∧ PoolAt H' p q ∧ H' W = some (.lst (wordsL.map V.str)))
      ⟨none, none, none, none, none, none, none, rfl, hP2, eW3⟩ ?_ ?_⟩
    · rintro i' σ H' _ ⟨v3, v4, v5, v6, v7, v8, v9, rfl, hP', eW'⟩
      -- word = (words + [..])[_law_draw(pool, 15)]
      refine ⟨_, rfl, (by show 1 ≤ sizeLine; decide), fun t ht => ⟨(by show 5 ≤ sizeLine; decide), fun l hl => ⟨W, l, _, _, rfl, rfl, (Same.new hl) _ _ ((Same.new ht) _ _ eW'), upd_same, (by show 15 ≤ sizeLine; decide), fun c hc => ?_⟩⟩⟩
      have s1 := Same.new (o := .tup [.str "open"]) ht
      have s2 := Same.new (o := .lst [.str "", .str "Open", .non, .int 3, .ref t]) hl
      have s3 := Same.new (o := .lst (wordsL.map V.str ++ [.str "", .str "Open", .non, .int 3, .ref t])) hc
      have s123 := (s1.trans s2).trans s3
      have et := s3 _ _ (s2 _ _ (upd_same (H := H') (a := t) (o := .tup [.str "open"])))
      have ec : (upd (upd (upd H' t (.tup [.str "open"])) l (.lst [.str "", .str "Open", .non, .int 3, .ref t])) c (.lst (wordsL.map V.str ++ [.str "", .str "Open", .non, .int 3, .ref t]))) c = _ := upd_same
      have ncp := (hP'.same (s1.trans s2)).ne1 hc
      have ncq := (hP'.same (s1.trans s2)).ne2 hc
      have nW1 : W ≠ c := ne_of_none ((s1.trans s2) _ _ eW') hc
      generalize upd (upd (upd H' t (.tup [.str "open"])) l (.lst [.str "", .str "Open", .non, .int 3, .ref t])) c (.lst (wordsL.map V.str ++ [.str "", .str "Open", .non, .int 3, .ref t])) = Ha at *
      have hPa := hP'.same s123
      have eWa := s123 _ _ eW'
      refine ⟨_, rfl, p, q, 15, rfl, hPa, by decide, by decide, fun Hb r bb pb r0 r1 => ?_⟩
      have rl : RowL Ha (wordsL.map V.str ++ [.str "", .str "Open", .non, .int 3, .ref t]) := by
        intro x m
        rcases List.mem_append.mp m with h | h
        · obtain ⟨z, hz, rfl⟩ := List.mem_map.mp h
          exact .inl ⟨_, .str z ((by decide +kernel : ∀ z ∈ wordsL, z.length ≤ 1000) z hz), by decide⟩
        · exact (rowl_cons (.inl ⟨_, .str _ (by decide +kernel), by decide⟩) (rowl_cons (.inl ⟨_, .str _ (by decide +kernel), by decide⟩) (rowl_cons (.inl ⟨_, .non, by decide⟩) (rowl_cons (.inl ⟨_, .int _, by decide⟩) (rowl_cons (rowV_tup et (by decide) (kdl_cons (.str _ (by decide +kernel)) kdl_nil)) rowl_nil))))) x h
      obtain ⟨wd, wm, wa⟩ := at_ex (xs := wordsL.map V.str ++ ([.str "", .str "Open", .non, .int 3, .ref t] : List V)) r0 (by show r < 15; exact r1)
      have rw1 : RowV Hb wd := (rl wd wm).step hPa bb pb
      have eWb := bb _ _ nWp nWq eWa
      refine ⟨c, _, r, wd, rfl, rfl, .inl (.inl (bb _ _ ncp ncq ec)), wa, ?_⟩
      clear rl wm wa et ec
      -- rest = []
      refine ⟨Nat.zero_le _, fun R hR => ?_⟩
      have nRp := pb.ne1 hR
      have nRq := pb.ne2 hR
      have nRW : W ≠ R := ne_of_none eWb hR
      have sR := Same.new (o := .lst []) hR
      have eR := upd_same (H := Hb) (a := R) (o := .lst [])
      have pc := pb.same sR
      have rw2 := rw1.same sR
      have eWc := sR _ _ eWb
      generalize upd Hb R (.lst []) = Hc at *
      refine ⟨_, rfl, p, q, 6, rfl, pc, by decide, by decide, fun Hd r' bd pd r0' r1' => ⟨r', rfl, by omega, by omega, ?_⟩⟩
      have eRd := bd _ _ nRp nRq eR
      have eWd := bd _ _ nWp nWq eWc
      have rw3 := rw2.step pc bd pd
      refine for_range (lo := 0) (n := r'.toNat) (fun i σ H' => ∃ (v6 v7 : Option V) (rs : List V), σ = [some (.ref a), some (.ref p), some (.ref W), some (.int (0 + (i' : Int))), some wd, some (.ref R), v6, v7, v8, v9] ∧ PoolAt H' p q ∧ H' W = some (.lst (wordsL.map V.str)) ∧ RowV H' wd ∧ H' R = some (.lst rs) ∧ KdL H' rs ∧ rs.length ≤ i)
        ⟨v6, v7, [], rfl, pd, eWd, rw3, eRd, kdl_nil, Nat.le_refl _⟩ ?_ ?_
      · rintro j σ He hj ⟨v6, v7, rs, rfl, pe, eWe, rwe, eRe, kre, lre⟩
        -- some = [..]
        refine ⟨_, rfl, p, q, rfl, pe, fun Hf x1 n1 bf pf k1 => ⟨_, rfl, p, q, rfl, pf, fun Hg x2 n2 bg pg k2 => ⟨_, _, rfl, rfl, ⟨by decide, by decide, by decide⟩, (by show 7 ≤ sizeLine; decide), fun L hL => ?_⟩⟩⟩
        have kdl : KdL Hg [x1, .str "v", .str "abcdefgh", x2, .int 0, .int 7, .int (10 ^ (9 : Int).toNat)] :=
          kdl_cons (k1.step pf bg pg) (kdl_cons (.str _ (by decide +kernel)) (kdl_cons (.str _ (by decide +kernel)) (kdl_cons k2 (kdl_cons (.int _) (kdl_cons (.int _) (kdl_cons (.int _) kdl_nil))))))
        have eWg := bg _ _ nWp nWq (bf _ _ nWp nWq eWe)
        have eRg := bg _ _ nRp nRq (bf _ _ nRp nRq eRe)
        have rwg := (rwe.step pe bf pf).step pf bg pg
        have krg := (kre.step pe bf pf).step pf bg pg
        have nLp := pg.ne1 hL
        have nLq := pg.ne2 hL
        have nRL : R ≠ L := ne_of_none eRg hL
        have nWL : W ≠ L := ne_of_none eWg hL
        have sL := Same.new (o := .lst [x1, .str "v", .str "abcdefgh", x2, .int 0, .int 7, .int (10 ^ (9 : Int).toNat)]) hL
        have eL : (upd Hg L (.lst [x1, .str "v", .str "abcdefgh", x2, .int 0, .int 7, .int (10 ^ (9 : Int).toNat)])) L = _ := upd_same
        have kdl' := kdl.same sL
        have ph := pg.same sL
        have eWh := sL _ _ eWg
        have eRh := sL _ _ eRg
        have rwh := rwg.same sL
        have krh := krg.same sL
        generalize upd Hg L (.lst [x1, .str "v", .str "abcdefgh", x2, .int 0, .int 7, .int (10 ^ (9 : Int).toNat)]) = Hh at *
        refine ⟨_, rfl, .inl ⟨rfl, _, SqL.of eRh⟩, _, rfl, _, rfl, p, q, 7, rfl, ph, by decide, by decide, fun Hi r2 bi pi r20 r21 => ?_⟩
        obtain ⟨v, n, e1, e2⟩ := kd_at kdl' r20 (by show r2 < 7; exact r21)
        have eRi := bi _ _ nRp nRq eRh
        have hrs6 : rs.length ≤ 6 := by omega
        refine ⟨L, _, r2, v, rfl, rfl, .inl (.inl (bi _ _ nLp nLq eL)), e1, R, _, _, rfl, rfl, eRi, Nat.lt_of_le_of_lt hrs6 (by decide), ?_⟩
        refine ⟨_, _, rs ++ [v], rfl, ?_, ?_, ?_, upd_same, ?_, ?_⟩
        · obtain ⟨ns', i', x', s', z', h1', h2', h3'⟩ := pi
          exact ⟨ns', i', x', s', z', by rw [upd_ne (fun e => nRp e.symm)]; exact h1', by rw [upd_ne (fun e => nRq e.symm)]; exact h2', h3'⟩
        · rw [upd_ne nRW]
          exact bi _ _ nWp nWq eWh
        · exact (rwh.step ph bi pi).updL eRi
        · exact (kdl_app (krh.step ph bi pi) (kdl_cons (e2.step ph bi pi) kdl_nil)).updL eRi
        · rw [List.length_append]
          show rs.length + 1 ≤ j + 1
          omega
      · rintro σ He ⟨v6, v7, rs, rfl, pe, eWe, rwe, eRe, kre, lre⟩
        obtain ⟨nw, kw⟩ := rwe.kd
        have lrs : rs.length ≤ 6 := by omega
        have lsz : ∀ n : Nat, n ≤ 1000 → n ≤ sizeLine := fun n h => Nat.le_trans h (by decide)
        -- some = [(word,) + tuple(rest), ..]
        refine ⟨_, rfl, (by show 1 ≤ sizeLine; decide), fun t1 h1 => ⟨_, rfl, R, rs, rfl, .inl ⟨.inl (.inl ((Same.new h1) _ _ eRe)), fun t2 h2 => ?_⟩⟩⟩
        have s1 := Same.new (o := .tup [wd]) h1
        have s2 := Same.new (o := .tup rs) h2
        have et1 := s2 _ _ (upd_same (H := He) (a := t1) (o := .tup [wd]))
        have et2 : (upd (upd He t1 (.tup [wd])) t2 (.tup rs)) t2 = _ := upd_same
        have s12 := s1.trans s2
        generalize upd (upd He t1 (.tup [wd])) t2 (.tup rs) = Hf at *
        have kw1 := kw.same s12
        have kr1 := kre.same s12
        refine ⟨t1, t2, [wd], rs, rfl, rfl, .inl (.inl et1), et1, .inl (.inl et2), lsz _ (by show 1 + rs.length ≤ 1000; omega), (fun z => nomatch z), fun x Hg sg ex => ?_⟩
        have kwg := kw1.same sg
        have krg : KdL Hg rs := KdL.same kr1 sg
        have peg := (pe.same s12).same sg
        have eWg := sg _ _ (s12 _ _ eWe)
        have eRg := sg _ _ (s12 _ _ eRe)
        have rwg := (rwe.same s12).same sg
        clear kw1 kr1 et1 et2 sg s12 s1 s2
        -- [word] + rest
        refine ⟨_, rfl, (by show 1 ≤ sizeLine; decide), fun l1 h3 => ⟨_, rfl, l1, R, [wd], rs, rfl, rfl, upd_same, (Same.new h3) _ _ eRg, lsz _ (by show 1 + rs.length ≤ 1000; omega), fun l2 h4 => ?_⟩⟩
        refine ⟨_, rfl, (by show 1 ≤ sizeLine; decide), fun t3 h5 => ⟨_, rfl, (by show 2 ≤ sizeLine; decide), fun t4 h6 => ⟨_, rfl, (by show 3 ≤ sizeLine; decide), fun t5 h7 => ⟨_, rfl, (by show 3 ≤ sizeLine; decide), fun t6 h8 => ⟨(by show 6 ≤ sizeLine; decide), fun L h9 => ?_⟩⟩⟩⟩⟩
        have q3 := Same.new (o := .lst [wd]) h3
        have q4 := Same.new (o := .lst ([wd] ++ rs)) h4
        have q5 := Same.new (o := .tup [wd]) h5
        have q6 := Same.new (o := .tup [wd, .str "v"]) h6
        have q7 := Same.new (o := .tup [wd, .str "v", .str "w"]) h7
        have q8 := Same.new (o := .tup [wd, .int 0, .int 1]) h8
        have q9 := Same.new (o := .lst [.ref x, .ref l2, .ref t3, .ref t4, .ref t5, .ref t6]) h9
        have e8 := q9 _ _ (upd_same (H := _) (a := t6) (o := .tup [wd, .int 0, .int 1]))
        have e7 := q9 _ _ (q8 _ _ (upd_same (H := _) (a := t5) (o := .tup [wd, .str "v", .str "w"])))
        have e6 := q9 _ _ (q8 _ _ (q7 _ _ (upd_same (H := _) (a := t4) (o := .tup [wd, .str "v"]))))
        have e5 := q9 _ _ (q8 _ _ (q7 _ _ (q6 _ _ (upd_same (H := _) (a := t3) (o := .tup [wd])))))
        have e4 := q9 _ _ (q8 _ _ (q7 _ _ (q6 _ _ (q5 _ _ (upd_same (H := _) (a := l2) (o := .lst ([wd] ++ rs)))))))
        have qq := (((((q3.trans q4).trans q5).trans q6).trans q7).trans q8).trans q9
        have eL : (upd (upd (upd (upd (upd (upd (upd Hg l1 (.lst [wd])) l2 (.lst ([wd] ++ rs))) t3 (.tup [wd])) t4 (.tup [wd, .str "v"])) t5 (.tup [wd, .str "v", .str "w"])) t6 (.tup [wd, .int 0, .int 1])) L (.lst [.ref x, .ref l2, .ref t3, .ref t4, .ref t5, .ref t6])) L = _ := upd_same
        clear q3 q4 q5 q6 q7 q8 q9 h3 h4 h5 h6 h7 h8 h9
        generalize upd (upd (upd (upd (upd (upd (upd Hg l1 (.lst [wd])) l2 (.lst ([wd] ++ rs))) t3 (.tup [wd])) t4 (.tup [wd, .str "v"])) t5 (.tup [wd, .str "v", .str "w"])) t6 (.tup [wd, .int 0, .int 1])) L (.lst [.ref x, .ref l2, .ref t3, .ref t4, .ref t5, .ref t6]) = Hh at *
        have kwh := kwg.same qq
        have krh : KdL Hh rs := KdL.same krg qq
        have rwh := rwg.same qq
        have peh := peg.same qq
        have eWh := qq _ _ eWg
        have exh := qq _ _ ex
        -- for value in some + [word]
        refine ⟨_, rfl, _, rfl, (by show 1 ≤ sizeLine; decide), fun l3 g3 => ⟨L, l3, _, _, rfl, rfl, (Same.new g3) _ _ eL, upd_same, (by show 7 ≤ sizeLine; decide), fun l4 g4 => ?_⟩⟩
        have r34 := (Same.new (o := .lst [wd]) g3).trans (Same.new (o := .lst ([.ref x, .ref l2, .ref t3, .ref t4, .ref t5, .ref t6] ++ [wd])) g4)
        have eV : (upd (upd Hh l3 (.lst [wd])) l4 (.lst ([.ref x, .ref l2, .ref t3, .ref t4, .ref t5, .ref t6] ++ [wd]))) l4 = _ := upd_same
        generalize upd (upd Hh l3 (.lst [wd])) l4 (.lst ([.ref x, .ref l2, .ref t3, .ref t4, .ref t5, .ref t6] ++ [wd])) = Hi at *
        have kwi := kwh.same r34
        have kri : KdL Hi rs := KdL.same krh r34
        have hall : RowL Hi ([.ref x, .ref l2, .ref t3, .ref t4, .ref t5, .ref t6] ++ [wd]) :=
          rowl_cons (rowV_tup (r34 _ _ exh) (by show rs.length + 1 ≤ 1000; omega) (kdl_cons kwi kri)) (rowl_cons (rowV_lst (r34 _ _ e4)) (rowl_cons (rowV_tup (r34 _ _ e5) (by show 1 ≤ 1000; decide) (kdl_cons kwi kdl_nil))
            (rowl_cons (rowV_tup (r34 _ _ e6) (by show 2 ≤ 1000; decide) (kdl_cons kwi (kdl_cons (.str _ (by decide +kernel)) kdl_nil))) (rowl_cons (rowV_tup (r34 _ _ e7) (by show 3 ≤ 1000; decide) (kdl_cons kwi (kdl_cons (.str _ (by decide +kernel)) (kdl_cons (.str _ (by decide +kernel)) kdl_nil))))
              (rowl_cons (rowV_tup (r34 _ _ e8) (by show 3 ≤ 1000; decide) (kdl_cons kwi (kdl_cons (.int _) (kdl_cons (.int _) kdl_nil)))) (rowl_cons (rwh.same r34) rowl_nil))))))
        refine ⟨l4, rfl, ⟨_, .inl (.inl eV)⟩, for_list (K := K) (a := l4) (xs := [.ref x, .ref l2, .ref t3, .ref t4, .ref t5, .ref t6] ++ [wd]) (fun i σ H' => ∃ (u8 : Option V), σ = [some (.ref a), some (.ref p), some (.ref W), some (.int (0 + (i' : Int))), some wd, some (.ref R), v6, some (.ref L), u8, v9] ∧ Same Hi H')
          ⟨v8, rfl, Same.refl _⟩ (fun i σ H' _ ⟨_, _, s⟩ => s.seq (.inl (.inl eV))) ?_ ?_⟩
        · rintro i y σ H' hi ⟨u8, rfl, s⟩
          have ry := (hall y (List.mem_of_getElem? hi)).same s
          refine ⟨_, rfl, y, rfl, ry, fun H3 s3 => ⟨_, rfl, _, rfl, y, rfl, ry.same s3, fun H4 s4 => ⟨_, rfl, rfl, _, rfl, ?_⟩⟩⟩
          rw [rowOf_same ry s3]
          exact iteNS rfl ⟨_, rfl, (s.trans s3).trans s4⟩
        · rintro σ H' ⟨u8, rfl, s⟩
          exact ⟨_, _, _, _, _, _, _, rfl, (peh.same r34).same s, s _ _ (r34 _ _ eWh)⟩
    · rintro σ H' ⟨v3, v4, v5, v6, v7, v8, v9, rfl, hP', eW'⟩
      refine ⟨Nat.zero_le _, fun t ht d hd => ⟨(by show 5 ≤ sizeLine; decide), fun L hL => ?_⟩⟩
      have s1 := Same.new (o := .tup []) ht
      have s2 := Same.new (o := .dK []) hd
      have s3 := Same.new (o := .lst [.ref t, .non, .int 0, .str "rest", .ref d]) hL
      have et := s3 _ _ (s2 _ _ (upd_same (H := H') (a := t) (o := .tup [])))
      have ed := s3 _ _ (upd_same (H := upd H' t (.tup [])) (a := d) (o := .dK []))
      have eL : (upd (upd (upd H' t (.tup [])) d (.dK [])) L (.lst [.ref t, .non, .int 0, .str "rest", .ref d])) L = _ := upd_same
      generalize upd (upd (upd H' t (.tup [])) d (.dK [])) L (.lst [.ref t, .non, .int 0, .str "rest", .ref d]) = Ha at *
      have hx : ∀ y ∈ ([.ref t, .non, .int 0, .str "rest", .ref d] : List V), RowV Ha y ∧ rowOf Ha y = false := by
        intro y m
        have hn : ∀ {y : V} {n : String}, Kd Ha y n → n ≠ "tuple" → RowV Ha y ∧ rowOf Ha y = false := fun k e => ⟨.inl ⟨_, k, e⟩, rowOf_no k e⟩
        rcases List.mem_cons.mp m with rfl | m
        · exact ⟨rowV_tup et (by decide) kdl_nil, by rw [rowOf_tup et]; rfl⟩
        rcases List.mem_cons.mp m with rfl | m
        · exact hn .non (by decide)
        rcases List.mem_cons.mp m with rfl | m
        · exact hn (.int _) (by decide)
        rcases List.mem_cons.mp m with rfl | m
        · exact hn (.str _ (by decide +kernel)) (by decide)
        rcases List.mem_cons.mp m with rfl | m
        · exact hn (.dK ed) (by decide)
        · cases m
      refine ⟨L, rfl, ⟨_, .inl (.inl eL)⟩, fun D hD => lc_list (K := K) (a := L) (xs := [.ref t, .non, .int 0, .str "rest", .ref d]) (fun i H'' => Same Ha H'' ∧ H'' D = some (.lst (((([.ref t, .non, .int 0, .str "rest", .ref d] : List V).take i).map (fun _ => false)).map V.bl)))
        ⟨Same.new hD, upd_same⟩ (fun i H'' _ e => e.1.seq (.inl (.inl eL))) ?_ ?_⟩
      · rintro i y H'' hi ⟨sa, eD⟩
        obtain ⟨ry, fy⟩ := hx y (List.mem_of_getElem? hi)
        refine ⟨rfl, _, rfl, y, rfl, ry.same sa, fun H3 s3 => ⟨_, s3 _ _ eD, ?_, ?_, ?_⟩⟩
        · rw [List.length_map, List.length_map, List.length_take]
          exact Nat.lt_of_le_of_lt (Nat.min_le_right _ _) (by show 5 < sizeLine; decide)
        · intro b o e
          rw [upd_ne (ne_of_none e hD)]
          exact s3 _ _ (sa _ _ e)
        · rw [upd_same, rowOf_same ry sa, fy, List.take_add_one, hi, List.map_append, List.map_append]
          rfl
      · rintro H'' ⟨sa, eD⟩
        refine ⟨(by show 1 ≤ sizeLine; decide), fun l hl => ⟨l, 5, _, rfl, rfl, upd_same, by decide, by decide, (by show 5 ≤ sizeLine; decide), fun c hc => ?_⟩⟩
        refine ⟨.list ([false, false, false, false, false].map PyData.bool), .list ([false, false, false, false, false].map PyData.bool), .lst (xs := [false, false, false, false, false].map V.bl) (.inl (.inl ((Same.new hc) _ _ ((Same.new hl) _ _ eD)))) (dp_bools _), .lst (xs := [false, false, false, false, false].map V.bl) (.inl (.inl upd_same)) (dp_bools _), by decide +kernel, by decide +kernel, ?_⟩
        rw [show PyData.eqv (.list ([false, false, false, false, false].map PyData.bool)) (.list ([false, false, false, false, false].map PyData.bool)) = true from by decide +kernel]
        exact k _
end
theorem all_mk {l : PySem.W.OpenLaw} {w : World} {K : PySem.W.Frag} {h : Heap} {mg : Str → Option Value} {fa : Addr} (X : K.In h) (G : h.Ns mainGlobals mg) (hfa : mg "law" = some (.ref fa))
    {od0 an0 : Option Addr} {sl0 : Array (Option Value)} {oc0 kV0 dc0 pm0 cd0 ct0 : Value} {f0 : Addr}
    {od1 an1 : Option Addr} {sl1 : Array (Option Value)} {oc1 kV1 dc1 pm1 cd1 ct1 : Value} {f1 : Addr}
    {od2 an2 : Option Addr} {sl2 : Array (Option Value)} {oc2 kV2 dc2 pm2 cd2 ct2 : Value} {f2 : Addr}
    {od3 an3 : Option Addr} {sl3 : Array (Option Value)} {oc3 kV3 dc3 pm3 cd3 ct3 : Value} {f3 : Addr}
    {od4 an4 : Option Addr} {sl4 : Array (Option Value)} {oc4 kV4 dc4 pm4 cd4 ct4 : Value} {f4 : Addr}
    {od5 an5 : Option Addr} {sl5 : Array (Option Value)} {oc5 kV5 dc5 pm5 cd5 ct5 : Value} {f5 : Addr}
    {od6 an6 : Option Addr} {sl6 : Array (Option Value)} {oc6 kV6 dc6 pm6 cd6 ct6 : Value} {f6 : Addr}
    {od7 an7 : Option Addr} {sl7 : Array (Option Value)} {oc7 kV7 dc7 pm7 cd7 ct7 : Value} {f7 : Addr}
    {od8 an8 : Option Addr} {sl8 : Array (Option Value)} {oc8 kV8 dc8 pm8 cd8 ct8 : Value} {f8 : Addr}
    {od9 an9 : Option Addr} {sl9 : Array (Option Value)} {oc9 kV9 dc9 pm9 cd9 ct9 : Value} {f9 : Addr}
    {od10 an10 : Option Addr} {sl10 : Array (Option Value)} {oc10 kV10 dc10 pm10 cd10 ct10 : Value} {f10 : Addr}
    {od11 an11 : Option Addr} {sl11 : Array (Option Value)} {oc11 kV11 dc11 pm11 cd11 ct11 : Value} {f11 : Addr}
    {od12 an12 : Option Addr} {sl12 : Array (Option Value)} {oc12 kV12 dc12 pm12 cd12 ct12 : Value} {f12 : Addr}
    {v0 : Value}
    {v1 : Value}
    {v2 : Value}
    {tA0 : Addr} {tc0 : Value} {td0 : Option Addr} {tt0 : PySem.Data} {ts0 : Array (Option Value)}
    (a0 : PySem.W.nsIn K mainGlobals "is_count" = some (some (.ref f0))) (l0 : K.lookup f0 = some ⟨oc0, od0, .func (PySem.W.fnOf "is_count" "is_count" (defArgs sCount) (defBody sCount) (defScope sCount) .none kV0 dc0 pm0 an0 cd0 ct0), sl0⟩) (c0 : PySem.W.codeIn K cd0 "is_count" = true) (k0 : PySem.W.keepIn K (.ref f0) = true)
    (a1 : PySem.W.nsIn K mainGlobals "is_name" = some (some (.ref f1))) (l1 : K.lookup f1 = some ⟨oc1, od1, .func (PySem.W.fnOf "is_name" "is_name" (defArgs sName) (defBody sName) (defScope sName) .none kV1 dc1 pm1 an1 cd1 ct1), sl1⟩) (c1 : PySem.W.codeIn K cd1 "is_name" = true) (k1 : PySem.W.keepIn K (.ref f1) = true)
    (a2 : PySem.W.nsIn K mainGlobals "is_row" = some (some (.ref f2))) (l2 : K.lookup f2 = some ⟨oc2, od2, .func (PySem.W.fnOf "is_row" "is_row" (defArgs sRow) (defBody sRow) (defScope sRow) .none kV2 dc2 pm2 an2 cd2 ct2), sl2⟩) (c2 : PySem.W.codeIn K cd2 "is_row" = true) (k2 : PySem.W.keepIn K (.ref f2) = true)
    (a3 : PySem.W.nsIn K mainGlobals "_names_needed" = some (some (.ref f3))) (l3 : K.lookup f3 = some ⟨oc3, od3, .func (PySem.W.fnOf "_names_needed" "_names_needed" (defArgs sNeed) (defBody sNeed) (defScope sNeed) .none kV3 dc3 pm3 an3 cd3 ct3), sl3⟩) (c3 : PySem.W.codeIn K cd3 "_names_needed" = true) (k3 : PySem.W.keepIn K (.ref f3) = true)
    (a4 : PySem.W.nsIn K mainGlobals "_law_begin" = some (some (.ref f4))) (l4 : K.lookup f4 = some ⟨oc4, od4, .func (PySem.W.fnOf "_law_begin" "_law_begin" (defArgs sBegin) (defBody sBegin) (defScope sBegin) .none kV4 dc4 pm4 an4 cd4 ct4), sl4⟩) (c4 : PySem.W.codeIn K cd4 "_law_begin" = true) (k4 : PySem.W.keepIn K (.ref f4) = true)
    (a5 : PySem.W.nsIn K mainGlobals "_law_mixed" = some (some (.ref f5))) (l5 : K.lookup f5 = some ⟨oc5, od5, .func (PySem.W.fnOf "_law_mixed" "_law_mixed" (defArgs sMixed) (defBody sMixed) (defScope sMixed) .none kV5 dc5 pm5 an5 cd5 ct5), sl5⟩) (c5 : PySem.W.codeIn K cd5 "_law_mixed" = true) (k5 : PySem.W.keepIn K (.ref f5) = true)
    (a6 : PySem.W.nsIn K mainGlobals "_law_draw" = some (some (.ref f6))) (l6 : K.lookup f6 = some ⟨oc6, od6, .func (PySem.W.fnOf "_law_draw" "_law_draw" (defArgs sDraw) (defBody sDraw) (defScope sDraw) .none kV6 dc6 pm6 an6 cd6 ct6), sl6⟩) (c6 : PySem.W.codeIn K cd6 "_law_draw" = true) (k6 : PySem.W.keepIn K (.ref f6) = true)
    (a7 : PySem.W.nsIn K mainGlobals "_law_bad_number" = some (some (.ref f7))) (l7 : K.lookup f7 = some ⟨oc7, od7, .func (PySem.W.fnOf "_law_bad_number" "_law_bad_number" (defArgs sBadNum) (defBody sBadNum) (defScope sBadNum) .none kV7 dc7 pm7 an7 cd7 ct7), sl7⟩) (c7 : PySem.W.codeIn K cd7 "_law_bad_number" = true) (k7 : PySem.W.keepIn K (.ref f7) = true)
    (a8 : PySem.W.nsIn K mainGlobals "_law_bad_name" = some (some (.ref f8))) (l8 : K.lookup f8 = some ⟨oc8, od8, .func (PySem.W.fnOf "_law_bad_name" "_law_bad_name" (defArgs sBadName) (defBody sBadName) (defScope sBadName) .none kV8 dc8 pm8 an8 cd8 ct8), sl8⟩) (c8 : PySem.W.codeIn K cd8 "_law_bad_name" = true) (k8 : PySem.W.keepIn K (.ref f8) = true)
    (a9 : PySem.W.nsIn K mainGlobals "_law_word_ok" = some (some (.ref f9))) (l9 : K.lookup f9 = some ⟨oc9, od9, .func (PySem.W.fnOf "_law_word_ok" "_law_word_ok" (defArgs sWordOk) (defBody sWordOk) (defScope sWordOk) .none kV9 dc9 pm9 an9 cd9 ct9), sl9⟩) (c9 : PySem.W.codeIn K cd9 "_law_word_ok" = true) (k9 : PySem.W.keepIn K (.ref f9) = true)
    (a10 : PySem.W.nsIn K mainGlobals "_law_count_ok" = some (some (.ref f10))) (l10 : K.lookup f10 = some ⟨oc10, od10, .func (PySem.W.fnOf "_law_count_ok" "_law_count_ok" (defArgs sCountOk) (defBody sCountOk) (defScope sCountOk) .none kV10 dc10 pm10 an10 cd10 ct10), sl10⟩) (c10 : PySem.W.codeIn K cd10 "_law_count_ok" = true) (k10 : PySem.W.keepIn K (.ref f10) = true)
    (a11 : PySem.W.nsIn K mainGlobals "_law_row_ok" = some (some (.ref f11))) (l11 : K.lookup f11 = some ⟨oc11, od11, .func (PySem.W.fnOf "_law_row_ok" "_law_row_ok" (defArgs sRowOk) (defBody sRowOk) (defScope sRowOk) .none kV11 dc11 pm11 an11 cd11 ct11), sl11⟩) (c11 : PySem.W.codeIn K cd11 "_law_row_ok" = true) (k11 : PySem.W.keepIn K (.ref f11) = true)
    (a12 : PySem.W.nsIn K mainGlobals "law" = some (some (.ref f12))) (l12 : K.lookup f12 = some ⟨oc12, od12, .func (PySem.W.fnOf "law" "law" (defArgs sLaw) (defBody sLaw) (defScope sLaw) .none kV12 dc12 pm12 an12 cd12 ct12), sl12⟩) (c12 : PySem.W.codeIn K cd12 "law" = true) (k12 : PySem.W.keepIn K (.ref f12) = true)
    (u0 : PySem.W.nsIn K mainGlobals "LETTERS" = some (some v0)) (w0 : Value.isStrOf letters v0 = true)
    (u1 : PySem.W.nsIn K mainGlobals "LONGEST_NAME" = some (some v1)) (w1 : Value.isInt 8 v1 = true)
    (u2 : PySem.W.nsIn K mainGlobals "MOST_GOALS" = some (some v2)) (w2 : Value.isInt 4 v2 = true)
    (ta0 : PySem.W.nsIn K mainGlobals "WORDS" = some (some (.ref tA0))) (tl0 : K.lookup tA0 = some ⟨tc0, td0, tt0, ts0⟩) (tv0 : isTupV tc0 tt0 (wordsL.map V.str) = true)
    (z0 : PySem.W.nsIn K mainGlobals "isinstance" = some none)
    (z1 : PySem.W.nsIn K mainGlobals "int" = some none)
    (z2 : PySem.W.nsIn K mainGlobals "bool" = some none)
    (z3 : PySem.W.nsIn K mainGlobals "str" = some none)
    (z4 : PySem.W.nsIn K mainGlobals "tuple" = some none)
    (z5 : PySem.W.nsIn K mainGlobals "len" = some none)
    (z6 : PySem.W.nsIn K mainGlobals "all" = some none)
    (z7 : PySem.W.nsIn K mainGlobals "abs" = some none)
    (z8 : PySem.W.nsIn K mainGlobals "range" = some none)
    (z9 : PySem.W.nsIn K mainGlobals "repr" = some none)
    : ∃ fd : FuncData, (∀ (s : Shared) (v : Value), BindsTo s fd ⟨[v], []⟩ [("script", v)]) ∧ ∀ base : Heap, K.In base → base.Ns mainGlobals mg → FnOk l.prog w K mg base CX0 4 fa fd ["script"] (spLaw K) := by
  have e := hfa.symm.trans (PySem.W.mg_of X G a12)
  cases e
  have F0 := fun_mk (st := sCount) l0 c0 k0
  have g0 := PySem.W.mg_of X G a0
  have b0 := F0.binds (ps := ["value"]) fun _ _ _ _ _ _ us hl => match us, hl with | [_], _ => rfl
  have F1 := fun_mk (st := sName) l1 c1 k1
  have g1 := PySem.W.mg_of X G a1
  have b1 := F1.binds (ps := ["value"]) fun _ _ _ _ _ _ us hl => match us, hl with | [_], _ => rfl
  have F2 := fun_mk (st := sRow) l2 c2 k2
  have g2 := PySem.W.mg_of X G a2
  have b2 := F2.binds (ps := ["value"]) fun _ _ _ _ _ _ us hl => match us, hl with | [_], _ => rfl
  have F3 := fun_mk (st := sNeed) l3 c3 k3
  have g3 := PySem.W.mg_of X G a3
  have b3 := F3.binds (ps := ["word"]) fun _ _ _ _ _ _ us hl => match us, hl with | [_], _ => rfl
  have F4 := fun_mk (st := sBegin) l4 c4 k4
  have g4 := PySem.W.mg_of X G a4
  have b4 := F4.binds (ps := ["script"]) fun _ _ _ _ _ _ us hl => match us, hl with | [_], _ => rfl
  have F5 := fun_mk (st := sMixed) l5 c5 k5
  have g5 := PySem.W.mg_of X G a5
  have b5 := F5.binds (ps := ["pool", "many"]) fun _ _ _ _ _ _ us hl => match us, hl with | [_, _], _ => rfl
  have F6 := fun_mk (st := sDraw) l6 c6 k6
  have g6 := PySem.W.mg_of X G a6
  have b6 := F6.binds (ps := ["pool", "many"]) fun _ _ _ _ _ _ us hl => match us, hl with | [_, _], _ => rfl
  have F7 := fun_mk (st := sBadNum) l7 c7 k7
  have g7 := PySem.W.mg_of X G a7
  have b7 := F7.binds (ps := ["pool"]) fun _ _ _ _ _ _ us hl => match us, hl with | [_], _ => rfl
  have F8 := fun_mk (st := sBadName) l8 c8 k8
  have g8 := PySem.W.mg_of X G a8
  have b8 := F8.binds (ps := ["pool"]) fun _ _ _ _ _ _ us hl => match us, hl with | [_], _ => rfl
  have F9 := fun_mk (st := sWordOk) l9 c9 k9
  have g9 := PySem.W.mg_of X G a9
  have b9 := F9.binds (ps := ["value"]) fun _ _ _ _ _ _ us hl => match us, hl with | [_], _ => rfl
  have F10 := fun_mk (st := sCountOk) l10 c10 k10
  have g10 := PySem.W.mg_of X G a10
  have b10 := F10.binds (ps := ["value"]) fun _ _ _ _ _ _ us hl => match us, hl with | [_], _ => rfl
  have F11 := fun_mk (st := sRowOk) l11 c11 k11
  have g11 := PySem.W.mg_of X G a11
  have b11 := F11.binds (ps := ["value"]) fun _ _ _ _ _ _ us hl => match us, hl with | [_], _ => rfl
  have F12 := fun_mk (st := sLaw) l12 c12 k12
  have g12 := PySem.W.mg_of X G a12
  have n0 := PySem.W.mg_none_of X G z0
  have n1 := PySem.W.mg_none_of X G z1
  have n2 := PySem.W.mg_none_of X G z2
  have n3 := PySem.W.mg_none_of X G z3
  have n4 := PySem.W.mg_none_of X G z4
  have n5 := PySem.W.mg_none_of X G z5
  have n6 := PySem.W.mg_none_of X G z6
  have n7 := PySem.W.mg_none_of X G z7
  have n8 := PySem.W.mg_none_of X G z8
  have n9 := PySem.W.mg_none_of X G z9
  have m0 := PySem.W.mg_of X G u0
  have m1 := PySem.W.mg_of X G u1
  have m2 := PySem.W.mg_of X G u2
  have tm0 := PySem.W.mg_of X G ta0
  obtain ⟨t0, rfl⟩ := Value.isStrOf_shape w0
  obtain ⟨t1, rfl⟩ := Value.isInt_shape w1
  obtain ⟨t2, rfl⟩ := Value.isInt_shape w2
  have T : MTxt K mg := ⟨n0, n1, n2, n3, n4, n5, n6, ⟨_, m0⟩, ⟨_, m1⟩, ⟨_, m2⟩⟩
  have TP : PTxt mg := ⟨n1, n7, n5, n3, n8⟩
  have sW : ∀ H, SqT K H tA0 (wordsL.map V.str) := fun H => sqT_written tl0 tv0
  exact ⟨PySem.W.fnOf "law" "law" (defArgs sLaw) (defBody sLaw) (defScope sLaw) .none kV12 dc12 pm12 an12 cd12 ct12, fun s v => .of_eq rfl, fun base _ _ => by
    have GD : FnOk l.prog w K mg base CX0 2 f6 _ ["pool", "many"] spDraw := ok_draw F6 TP F5 b5 g5
    exact ok_law F12 T TP n9 tm0 sW F4 b4 g4 (ok_begin F4 TP) F6 b6 g6 GD F8 b8 g8 (ok_badname F8 F6 b6 g6 GD) F7 b7 g7 (ok_badnum F7 F6 b6 g6 GD)
      F2 b2 g2 (ok_row F2 T tm0 sW F0 b0 g0 F1 b1 g1 F3 b3 g3) F11 b11 g11 (ok_rowok F11 T F10 b10 g10 F9 b9 g9)⟩
theorem walk {l : PySem.W.OpenLaw} {q : Program} {loose : List Str} {XP : (Str → Option Value) → Heap → Prop} {YP : World → Heap → Prop} {d : DefRec} {K : Params → PySem.W.Frag} (hn : l.most = some 63) (hdf : d.params.defaults = [])
    (hY : ∀ (w : World) (h : Heap), YP w h → (K w.params).In h)
    (F : ∀ (w : World) (mg : Str → Option Value) (fa : Addr) (h : Heap), (K w.params).In h → h.Ns mainGlobals mg → mg d.name = some (.ref fa) →
      ∃ fd : FuncData, (∀ (s : Shared) (u : Value), BindsTo s fd ⟨[u], []⟩ [("script", u)]) ∧ ∀ base : Heap, (K w.params).In base → base.Ns mainGlobals mg → FnOk l.prog w (K w.params) mg base CX0 4 fa fd ["script"] (spLaw (K w.params))) :
    PySem.W.WalkO q loose XP YP l.row.toRowW d [] (fun f vs => PySem.call f vs) :=
  L2.walk_of (n := 63) (k := 4) (x := "script") (CX := fun _ => CX0) (sp := fun w => spLaw (K w.params)) hn (by decide) hdf ⟨rfl, by decide, by decide⟩ hY F (fun _ _ a ns hl _ hS => ⟨a, ns, rfl, hS, hl, fun _ => rfl⟩) fun _ _ _ _ _ z => z
end Toy

open PySem PySem.W PyProof.Rows in
set_option maxRecDepth 100000 in
set_option maxHeartbeats 0 in
theorem PySem.Challenge.cw_handlesagain_k01_rows_holds : PySem.Challenge.rw_handlesagain_k01_rows.Holds := by
  w_on; o_law; k_head; (case hw => w_witness2)
  k_fill
  refine Toy.walk (l := PySem.Challenge.rw_handlesagain_k01_rows) rfl rfl (fun w h Y => PySem.W.kIn_of Y) ?F
  case F =>
    intro w mg fa h KX G hmg
    refine' Toy.all_mk KX G hmg ?a0 ?l0 ?c0 ?k0 ?a1 ?l1 ?c1 ?k1 ?a2 ?l2 ?c2 ?k2 ?a3 ?l3 ?c3 ?k3 ?a4 ?l4 ?c4 ?k4 ?a5 ?l5 ?c5 ?k5 ?a6 ?l6 ?c6 ?k6 ?a7 ?l7 ?c7 ?k7 ?a8 ?l8 ?c8 ?k8 ?a9 ?l9 ?c9 ?k9 ?a10 ?l10 ?c10 ?k10 ?a11 ?l11 ?c11 ?k11 ?a12 ?l12 ?c12 ?k12 ?u0 ?w0 ?u1 ?w1 ?u2 ?w2 ?ta0 ?tl0 ?tv0 ?z0 ?z1 ?z2 ?z3 ?z4 ?z5 ?z6 ?z7 ?z8 ?z9
    (case a0 => k_is)
    (case l0 => k_is)
    (case c0 => k_is)
    (case k0 => k_is)
    (case a1 => k_is)
    (case l1 => k_is)
    (case c1 => k_is)
    (case k1 => k_is)
    (case a2 => k_is)
    (case l2 => k_is)
    (case c2 => k_is)
    (case k2 => k_is)
    (case a3 => k_is)
    (case l3 => k_is)
    (case c3 => k_is)
    (case k3 => k_is)
    (case a4 => k_is)
    (case l4 => k_is)
    (case c4 => k_is)
    (case k4 => k_is)
    (case a5 => k_is)
    (case l5 => k_is)
    (case c5 => k_is)
    (case k5 => k_is)
    (case a6 => k_is)
    (case l6 => k_is)
    (case c6 => k_is)
    (case k6 => k_is)
    (case a7 => k_is)
    (case l7 => k_is)
    (case c7 => k_is)
    (case k7 => k_is)
    (case a8 => k_is)
    (case l8 => k_is)
    (case c8 => k_is)
    (case k8 => k_is)
    (case a9 => k_is)
    (case l9 => k_is)
    (case c9 => k_is)
    (case k9 => k_is)
    (case a10 => k_is)
    (case l10 => k_is)
    (case c10 => k_is)
    (case k10 => k_is)
    (case a11 => k_is)
    (case l11 => k_is)
    (case c11 => k_is)
    (case k11 => k_is)
    (case a12 => k_is)
    (case l12 => k_is)
    (case c12 => k_is)
    (case k12 => k_is)
    (case u0 => k_is)
    (case w0 => decide +kernel)
    (case u1 => k_is)
    (case w1 => decide +kernel)
    (case u2 => k_is)
    (case w2 => decide +kernel)
    (case ta0 => k_is)
    (case tl0 => k_is)
    (case tv0 => decide +kernel)
    (case z0 => k_is)
    (case z1 => k_is)
    (case z2 => k_is)
    (case z3 => k_is)
    (case z4 => k_is)
    (case z5 => k_is)
    (case z6 => k_is)
    (case z7 => k_is)
    (case z8 => k_is)
    (case z9 => k_is)
