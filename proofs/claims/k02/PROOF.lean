import PyProof.Rows.All
import Wide.All
import OpenK.AllK
import Wide.FinOn
import HandS.Words
import HandS.WordsExc
import HandS.ForMost
import HandS.Zip
import HandS.Codes
import HandS.Walk
import HandS.Wide
import HandS.Gcd
import HandS.IsInst
import HandS.AnyAll
import HandS.WideBits
import KE.IntBitsLaws
import HandS.Defaults
import HandS.Text
import HandS.FStr
import PyProof.StrBlock2
import HandS.ClsMeth
import HandS.HeadHook1
import HandS.HeadHook2
import HandS.HeadNt
import KE.KStateDown
import Lean
import HandS.Head0
import HandS.Head1
import HandS.Head2
import HandS.Head3
import HandS.HeadEnd
import PySem.Challenge.RW_creepclocks_k02_roots_and_texts_of_fract
set_option Elab.async false
set_option linter.all false
set_option maxRecDepth 100000
section
set_option maxHeartbeats 4000000
namespace Kr
open PySem PySem.Spec PyProof.Rows L2
def top (i : Nat) : Stmt := PySem.Challenge.pw_creepclocks_k02_roots_and_texts_of_fract.main.body.getD i (.Pass ⟨0, 0, 0, 0⟩)
end Kr
end
section
set_option maxHeartbeats 4000000
namespace Kr
open PySem PySem.Spec PyProof.Rows L2
/-! ### the bag -/
def bagL (p : Addr) (i r sd c : Int) : List V := [.ref p, .int i, .int r, .int sd, .int c]
structure Bag (H : Hp) (B p : Addr) : Prop where
  ex : ∃ (ns : List Int) (i r sd c : Int), H B = some (.lst (bagL p i r sd c)) ∧ H p = some (.lst (ns.map V.int)) ∧ p ≠ B ∧ 0 ≤ i ∧ 0 ≤ r ∧ 0 ≤ sd ∧ sd < 2147483629
/-- all but the bag stands -/
def But (B : Addr) (H H' : Hp) : Prop := ∀ b o, b ≠ B → H b = some o → H' b = some o
theorem But.refl {B : Addr} {H : Hp} : But B H H := fun _ _ _ h => h
theorem But.trans {B : Addr} {H H1 H2 : Hp} (a : But B H H1) (b : But B H1 H2) : But B H H2 := fun x o n h => b x o n (a x o n h)
theorem But.new {B : Addr} {H : Hp} {p : Addr} {o : HO} (h : H p = none) : But B H (upd H p o) := fun b u _ q => by rw [upd_ne (ne_of_none q h)]; exact q
theorem But.same {B : Addr} {H H' : Hp} (h : Same H H') : But B H H' := fun b o _ q => h b o q
theorem Bag.same {H H' : Hp} {B p : Addr} (b : Bag H B p) (h : Same H H') : Bag H' B p := by
  obtain ⟨ns, i, r, sd, c, h1, h2, h3⟩ := b.ex
  exact ⟨ns, i, r, sd, c, h _ _ h1, h _ _ h2, h3⟩
def spDraw : Sp := fun vs H Q _ => ∃ (B p : Addr) (L : Int), vs = [.ref B, .int L] ∧ 0 < L ∧ L < 1073741824 ∧ Bag H B p ∧
  ∀ H' k, Bag H' B p → But B H H' → 0 ≤ k → k < L → Q (.int k) H'
section
variable {P : Program} {w : World} {K : PySem.W.Frag} {mg : Str → Option Value} {base : Heap} {f : Addr} {fd : FuncData}
theorem scDraw : FnScope ["_law_bag_here", "_law_limit", "_law_item", "_law_digit"] ["_law_bag_here", "_law_limit"] (defScope (top 72)) := ⟨rfl, rfl, rfl, by decide +kernel, rfl, by decide +kernel, by decide +kernel⟩
theorem ok_draw (F : Fun K "_law_draw" "_law_draw" (top 72) f fd) (ml : mg "len" = none) (mi : mg "int" = none) : FnOk P w K mg base CX0 1 f fd ["_law_bag_here", "_law_limit"] spDraw := by
  refine F.ok scDraw (fun vs H Q E h => ?_) (fun cdv A outer s H vs Q E hr h => ?_)
  · obtain ⟨B, p, L, rfl, _⟩ := h
    rfl
  obtain ⟨B, p, L, rfl, l1, l2, hb, q⟩ := h
  obtain ⟨ns, i, r, sd, c, hB, hp, np, i0, r0, s0, s1⟩ := hb.ex
  refine ⟨_, pss_cons (ps_asg (pe_op op_add (pe_ix ix_list (pv 0) pe_int (fun _ _ => rfl)) pe_int) (pg_sub (pv 0) pe_int set_list))
    (C8.pss_cut (ps_if (PW.pt (pw_and (pt_cmpR op_eq (pe_ix ix_list (pv 0) pe_int (fun _ _ => rfl)) pe_int (nomark _)) (pw_and1 (pt_cmpR op_lt (pe_ix ix_list (pv 0) pe_int (fun _ _ => rfl)) (pe_callB call_len_seq rfl ml PySem.boot_len (pa_cons (pe_ix ix_list (pv 0) pe_int (fun _ _ => rfl)) pa_nil)) (nomark _)))))
        (pss_cons (ps_set (i := 2) scDraw.nd rfl (Or.inl rfl) (pe_ix ix_list (pe_ix ix_list (pv 0) pe_int (fun _ _ => rfl)) (pe_ix ix_list (pv 0) pe_int (fun _ _ => rfl)) (fun _ _ => rfl)))
        (pss_cons (ps_asg (pe_op op_add (pe_ix ix_list (pv 0) pe_int (fun _ _ => rfl)) pe_int) (pg_sub (pv 0) pe_int set_list))
        (pss_one (ps_if (pt_cmpR op_ge (pv 2) (pe_op op_pow pe_int pe_int) (nomark _))
          (pss_one (ps_asg (pv 2) (pg_sub (pv 0) pe_int set_list)))
          (pss_one (ps_asg (pe_op op_mod (pe_callTy call_int1 rfl mi (by decide +kernel) (pa_cons (pe_op op_add (pe_op op_add (pe_op op_mul (pe_ix ix_list (pv 0) pe_int (fun _ _ => rfl)) pe_int) (pe_op op_mul (pe_op op_mod (pe_callTy call_int1 rfl mi (by decide +kernel) (pa_cons (pv 2) pa_nil)) pe_int) pe_int)) pe_int) pa_nil)) pe_int) (pg_sub (pv 0) pe_int set_list)))))))
        pss_nil)
    (pss_cons (ps_if (pt_cmpR op_gt (pe_ix ix_list (pv 0) pe_int (fun _ _ => rfl)) pe_int (nomark _))
        (pss_cons (ps_set (i := 3) scDraw.nd rfl (Or.inl rfl) (pe_op op_mod (pe_callTy call_int1 rfl mi (by decide +kernel) (pa_cons (pe_ix ix_list (pv 0) pe_int (fun _ _ => rfl)) pa_nil)) (pv 1)))
        (pss_cons (ps_asg (pe_op op_fdiv (pe_ix ix_list (pv 0) pe_int (fun _ _ => rfl)) (pv 1)) (pg_sub (pv 0) pe_int set_list))
        (pss_one (ps_ret (pv 3)))))
        pss_nil)
    (pss_cons (ps_asg (pe_op op_mod (pe_callTy call_int1 rfl mi (by decide +kernel) (pa_cons (pe_op op_add (pe_op op_add (pe_op op_pow (pe_ix ix_list (pv 0) pe_int (fun _ _ => rfl)) pe_int) (pe_op op_mul (pe_ix ix_list (pv 0) pe_int (fun _ _ => rfl)) pe_int)) pe_int) pa_nil)) pe_int) (pg_sub (pv 0) pe_int set_list))
    (pss_one (ps_ret (pe_op op_mod (pe_callTy call_int1 rfl mi (by decide +kernel) (pa_cons (pe_op op_add (pe_op op_fdiv (pe_ix ix_list (pv 0) pe_int (fun _ _ => rfl)) pe_int) (pe_op op_mul (pe_op op_mod (pe_callTy call_int1 rfl mi (by decide +kernel) (pa_cons (pe_ix ix_list (pv 0) pe_int (fun _ _ => rfl)) pa_nil)) pe_int) pe_int)) pa_nil)) (pv 1))))))), ?_⟩
  refine ⟨_, rfl, B, _, 4, _, rfl, rfl, SqL.of hB, rfl, c, 1, rfl, rfl, _, rfl, B, _, 4, 4, rfl, rfl, hB, rfl, ?_⟩
  have e1 : (bagL p i r sd c).set 4 (.int (c + 1)) = bagL p i r sd (c + 1) := rfl
  have hB1 : (upd H B (.lst ((bagL p i r sd c).set 4 (.int (c + 1))))) B = some (.lst (bagL p i r sd (c + 1))) := upd_same
  have hp1 : (upd H B (.lst ((bagL p i r sd c).set 4 (.int (c + 1))))) p = some (.lst (ns.map V.int)) := by rw [upd_ne np]; exact hp
  have b1 : But B H (upd H B (.lst ((bagL p i r sd c).set 4 (.int (c + 1))))) := fun b o n z => by rw [upd_ne n]; exact z
  generalize upd H B (.lst ((bagL p i r sd c).set 4 (.int (c + 1)))) = H1 at hB1 hp1 b1 ⊢
  refine ⟨fun σ' H' => ∃ (i r sd : Int) (v w : Option V), σ' = [some (.ref B), some (.int L), v, w] ∧ H' B = some (.lst (bagL p i r sd (c + 1))) ∧ H' p = some (.lst (ns.map V.int)) ∧ But B H H' ∧ 0 ≤ i ∧ 0 ≤ r ∧ 0 ≤ sd ∧ sd < 2147483629, ?_, ?_⟩
  · refine ⟨_, rfl, B, _, 2, _, rfl, rfl, SqL.of hB1, rfl, rfl, _, rfl, ?_⟩
    refine ite2 (fun _ => ?_) (fun _ => iteF ⟨i, r, sd, none, none, rfl, hB1, hp1, b1, i0, r0, s0, s1⟩)
    refine ⟨_, rfl, B, _, 1, _, rfl, rfl, SqL.of hB1, rfl, _, rfl, B, _, 0, _, rfl, rfl, SqL.of hB1, rfl, p, _, rfl, .inl (SqL.of hp1), i, _, rfl, rfl, _, rfl, ?_⟩
    refine ite2 (fun c1 => ?_) (fun _ => ⟨i, r, sd, none, none, rfl, hB1, hp1, b1, i0, r0, s0, s1⟩)
    have c2 : i < (((ns.map V.int).length : Nat) : Int) := of_decide_eq_true c1
    rw [List.length_map] at c2
    have hz : (ns.map V.int)[i.toNat]? = some (.int (ns[i.toNat]'(by omega))) := by rw [List.getElem?_map, List.getElem?_eq_getElem (by omega)]; rfl
    generalize ns[i.toNat]'(by omega) = z at hz
    have ha : atI (ns.map V.int) i = some (.int z) := at_of (by omega) hz
    refine ⟨_, rfl, B, _, 0, _, rfl, rfl, SqL.of hB1, rfl, _, rfl, B, _, 1, _, rfl, rfl, SqL.of hB1, rfl, p, _, i, _, rfl, rfl, SqL.of hp1, ha, ?_⟩
    refine ⟨_, rfl, B, _, 1, _, rfl, rfl, SqL.of hB1, rfl, i, 1, rfl, rfl, _, rfl, B, _, 1, 1, rfl, rfl, hB1, rfl, ?_⟩
    have hB2 : (upd H1 B (.lst ((bagL p i r sd (c + 1)).set 1 (.int (i + 1))))) B = some (.lst (bagL p (i + 1) r sd (c + 1))) := upd_same
    have hp2 : (upd H1 B (.lst ((bagL p i r sd (c + 1)).set 1 (.int (i + 1))))) p = some (.lst (ns.map V.int)) := by rw [upd_ne np]; exact hp1
    have b2 : But B H (upd H1 B (.lst ((bagL p i r sd (c + 1)).set 1 (.int (i + 1))))) := b1.trans fun b o n z => by rw [upd_ne n]; exact z
    generalize upd H1 B (.lst ((bagL p i r sd (c + 1)).set 1 (.int (i + 1)))) = H2 at hB2 hp2 b2 ⊢
    refine ⟨_, rfl, 10, 18, rfl, rfl, ⟨by decide, by decide, by decide⟩, z, _, rfl, rfl, _, rfl, ?_⟩
    refine ite2 (fun c3 => ?_) (fun _ => ?_)
    · have c4 : (10 : Int) ^ (18 : Int).toNat ≤ z := of_decide_eq_true c3
      refine ⟨_, rfl, _, rfl, B, _, 2, 2, rfl, rfl, hB2, rfl, i + 1, z, sd, some (.int z), none, rfl, upd_same, by rw [upd_ne np]; exact hp2, b2.trans fun b o n z => by rw [upd_ne n]; exact z, by omega, ?_, s0, s1⟩
      exact Int.le_trans (by decide) c4
    · refine ⟨_, rfl, B, _, 3, _, rfl, rfl, SqL.of hB2, rfl, sd, 69621, rfl, rfl, .inr ⟨by decide, by decide⟩, _, rfl, .inl ⟨z, rfl, ?_⟩⟩
      refine ⟨z, 2147483549, rfl, rfl, (by show (0 : Int) < 2147483549; decide), _, 30103, rfl, rfl, .inr ⟨by decide, by decide⟩, _, _, rfl, rfl, _, 89, rfl, rfl, .inl ⟨_, rfl, ?_⟩⟩
      refine ⟨_, 2147483629, rfl, rfl, (by show (0 : Int) < 2147483629; decide), _, rfl, B, _, 3, 3, rfl, rfl, hB2, rfl, i + 1, r, _, some (.int z), none, rfl, upd_same, by rw [upd_ne np]; exact hp2, b2.trans fun b o n z => by rw [upd_ne n]; exact z, by omega, r0, Int.emod_nonneg _ (by decide), Int.emod_lt_of_pos _ (by decide)⟩
  · rintro σ' H' ⟨i, r, sd, v, w', rfl, hB2, hp2, b2, i0, r0, s0, s1⟩
    refine ⟨_, rfl, B, _, 2, _, rfl, rfl, SqL.of hB2, rfl, r, 0, rfl, rfl, _, rfl, ?_⟩
    refine ite2 (fun _ => ?_) (fun _ => ?_)
    · refine ⟨_, rfl, B, _, 2, _, rfl, rfl, SqL.of hB2, rfl, .inl ⟨r, rfl, _, rfl, r, L, rfl, rfl, l1, ?_⟩⟩
      refine ⟨_, rfl, B, _, 2, _, rfl, rfl, SqL.of hB2, rfl, _, rfl, r, L, rfl, rfl, ⟨l1, l2⟩, _, rfl, B, _, 2, 2, rfl, rfl, hB2, rfl, ?_⟩
      refine ⟨_, rfl, q _ _ ⟨ns, i, r / L, sd, c + 1, upd_same, by rw [upd_ne np]; exact hp2, np, i0, Int.ediv_nonneg r0 (by omega), s0, s1⟩ (b2.trans fun b o n z => by rw [upd_ne n]; exact z) (Int.emod_nonneg _ (by omega)) (Int.emod_lt_of_pos _ l1)⟩
    · refine ⟨_, rfl, B, _, 3, _, rfl, rfl, SqL.of hB2, rfl, sd, 3, rfl, rfl, ⟨by decide, by decide, by omega⟩, ?_⟩
      refine ⟨_, rfl, B, _, 4, _, rfl, rfl, SqL.of hB2, rfl, c + 1, 1299709, rfl, rfl, .inr ⟨by decide, by decide⟩, _, _, rfl, rfl, _, 60013, rfl, rfl, .inl ⟨_, rfl, _, 2147483629, rfl, rfl, (by show (0 : Int) < 2147483629; decide), _, rfl, B, _, 3, 3, rfl, rfl, hB2, rfl, ?_⟩⟩
      have v0 := Int.emod_nonneg (sd ^ Int.toNat 3 + (c + 1) * 1299709 + 60013) (show (2147483629 : Int) ≠ 0 by decide)
      have v1 := Int.emod_lt_of_pos (sd ^ Int.toNat 3 + (c + 1) * 1299709 + 60013) (show (0 : Int) < 2147483629 by decide)
      have hB3 : (upd H' B (.lst ((bagL p i r sd (c + 1)).set 3 (.int ((sd ^ Int.toNat 3 + (c + 1) * 1299709 + 60013) % 2147483629))))) B = some (.lst (bagL p i r ((sd ^ Int.toNat 3 + (c + 1) * 1299709 + 60013) % 2147483629) (c + 1))) := upd_same
      have hp3 : (upd H' B (.lst ((bagL p i r sd (c + 1)).set 3 (.int ((sd ^ Int.toNat 3 + (c + 1) * 1299709 + 60013) % 2147483629))))) p = some (.lst (ns.map V.int)) := by rw [upd_ne np]; exact hp2
      have b3 : But B H (upd H' B (.lst ((bagL p i r sd (c + 1)).set 3 (.int ((sd ^ Int.toNat 3 + (c + 1) * 1299709 + 60013) % 2147483629))))) := b2.trans fun b o n z => by rw [upd_ne n]; exact z
      refine ⟨_, rfl, B, _, 3, _, rfl, rfl, SqL.of hB3, rfl, _, 97, rfl, rfl, ⟨by decide, by decide⟩, _, rfl, B, _, 3, _, rfl, rfl, SqL.of hB3, rfl, .inl ⟨_, rfl, ?_⟩⟩
      refine ⟨_, 7901, rfl, rfl, (by show (0 : Int) < 7901; decide), _, 67, rfl, rfl, .inr ⟨by decide, by decide⟩, _, _, rfl, rfl, .inl ⟨_, rfl, _, rfl, _, L, rfl, rfl, l1, ?_⟩⟩
      exact q _ _ ⟨ns, i, r, _, c + 1, hB3, hp3, np, i0, r0, v0, v1⟩ b3 (Int.emod_nonneg _ (by omega)) (Int.emod_lt_of_pos _ l1)
end
end Kr
end
section
set_option maxHeartbeats 4000000
namespace Kr
open PySem PySem.Spec PyProof.Rows L2
theorem cut_map (ns : List Int) (lo hi : Option Int) : ∃ ms : List Int, cutV (ns.map V.int) lo hi = ms.map V.int := by
  unfold cutV
  rw [List.length_map, ← List.map_drop, ← List.map_take]
  exact ⟨_, rfl⟩
def spBag (K : PySem.W.Frag) : Sp := fun vs H Q _ => ∃ (a : Addr) (ns : List Int), vs = [.ref a] ∧ SqL K H a (ns.map V.int) ∧ ∀ H' B p, Same H H' → H B = none → Bag H' B p → Q (.ref B) H'
theorem new_same {H : Hp} {p : Addr} (h : H p = none) (o : HO) : Same H (upd H p o) := fun b u q => by rw [upd_ne (ne_of_none q h)]; exact q
section
variable {P : Program} {w : World} {K : PySem.W.Frag} {mg : Str → Option Value} {base : Heap} {f fD : Addr} {fd fdD : FuncData}
theorem scBag : FnScope ["_law_script", "_law_seed", "_law_item"] ["_law_script"] (defScope (top 71)) := ⟨rfl, rfl, rfl, by decide +kernel, rfl, by decide +kernel, by decide +kernel⟩
theorem ok_bag (F : Fun K "_law_bag" "_law_bag" (top 71) f fd) (ml : mg "list" = none) (mi : mg "int" = none) : FnOk P w K mg base CX0 1 f fd ["_law_script"] (spBag K) := by
  refine F.ok scBag (fun vs H Q E h => ?_) (fun cdv A outer s H vs Q E hr h => ?_)
  · obtain ⟨a, ns, rfl, _⟩ := h
    rfl
  obtain ⟨a, ns, rfl, hS, q⟩ := h
  obtain ⟨ms, hm⟩ := cut_map ns none (some 63)
  refine ⟨_, pss_cons (ps_set (i := 1) scBag.nd rfl (Or.inl rfl) pe_int)
    (pss_cons (ps_for PassesOwn.never rfl (pi_list (pe_slice sl_list (pv 0) po_none (po_some pe_int))) (pg_name (i := 2) scBag.nd rfl (Or.inl rfl))
      (pss_one (ps_set (i := 1) scBag.nd rfl (Or.inl rfl) (pe_op op_mod (pe_callTy call_int1 rfl mi (by decide +kernel) (pa_cons (pe_op op_add (pe_op op_add (pe_op op_mul (pv 1) pe_int) (pe_op op_mod (pe_callTy call_int1 rfl mi (by decide +kernel) (pa_cons (pv 2) pa_nil)) pe_int)) pe_int) pa_nil)) pe_int))))
    (pss_one (ps_ret (pe_lst (pa_cons (pe_callTy call_list_of rfl ml (by decide +kernel) (pa_cons (pe_slice sl_list (pv 0) po_none (po_some pe_int)) pa_nil)) (pa_cons pe_int (pa_cons pe_int (pa_cons (pv 1) (pa_cons pe_int pa_nil))))))))), ?_⟩
  refine ⟨_, rfl, 63, rfl, a, _, rfl, hS, fun p np => ⟨p, rfl, ⟨_, SqL.of upd_same⟩, for_list (K := K) (a := p) (xs := cutV (ns.map V.int) none (some 63))
    (fun i σ H' => ∃ (sd : Int) (v : Option V), σ = [some (.ref a), some (.int sd), v] ∧ 0 ≤ sd ∧ sd < 2147483629 ∧ H' = upd H p (.lst (cutV (ns.map V.int) none (some 63)))) ⟨13960, none, rfl, by decide, by decide, rfl⟩ (fun i σ H' _ h => ?_) ?_ ?_⟩⟩
  · obtain ⟨_, _, _, _, _, rfl⟩ := h
    exact SqL.of upd_same
  · rintro i y σ H' hy ⟨sd, v, rfl, s0, s1, rfl⟩
    obtain ⟨z, rfl⟩ : ∃ z, y = V.int z := by
      rw [hm, List.getElem?_map] at hy
      obtain ⟨z, _, e⟩ := Option.map_eq_some_iff.mp hy
      exact ⟨z, e.symm⟩
    refine ⟨_, rfl, sd, 48271, rfl, rfl, .inr ⟨by decide, by decide⟩, _, rfl, .inl ⟨z, rfl, z, 2147483587, rfl, rfl, (by show (0 : Int) < 2147483587; decide), _, _, rfl, rfl, _, 307, rfl, rfl, .inl ⟨_, rfl, _, 2147483629, rfl, rfl, (by show (0 : Int) < 2147483629; decide), ?_⟩⟩⟩
    exact ⟨_, _, rfl, Int.emod_nonneg _ (by decide), Int.emod_lt_of_pos _ (by decide), rfl⟩
  · rintro σ H' ⟨sd, v, rfl, s0, s1, rfl⟩
    have g1 : Same H (upd H p (.lst (cutV (ns.map V.int) none (some 63)))) := new_same np _
    generalize upd H p (.lst (cutV (ns.map V.int) none (some 63))) = H1 at g1
    refine ⟨_, rfl, 63, rfl, a, _, rfl, g1.seq hS, fun p2 np2 => ⟨p2, _, rfl, .inl (SqL.of upd_same), fun l nl => ?_⟩⟩
    have g2 := g1.trans (new_same np2 (.lst (cutV (ns.map V.int) none (some 63))))
    generalize upd H1 p2 (.lst (cutV (ns.map V.int) none (some 63))) = H2 at g2 nl
    have g3 := g2.trans (new_same nl (.lst (cutV (ns.map V.int) none (some 63))))
    have hl : (upd H2 l (.lst (cutV (ns.map V.int) none (some 63)))) l = some (.lst (ms.map V.int)) := by rw [upd_same, hm]
    generalize upd H2 l (.lst (cutV (ns.map V.int) none (some 63))) = H3 at g3 hl
    refine ⟨_, rfl, (by show 5 ≤ sizeLine; decide), fun B nB => q _ B l (g3.trans (new_same nB _)) (g3.free nB) ⟨ms, 0, 0, sd, 0, upd_same, ?_, ?_, by decide, by decide, s0, s1⟩⟩
    · rw [upd_ne (ne_of_none hl nB)]
      exact hl
    · exact ne_of_none hl nB
/-! ### one of several -/
def spOfL : Sp := fun vs H Q _ => ∃ (B p t : Addr) (xs : List V), vs = [.ref B, .ref t] ∧ H t = some (.lst xs) ∧ t ≠ B ∧ 0 < xs.length ∧ xs.length ≤ 1000 ∧ Bag H B p ∧ ∀ H' x, Bag H' B p → But B H H' → x ∈ xs → Q x H'
def spOfS : Sp := fun vs H Q _ => ∃ (B p : Addr) (z : Str), vs = [.ref B, .str z] ∧ 0 < z.length ∧ z.length ≤ 1000 ∧ Bag H B p ∧ ∀ H' c, Bag H' B p → But B H H' → Q (.str ⟨#[c]⟩) H'
theorem scOf : FnScope ["_law_bag_here", "_law_things"] ["_law_bag_here", "_law_things"] (defScope (top 73)) := ⟨rfl, rfl, rfl, by decide +kernel, rfl, by decide +kernel, by decide +kernel⟩
theorem at_in {xs : List V} {k : Int} (h0 : 0 ≤ k) (h1 : k < (xs.length : Int)) : ∃ x, atI xs k = some x ∧ x ∈ xs := by
  have hk : k.toNat < xs.length := by omega
  exact ⟨xs[k.toNat], at_of (by omega) (List.getElem?_eq_getElem hk), List.getElem_mem hk⟩
theorem ok_ofL (F : Fun K "_law_of" "_law_of" (top 73) f fd) (G : FnOk P w K mg base CX0 1 fD fdD ["_law_bag_here", "_law_limit"] spDraw) (bD : Binds K fdD ["_law_bag_here", "_law_limit"] []) (kD : PySem.W.keepIn K (.ref fD) = true) (mD : mg "_law_draw" = some (.ref fD)) (ml : mg "len" = none) :
    FnOk P w K mg base CX0 2 f fd ["_law_bag_here", "_law_things"] spOfL := by
  refine F.ok scOf (fun vs H Q E h => ?_) (fun cdv A outer s H vs Q E hr h => ?_)
  · obtain ⟨B, p, t, xs, rfl, _⟩ := h
    rfl
  obtain ⟨B, p, t, xs, rfl, ht, nt, l0, l1, hb, q⟩ := h
  refine ⟨_, pss_one (ps_ret (pe_ix ix_list (pv 1) (pe_call G hr rfl mD kD bD .nil pass0 (pa_cons (pv 0) (pa_cons (pe_callB call_len_seq rfl ml PySem.boot_len (pa_cons (pv 1) pa_nil)) pa_nil))) (fun _ _ => rfl))), ?_⟩
  refine ⟨_, rfl, _, rfl, _, rfl, t, _, rfl, .inl (SqL.of ht), B, p, _, rfl, by omega, by omega, hb, fun H' k b' u k0 k1 => ?_⟩
  obtain ⟨x, hx, hm⟩ := at_in k0 k1
  exact ⟨t, xs, k, x, rfl, rfl, SqL.of (u _ _ nt ht), hx, q H' x b' u hm⟩
theorem ok_ofS (F : Fun K "_law_of" "_law_of" (top 73) f fd) (G : FnOk P w K mg base CX0 1 fD fdD ["_law_bag_here", "_law_limit"] spDraw) (bD : Binds K fdD ["_law_bag_here", "_law_limit"] []) (kD : PySem.W.keepIn K (.ref fD) = true) (mD : mg "_law_draw" = some (.ref fD)) (ml : mg "len" = none) :
    FnOk P w K mg base CX0 2 f fd ["_law_bag_here", "_law_things"] spOfS := by
  refine F.ok scOf (fun vs H Q E h => ?_) (fun cdv A outer s H vs Q E hr h => ?_)
  · obtain ⟨B, p, z, rfl, _⟩ := h
    rfl
  obtain ⟨B, p, z, rfl, l0, l1, hb, q⟩ := h
  refine ⟨_, pss_one (ps_ret (pe_ix ix_str (pv 1) (pe_call G hr rfl mD kD bD .nil pass0 (pa_cons (pv 0) (pa_cons (pe_callB call_len_str rfl ml PySem.boot_len (pa_cons (pv 1) pa_nil)) pa_nil))) (fun _ _ => rfl))), ?_⟩
  have hz : z.length ≤ sizeLine := Nat.le_of_lt (small1000 l1)
  refine ⟨_, rfl, _, rfl, _, rfl, z, rfl, hz, B, p, _, rfl, by omega, by omega, hb, fun H' k b' u k0 k1 => ?_⟩
  have el : z.cps.toList.length = z.length := Array.length_toList
  have hk : k.toNat < z.cps.toList.length := by omega
  exact ⟨z, k, z.cps.toList[k.toNat], rfl, rfl, hz, by
    have e : atI z.cps.toList ((k.toNat : Nat) : Int) = some z.cps.toList[k.toNat] := atI_nat (List.getElem?_eq_getElem hk)
    rw [show ((k.toNat : Nat) : Int) = k by omega] at e
    exact e, q H' _ b' u⟩
end
end Kr
end
section
set_option maxHeartbeats 4000000
namespace Kr
open PySem PySem.Spec PyProof.Rows L2
/-- // by any divisor but 0, below 2 ^ 9000 -/
theorem op_fdivA {X : Cx} : OpR X (binaryOp .FloorDiv) (rI (fun _ j => j ≠ 0 ∧ j.natAbs.log2 < 9000) fun i j => .int (i.fdiv j)) := opI fun _ _ _ _ _ _ _ hc q => floordiv_int hc.1 q (.inl (PyProof.noPylong_of_log2 hc.2))
/-- the greatest common divisor, with the sign of q -/
def gS (p q : Int) : Int := if q < 0 then -((Nat.gcd p.natAbs q.natAbs : Nat) : Int) else ((Nat.gcd p.natAbs q.natAbs : Nat) : Int)
/-- p over q in lowest terms, above and below -/
def lowU (p q : Int) : Int := p.fdiv (gS p q)
def lowL (p q : Int) : Int := q.fdiv (gS p q)
theorem gS_ne {p q : Int} (h : q ≠ 0) : gS p q ≠ 0 := by
  have g : Nat.gcd p.natAbs q.natAbs ≠ 0 := fun e => h (Int.natAbs_eq_zero.mp (Nat.eq_zero_of_gcd_eq_zero_right e))
  unfold gS
  split <;> omega
theorem gS_abs (p q : Int) : (gS p q).natAbs = Nat.gcd p.natAbs q.natAbs := by
  unfold gS
  split <;> omega
theorem gS_le {p q : Int} (h : q ≠ 0) : (gS p q).natAbs ≤ q.natAbs := by
  rw [gS_abs]
  exact Nat.gcd_le_right _ (Nat.pos_of_ne_zero (fun e => h (Int.natAbs_eq_zero.mp e)))
theorem log_le {a b : Nat} (h : a ≤ b) : a.log2 ≤ b.log2 := by
  by_cases e : a = 0
  · subst e
    rw [Nat.log2_zero]
    omega
  · have := Nat.log2_self_le e
    exact (Nat.le_log2 (by omega)).mpr (Nat.le_trans this h)
theorem abs_nat (i : Int) : (if i < 0 then -i else i) = ((i.natAbs : Nat) : Int) := by
  split <;> omega
def spLow : Sp := fun vs H Q _ => ∃ p q : Int, vs = [.int p, .int q] ∧ q ≠ 0 ∧ q.natAbs.log2 < 9000 ∧ ∀ t, H t = none → Q (.ref t) (upd H t (.tup [.int (lowU p q), .int (lowL p q)]))
abbrev nLow : List Str := ["_law_p", "_law_q", "_law_a", "_law_b"]
section
variable {P : Program} {w : World} {K : PySem.W.Frag} {mg : Str → Option Value} {base : Heap} {f : Addr} {fd : FuncData}
theorem scLow : FnScope nLow ["_law_p", "_law_q"] (defScope (top 75)) := ⟨rfl, rfl, rfl, by decide +kernel, rfl, by decide +kernel, by decide +kernel⟩
theorem ok_low (F : Fun K "_law_low" "_law_low" (top 75) f fd) (ma : mg "abs" = none) (mi : mg "int" = none) : FnOk P w K mg base CX0 1 f fd ["_law_p", "_law_q"] spLow := by
  refine F.ok scLow (fun vs H Q E h => ?_) (fun cdv A outer s H vs Q E hr h => ?_)
  · obtain ⟨p, q, rfl, _⟩ := h
    rfl
  obtain ⟨p, q, rfl, hq, hl, qq⟩ := h
  refine ⟨_, pss_cons (ps_par (i := 2) (j := 3) rfl scLow.nd rfl rfl (by decide) rfl rfl (pa_cons (pe_callB call_abs rfl ma (by decide +kernel) (pa_cons (pv 0) pa_nil)) (pa_cons (pe_callB call_abs rfl ma (by decide +kernel) (pa_cons (pv 1) pa_nil)) pa_nil)) rfl)
    (pss_cons (ps_while PassesOwn.never (pt_cmpR op_gt (pv 3) pe_int (nomark _)) (pss_one (ps_par (i := 2) (j := 3) rfl scLow.nd rfl rfl (by decide) rfl rfl (pa_cons (pv 3) (pa_cons (pe_op op_mod (pe_callTy call_int1 rfl mi (by decide +kernel) (pa_cons (pv 2) pa_nil)) (pv 3)) pa_nil)) rfl)))
    (pss_cons (ps_if (pt_cmpR op_lt (pv 1) pe_int (nomark _)) (pss_one (ps_set (i := 2) scLow.nd rfl (Or.inl rfl) (pe_un un_neg (pv 2)))) pss_nil)
    (pss_one (ps_ret (pe_tup (pa_cons (pe_op op_fdivA (pv 0) (pv 2)) (pa_cons (pe_op op_fdivA (pv 1) (pv 2)) pa_nil))))))), ?_⟩
  refine ⟨_, rfl, p, rfl, _, rfl, q, rfl, _, _, rfl, ?_⟩
  rw [abs_nat, abs_nat]
  refine ⟨fun m σ H' => H' = H ∧ ∃ a b : Nat, σ = [some (.int p), some (.int q), some (.int a), some (.int b)] ∧ Nat.gcd a b = Nat.gcd p.natAbs q.natAbs ∧ b = m, ⟨_, rfl, _, _, rfl, rfl, rfl⟩, ?_⟩
  rintro m σ H' ⟨rfl, a, b, rfl, hg, rfl⟩
  refine ⟨_, rfl, b, 0, rfl, rfl, _, rfl, ite2 (fun c => ?_) (fun c => ?_)⟩
  · have hb : (0 : Int) < (b : Nat) := of_decide_eq_true c
    refine ⟨fun σ' H2 => H2 = H' ∧ σ' = [some (.int p), some (.int q), some (.int b), some (.int ((a % b : Nat) : Int))], ?_, ?_⟩
    · rintro σ' H2 ⟨rfl, rfl⟩
      exact ⟨a % b, Nat.mod_lt _ (by omega), rfl, b, a % b, rfl, by rw [← hg, Nat.gcd_comm a b, Nat.gcd_rec b a, Nat.gcd_comm], rfl⟩
    · exact ⟨_, rfl, _, rfl, .inl ⟨_, rfl, _, rfl, a, b, rfl, rfl, hb, _, _, rfl, rfl, rfl⟩⟩
  · have hb : ¬ (0 : Int) < (b : Nat) := of_decide_eq_false (Bool.eq_false_iff.mpr c)
    obtain rfl : b = 0 := by omega
    rw [Nat.gcd_zero_right] at hg
    subst hg
    have fin : ∀ g : Int, g = gS p q → (∀ t, H' t = none → Q (.ref t) (upd H' t (.tup [.int (p.fdiv g), .int (q.fdiv g)]))) ∧ g ≠ 0 ∧ g.natAbs.log2 < 9000 := by
      rintro g rfl
      exact ⟨qq, gS_ne hq, Nat.lt_of_le_of_lt (log_le (gS_le hq)) hl⟩
    refine ⟨_, rfl, q, 0, rfl, rfl, _, rfl, ite2 (fun c => ?_) (fun c => ?_)⟩
    · obtain ⟨q1, n0, l9⟩ := fin (-((Nat.gcd p.natAbs q.natAbs : Nat) : Int)) (by unfold gS; rw [if_pos (of_decide_eq_true c)])
      exact ⟨_, rfl, _, rfl, _, rfl, _, rfl, p, _, rfl, rfl, ⟨n0, l9⟩, _, rfl, _, rfl, q, _, rfl, rfl, ⟨n0, l9⟩, (by show 2 ≤ sizeLine; decide), q1⟩
    · obtain ⟨q1, n0, l9⟩ := fin ((Nat.gcd p.natAbs q.natAbs : Nat) : Int) (by unfold gS; rw [if_neg (of_decide_eq_false (Bool.eq_false_iff.mpr c))])
      exact ⟨_, rfl, _, rfl, p, _, rfl, rfl, ⟨n0, l9⟩, _, rfl, _, rfl, q, _, rfl, rfl, ⟨n0, l9⟩, (by show 2 ≤ sizeLine; decide), q1⟩
end
end Kr
end
section
set_option maxHeartbeats 4000000
namespace Kr
open PySem PySem.Spec PyProof.Rows L2
theorem lowU_one (x : Int) : lowU x 1 = x := by
  unfold lowU gS
  rw [if_neg (by decide), show Nat.gcd x.natAbs (1 : Int).natAbs = 1 from Nat.gcd_one_right _]
  simp
theorem lowL_one (x : Int) : lowL x 1 = 1 := by
  unfold lowL gS
  rw [if_neg (by decide), show Nat.gcd x.natAbs (1 : Int).natAbs = 1 from Nat.gcd_one_right _]
  rfl
/-- u over l stands at v, both below 2 ^ n -/
def Fr (H : Hp) (n : Nat) (v : V) (u l : Int) : Prop := ∃ a, v = .ref a ∧ H a = some (.tup [.int u, .int l]) ∧ u.natAbs < 2 ^ n ∧ l.natAbs < 2 ^ n ∧ l ≠ 0
theorem Fr.same {H H' : Hp} {n : Nat} {v : V} {u l : Int} (h : Fr H n v u l) (s : Same H H') : Fr H' n v u l := by
  obtain ⟨a, e, h1, h2⟩ := h
  exact ⟨a, e, s _ _ h1, h2⟩
/-- a new pair comes back -/
def Gives (H : Hp) (Q : VK) (u l : Int) : Prop := ∀ t H', Same H H' → H t = none → H' t = some (.tup [.int u, .int l]) → Q (.ref t) H'
theorem add_bd {x y : Int} {n : Nat} (hx : x.natAbs < 2 ^ n) (hy : y.natAbs < 2 ^ n) : (x + y).natAbs < 2 ^ (n + 1) := by
  have := Int.natAbs_add_le x y
  rw [Nat.pow_succ]
  omega
theorem log_bd {x : Int} {n : Nat} (h : x.natAbs < 2 ^ n) (h0 : 0 < n) : x.natAbs.log2 < n := PySem.Flt.log2_lt_of h0 h
end Kr
end
section
set_option maxHeartbeats 4000000
namespace Kr
open PySem PySem.Spec PyProof.Rows L2
section
variable {P : Program} {w : World} {K : PySem.W.Frag} {mg : Str → Option Value} {base : Heap} {f fL : Addr} {fd fdL : FuncData}
def spNeg : Sp := fun vs H Q _ => ∃ (x : V) (a b : Int), vs = [x] ∧ Fr H 1000 x a b ∧ Gives H Q (-a) b
theorem scNeg : FnScope ["_law_a"] ["_law_a"] (defScope (top 76)) := ⟨rfl, rfl, rfl, by decide +kernel, rfl, by decide +kernel, by decide +kernel⟩
theorem ok_neg (F : Fun K "_law_neg" "_law_neg" (top 76) f fd) : FnOk P w K mg base CX0 1 f fd ["_law_a"] spNeg := by
  refine F.ok scNeg (fun vs H Q E h => ?_) (fun cdv A outer s H vs Q E hr h => ?_)
  · obtain ⟨x, a, b, rfl, _⟩ := h
    rfl
  obtain ⟨x, a, b, rfl, ⟨xa, rfl, hx, _⟩, q⟩ := h
  have sx := SqT.of (K := K) hx
  refine ⟨_, pss_one (ps_ret (pe_tup (pa_cons (pe_un un_neg (pe_ix ix_tup (pv 0) pe_int (fun _ _ => rfl))) (pa_cons (pe_ix ix_tup (pv 0) pe_int (fun _ _ => rfl)) pa_nil)))), ?_⟩
  exact ⟨_, rfl, xa, _, 0, _, rfl, rfl, sx, rfl, _, rfl, _, rfl, xa, _, 1, _, rfl, rfl, sx, rfl, (by show 2 ≤ sizeLine; decide), fun t nt => q t _ (new_same nt _) nt upd_same⟩
end
end Kr
end
section
set_option maxHeartbeats 4000000
namespace Kr
open PySem PySem.Spec PyProof.Rows L2
theorem But.free {B p a : Addr} {H H' : Hp} (u : But B H H') (b : Bag H' B p) (h : H' a = none) : H a = none := by
  obtain ⟨_, _, _, _, _, h1, _⟩ := b.ex
  cases e : H a with
  | none => rfl
  | some o =>
    have z := u a o (fun y => by rw [y, h1] at h; cases h) e
    rw [h] at z
    cases z
theorem Bag.put {H : Hp} {B p a : Addr} {o : HO} (b : Bag H B p) (h : H a = none) : Bag (upd H a o) B p := b.same (new_same h o)
theorem Bag.at {H : Hp} {B p : Addr} (b : Bag H B p) {a : Addr} (h : H a = none) : a ≠ B ∧ a ≠ p := by
  obtain ⟨_, _, _, _, _, h1, h2, _⟩ := b.ex
  refine ⟨fun e => ?_, fun e => ?_⟩
  · rw [e, h1] at h
    cases h
  · rw [e, h2] at h
    cases h
/-- a new fraction in lowest terms, below n -/
def FrN (H0 H : Hp) (n : Nat) (v : V) : Prop := ∃ (a : Addr) (u l : Int), v = .ref a ∧ H0 a = none ∧ H a = some (.tup [.int u, .int l]) ∧ u.natAbs < n ∧ l.natAbs < n ∧ 0 < l ∧ Nat.gcd u.natAbs l.natAbs = 1
theorem low_ok {p q : Int} {n : Nat} (h : q ≠ 0) (hp : p.natAbs < n) (hq : q.natAbs < n) : (lowU p q).natAbs < n ∧ (lowL p q).natAbs < n ∧ 0 < lowL p q ∧ Nat.gcd (lowU p q).natAbs (lowL p q).natAbs = 1 := by
  have g0 : 0 < Nat.gcd p.natAbs q.natAbs := Nat.gcd_pos_of_pos_right _ (Nat.pos_of_ne_zero fun e => h (Int.natAbs_eq_zero.mp e))
  obtain ⟨a, ha⟩ : ((Nat.gcd p.natAbs q.natAbs : Nat) : Int) ∣ p := Int.ofNat_dvd_left.mpr (Nat.gcd_dvd_left _ _)
  obtain ⟨b, hb⟩ : ((Nat.gcd p.natAbs q.natAbs : Nat) : Int) ∣ q := Int.ofNat_dvd_left.mpr (Nat.gcd_dvd_right _ _)
  have gi : (0 : Int) < ((Nat.gcd p.natAbs q.natAbs : Nat) : Int) := by omega
  have key : ∃ s : Int, (s = 1 ∨ s = -1) ∧ gS p q = s * ((Nat.gcd p.natAbs q.natAbs : Nat) : Int) ∧ 0 < s * q := by
    unfold gS
    by_cases c : q < 0
    · exact ⟨-1, .inr rfl, by rw [if_pos c]; omega, by omega⟩
    · exact ⟨1, .inl rfl, by rw [if_neg c]; omega, by omega⟩
  obtain ⟨s, hs, hg, sq⟩ := key
  have dv : ∀ x y : Int, x = ((Nat.gcd p.natAbs q.natAbs : Nat) : Int) * y → x.fdiv (gS p q) = s * y := fun x y e => by
    rw [hg, e]
    have z : ((Nat.gcd p.natAbs q.natAbs : Nat) : Int) * y = s * ((Nat.gcd p.natAbs q.natAbs : Nat) : Int) * (s * y) := by
      rcases hs with rfl | rfl
      · simp
      · rw [Int.neg_one_mul, Int.neg_one_mul, Int.neg_mul_neg]
    rw [z]
    exact Int.mul_fdiv_cancel_left _ (by rcases hs with rfl | rfl <;> omega)
  have eU : lowU p q = s * a := dv _ _ ha
  have eL : lowL p q = s * b := dv _ _ hb
  have sa : ∀ x : Int, (s * x).natAbs = x.natAbs := fun x => by rcases hs with rfl | rfl <;> simp
  have na : p.natAbs = Nat.gcd p.natAbs q.natAbs * a.natAbs := by
    have := congrArg Int.natAbs ha
    rwa [Int.natAbs_mul, Int.natAbs_natCast] at this
  have nb : q.natAbs = Nat.gcd p.natAbs q.natAbs * b.natAbs := by
    have := congrArg Int.natAbs hb
    rwa [Int.natAbs_mul, Int.natAbs_natCast] at this
  rw [eU, eL, sa, sa]
  refine ⟨Nat.lt_of_le_of_lt ?_ hp, Nat.lt_of_le_of_lt ?_ hq, ?_, ?_⟩
  · rw [na]; exact Nat.le_mul_of_pos_left _ g0
  · rw [nb]; exact Nat.le_mul_of_pos_left _ g0
  · have z : 0 < ((Nat.gcd p.natAbs q.natAbs : Nat) : Int) * (s * b) := by
      rw [show ((Nat.gcd p.natAbs q.natAbs : Nat) : Int) * (s * b) = s * (((Nat.gcd p.natAbs q.natAbs : Nat) : Int) * b) by rw [Int.mul_left_comm], ← hb]
      exact sq
    rcases Int.lt_or_le 0 (s * b) with c | c
    · exact c
    · have m := Int.mul_le_mul_of_nonneg_left c (Int.le_of_lt gi)
      rw [Int.mul_zero] at m
      omega
  · have e := Nat.gcd_mul_left (Nat.gcd p.natAbs q.natAbs) a.natAbs b.natAbs
    rw [← na, ← nb] at e
    exact Nat.eq_of_mul_eq_mul_left g0 (by rw [Nat.mul_one]; exact e.symm)
end Kr
end
section
set_option maxHeartbeats 4000000
namespace Kr
open PySem PySem.Spec PyProof.Rows L2
def spNum : Sp := fun vs H Q _ => ∃ B p : Addr, vs = [.ref B] ∧ Bag H B p ∧ ∀ H' v, Bag H' B p → But B H H' → FrN H H' (2 ^ 40) v → Q v H'
def spBig : Sp := fun vs H Q _ => ∃ B p : Addr, vs = [.ref B] ∧ Bag H B p ∧ ∀ H' (n : Int), Bag H' B p → But B H H' → n.natAbs < 10 ^ 60 → Q (.int n) H'
def spWide : Sp := fun vs H Q _ => ∃ B p : Addr, vs = [.ref B] ∧ Bag H B p ∧ ∀ H' v, Bag H' B p → But B H H' → FrN H H' (10 ^ 60) v → Q v H'
abbrev nNum : List Str := ["_law_bag_here", "_law_pick", "_law_p"]
abbrev nBig : List Str := ["_law_bag_here", "_law_p", "_law_k"]
abbrev nWide : List Str := ["_law_bag_here", "_law_p", "_law_q"]
section
variable {P : Program} {w : World} {K : PySem.W.Frag} {mg : Str → Option Value} {base : Heap} {f fD fO fL fB : Addr} {fd fdD fdO fdL fdB : FuncData}
theorem scNum : FnScope nNum ["_law_bag_here"] (defScope (top 77)) := ⟨rfl, rfl, rfl, by decide +kernel, rfl, by decide +kernel, by decide +kernel⟩
theorem scBig : FnScope nBig ["_law_bag_here"] (defScope (top 78)) := ⟨rfl, rfl, rfl, by decide +kernel, rfl, by decide +kernel, by decide +kernel⟩
theorem scWide : FnScope nWide ["_law_bag_here"] (defScope (top 79)) := ⟨rfl, rfl, rfl, by decide +kernel, rfl, by decide +kernel, by decide +kernel⟩
section
variable (GD : FnOk P w K mg base CX0 1 fD fdD ["_law_bag_here", "_law_limit"] spDraw) (bD : Binds K fdD ["_law_bag_here", "_law_limit"] []) (kD : PySem.W.keepIn K (.ref fD) = true) (mD : mg "_law_draw" = some (.ref fD))
    (GO : FnOk P w K mg base CX0 2 fO fdO ["_law_bag_here", "_law_things"] spOfL) (bO : Binds K fdO ["_law_bag_here", "_law_things"] []) (kO : PySem.W.keepIn K (.ref fO) = true) (mO : mg "_law_of" = some (.ref fO))
include GD bD kD mD GO bO kO mO
theorem ok_big (F : Fun K "_law_big" "_law_big" (top 78) f fd) (mr : mg "range" = none) : FnOk P w K mg base CX0 3 f fd ["_law_bag_here"] spBig := by
  refine F.ok scBig (fun vs H Q E h => ?_) (fun cdv A outer s H vs Q E hr h => ?_)
  · obtain ⟨B, p, rfl, _⟩ := h
    rfl
  obtain ⟨B, p, rfl, hb, q⟩ := h
  have hr1 := hr.mono (show 1 ≤ 2 by decide)
  refine ⟨_, pss_cons (ps_set (i := 1) scBig.nd rfl (Or.inl rfl) (pe_call GD hr1 rfl mD kD bD .nil pass0 (pa_cons (pv 0) (pa_cons (pe_call GO hr rfl mO kO bO .nil pass0 (pa_cons (pv 0) (pa_cons (pe_lst (pa_cons pe_int (pa_cons pe_int (pa_cons pe_int (pa_cons pe_int (pa_cons pe_int (pa_cons pe_int pa_nil))))))) pa_nil))) pa_nil))))
    (pss_cons (ps_for PassesOwn.never rfl (pi_range1 rfl mr (pa_cons (pe_call GO hr rfl mO kO bO .nil pass0 (pa_cons (pv 0) (pa_cons (pe_lst (pa_cons pe_int (pa_cons pe_int (pa_cons pe_int (pa_cons pe_int (pa_cons pe_int (pa_cons pe_int (pa_cons pe_int pa_nil)))))))) pa_nil))) pa_nil)) (pg_name (i := 2) scBig.nd rfl (Or.inl rfl))
      (pss_one (ps_set (i := 1) scBig.nd rfl (Or.inl rfl) (pe_op op_add (pe_op op_mulW (pv 1) (pe_op op_pow pe_int pe_int)) (pe_call GD hr1 rfl mD kD bD .nil pass0 (pa_cons (pv 0) (pa_cons (pe_op op_pow pe_int pe_int) pa_nil)))))))
    (pss_one (ps_ret (pe_ifExp (pt_cmpR op_eq (pe_call GD hr1 rfl mD kD bD .nil pass0 (pa_cons (pv 0) (pa_cons pe_int pa_nil))) pe_int (nomark _)) (pe_un un_neg (pv 1)) (pv 1))))), ?_⟩
  refine ⟨_, rfl, _, rfl, (by show 6 ≤ sizeLine; decide), fun a na => ⟨B, p, a, _, rfl, upd_same, (hb.at na).1, (by show 0 < 6; decide), (by show 6 ≤ 1000; decide), hb.put na, fun H1 x b1 u1 hx => ?_⟩⟩
  have u1 : But B H H1 := (But.new na).trans u1
  obtain ⟨L, rfl, L0, L1⟩ : ∃ L : Int, x = .int L ∧ 0 < L ∧ L ≤ 10000 := by
    simp only [List.mem_cons, List.not_mem_nil, or_false] at hx
    rcases hx with rfl | rfl | rfl | rfl | rfl | rfl <;> exact ⟨_, rfl, by decide, by decide⟩
  refine ⟨B, p, L, rfl, L0, by omega, b1, fun H2 k b2 u2 k0 k1 => ?_⟩
  have u2 := u1.trans u2
  refine ⟨_, rfl, (by show 7 ≤ sizeLine; decide), fun a2 na2 => ⟨B, p, a2, _, rfl, upd_same, (b2.at na2).1, (by show 0 < 7; decide), (by show 7 ≤ 1000; decide), b2.put na2, fun H3 x b3 u3 hx => ?_⟩⟩
  have u3 : But B H H3 := u2.trans ((But.new na2).trans u3)
  obtain ⟨m, rfl, m1⟩ : ∃ m : Nat, x = .int (m : Nat) ∧ m ≤ 8 := by
    simp only [List.mem_cons, List.not_mem_nil, or_false] at hx
    rcases hx with rfl | rfl | rfl | rfl | rfl | rfl | rfl
    · exact ⟨0, rfl, by decide⟩
    · exact ⟨0, rfl, by decide⟩
    · exact ⟨0, rfl, by decide⟩
    · exact ⟨0, rfl, by decide⟩
    · exact ⟨1, rfl, by decide⟩
    · exact ⟨2, rfl, by decide⟩
    · exact ⟨8, rfl, by decide⟩
  refine ⟨(m : Nat), rfl, by omega, by omega, for_range (lo := 0) (n := ((m : Nat) : Int).toNat) (fun i σ H' => ∃ (n : Int) (v : Option V), σ = [some (.ref B), some (.int n), v] ∧ Bag H' B p ∧ But B H H' ∧ 0 ≤ n ∧ n < 10 ^ (4 + 7 * i)) ⟨k, _, rfl, b3, u3, k0, ?_⟩ ?_ ?_⟩
  · show k < 10 ^ 4
    omega
  · rintro i σ H' hi ⟨n, v, rfl, b', u', n0, n1⟩
    have hi8 : i < 8 := by rw [Int.toNat_natCast] at hi; omega
    have nn : n.natAbs < 2 ^ 240 := by
      have z : ((10 : Int) ^ (4 + 7 * i)) ≤ ((10 ^ 60 : Nat) : Int) := by
        rw [show ((10 : Int) ^ (4 + 7 * i)) = ((10 ^ (4 + 7 * i) : Nat) : Int) by push_cast; rfl]
        exact Int.ofNat_le.mpr (Nat.pow_le_pow_right (by decide) (by omega))
      have y : (10 ^ 60 : Nat) < 2 ^ 240 := by decide
      omega
    refine ⟨_, rfl, 10, 7, rfl, rfl, ⟨by decide, by decide, by decide⟩, n, _, rfl, rfl, wide_mul (b := 24) nn (by decide) (by decide) (by decide) (by decide), ?_⟩
    refine ⟨_, rfl, 10, 7, rfl, rfl, ⟨by decide, by decide, by decide⟩, B, p, 10000000, rfl, by decide, by decide, b', fun H4 d b4 u4 d0 d1 => ?_⟩
    refine ⟨_, _, rfl, rfl, n * 10 ^ Int.toNat 7 + d, _, rfl, b4, u'.trans u4, ?_, ?_⟩
    · have : 0 ≤ n * 10 ^ Int.toNat 7 := Int.mul_nonneg n0 (by decide)
      omega
    · have e : (10 : Int) ^ (4 + 7 * (i + 1)) = 10 ^ (4 + 7 * i) * 10000000 := by
        rw [show 4 + 7 * (i + 1) = 4 + 7 * i + 7 by omega, Int.pow_add]
        rfl
      rw [e, show (10 : Int) ^ Int.toNat 7 = 10000000 from rfl]
      generalize (10 : Int) ^ (4 + 7 * i) = z at n1
      omega
  · rintro σ H' ⟨n, v, rfl, b', u', n0, n1⟩
    have nn : n.natAbs < 10 ^ 60 := by
      have z : ((10 : Int) ^ (4 + 7 * ((m : Nat) : Int).toNat)) ≤ ((10 ^ 60 : Nat) : Int) := by
        rw [Int.toNat_natCast, show ((10 : Int) ^ (4 + 7 * m)) = ((10 ^ (4 + 7 * m) : Nat) : Int) by push_cast; rfl]
        exact Int.ofNat_le.mpr (Nat.pow_le_pow_right (by decide) (by omega))
      omega
    refine ⟨_, rfl, B, p, 2, rfl, by decide, by decide, b', fun H4 c b4 u4 c0 c1 => ?_⟩
    refine ⟨rfl, _, rfl, ite2 (fun _ => ?_) (fun _ => ?_)⟩
    · exact ⟨_, rfl, n, rfl, q H4 (-n) b4 (u'.trans u4) (by rw [Int.natAbs_neg]; exact nn)⟩
    · exact ⟨_, rfl, q H4 n b4 (u'.trans u4) nn⟩
end
end
end Kr
end
section
set_option maxHeartbeats 4000000
namespace Kr
open PySem PySem.Spec PyProof.Rows L2
section
variable {P : Program} {w : World} {K : PySem.W.Frag} {mg : Str → Option Value} {base : Heap} {f fD fO fL fB : Addr} {fd fdD fdO fdL fdB : FuncData}
section
variable (GD : FnOk P w K mg base CX0 1 fD fdD ["_law_bag_here", "_law_limit"] spDraw) (bD : Binds K fdD ["_law_bag_here", "_law_limit"] []) (kD : PySem.W.keepIn K (.ref fD) = true) (mD : mg "_law_draw" = some (.ref fD))
    (GO : FnOk P w K mg base CX0 2 fO fdO ["_law_bag_here", "_law_things"] spOfL) (bO : Binds K fdO ["_law_bag_here", "_law_things"] []) (kO : PySem.W.keepIn K (.ref fO) = true) (mO : mg "_law_of" = some (.ref fO))
    (GL : FnOk P w K mg base CX0 1 fL fdL ["_law_p", "_law_q"] spLow) (bL : Binds K fdL ["_law_p", "_law_q"] []) (kL : PySem.W.keepIn K (.ref fL) = true) (mL : mg "_law_low" = some (.ref fL))
include GD bD kD mD GO bO kO mO GL bL kL mL
theorem low_new {H H1 : Hp} {B p : Addr} {Q : VK} {a b : Int} {n : Nat} (h9 : n ≤ 2 ^ 8999) (b1 : Bag H1 B p) (u1 : But B H H1) (hq : b ≠ 0) (ha : a.natAbs < n) (hb : b.natAbs < n) (q : ∀ H' v, Bag H' B p → But B H H' → FrN H H' n v → Q v H') :
    ∃ p q : Int, [V.int a, V.int b] = [.int p, .int q] ∧ q ≠ 0 ∧ q.natAbs.log2 < 9000 ∧ ∀ t, H1 t = none → Q (.ref t) (upd H1 t (.tup [.int (lowU p q), .int (lowL p q)])) := by
  obtain ⟨l1, l2, l3, l4⟩ := low_ok hq ha hb
  exact ⟨_, _, rfl, hq, Nat.lt_trans (log_bd (n := 8999) (Nat.lt_of_lt_of_le hb h9) (by decide)) (by decide), fun t nt => q _ _ (b1.put nt) (u1.trans (But.new nt)) ⟨t, _, _, rfl, u1.free b1 nt, upd_same, l1, l2, l3, l4⟩⟩
theorem ok_num (F : Fun K "_law_number" "_law_number" (top 77) f fd) : FnOk P w K mg base CX0 3 f fd ["_law_bag_here"] spNum := by
  refine F.ok scNum (fun vs H Q E h => ?_) (fun cdv A outer s H vs Q E hr h => ?_)
  · obtain ⟨B, p, rfl, _⟩ := h
    rfl
  obtain ⟨B, p, rfl, hb, q⟩ := h
  have hr1 := hr.mono (show 1 ≤ 2 by decide)
  refine ⟨_, pss_cons (ps_set (i := 1) scNum.nd rfl (Or.inl rfl) (pe_call GD hr1 rfl mD kD bD .nil pass0 (pa_cons (pv 0) (pa_cons pe_int pa_nil))))
    (pss_cons (ps_if (pt_cmpR op_lt (pv 1) pe_int (nomark _)) (pss_one (ps_ret (pe_tup (pa_cons pe_int (pa_cons pe_int pa_nil))))) pss_nil)
    (pss_cons (ps_if (pt_cmpR op_lt (pv 1) pe_int (nomark _)) (pss_one (ps_ret (pe_tup (pa_cons pe_int (pa_cons pe_int pa_nil))))) pss_nil)
    (pss_cons (ps_set (i := 2) scNum.nd rfl (Or.inl rfl) (pe_op op_add pe_int (pe_call GD hr1 rfl mD kD bD .nil pass0 (pa_cons (pv 0) (pa_cons pe_int pa_nil)))))
    (C8.pss_cut (ps_if (pt_cmpR op_eq (pv 1) pe_int (nomark _)) (pss_one (ps_set (i := 2) scNum.nd rfl (Or.inl rfl) (pe_op op_add (pv 2) (pe_call GD hr1 rfl mD kD bD .nil pass0 (pa_cons (pv 0) (pa_cons (pe_call GO hr rfl mO kO bO .nil pass0 (pa_cons (pv 0) (pa_cons (pe_lst (pa_cons pe_int (pa_cons pe_int (pa_cons pe_int pa_nil)))) pa_nil))) pa_nil)))))) pss_nil)
    (C8.pss_cut (ps_if (pt_cmpR op_eq (pe_call GD hr1 rfl mD kD bD .nil pass0 (pa_cons (pv 0) (pa_cons pe_int pa_nil))) pe_int (nomark _)) (pss_one (ps_set (i := 2) scNum.nd rfl (Or.inl rfl) (pe_un un_neg (pv 2)))) pss_nil)
    (pss_one (ps_ret (pe_call GL hr1 rfl mL kL bL .nil pass0 (pa_cons (pv 2) (pa_cons (pe_call GO hr rfl mO kO bO .nil pass0 (pa_cons (pv 0) (pa_cons (pe_lst (pa_cons pe_int (pa_cons pe_int (pa_cons pe_int (pa_cons pe_int (pa_cons pe_int (pa_cons pe_int pa_nil))))))) pa_nil))) pa_nil)))))))))), ?_⟩
  refine ⟨_, rfl, B, p, 18, rfl, by decide, by decide, hb, fun H1 k b1 u1 k0 k1 => ?_⟩
  refine ⟨_, rfl, k, 6, rfl, rfl, _, rfl, ite2 (fun _ => ?_) (fun _ => ?_)⟩
  · exact ⟨(by show 2 ≤ sizeLine; decide), fun t nt => q _ _ (b1.put nt) (u1.trans (But.new nt)) ⟨t, 0, 1, rfl, u1.free b1 nt, upd_same, by decide, by decide, by decide, by decide⟩⟩
  refine ⟨_, rfl, k, 8, rfl, rfl, _, rfl, ite2 (fun _ => ?_) (fun _ => ?_)⟩
  · exact ⟨(by show 2 ≤ sizeLine; decide), fun t nt => q _ _ (b1.put nt) (u1.trans (But.new nt)) ⟨t, 1, 1, rfl, u1.free b1 nt, upd_same, by decide, by decide, by decide, by decide⟩⟩
  refine ⟨_, rfl, B, p, 9, rfl, by decide, by decide, b1, fun H2 d b2 u2 d0 d1 => ⟨1, d, rfl, rfl, ?_⟩⟩
  have u2 := u1.trans u2
  refine ⟨fun σ' H' => ∃ n : Int, σ' = [some (.ref B), some (.int k), some (.int n)] ∧ Bag H' B p ∧ But B H H' ∧ 0 ≤ n ∧ n < 1100000, ?_, ?_⟩
  · refine ⟨_, rfl, rfl, _, rfl, ite2 (fun _ => ?_) (fun _ => ⟨_, rfl, b2, u2, by omega, by omega⟩)⟩
    refine ⟨_, rfl, _, rfl, _, rfl, (by show 3 ≤ sizeLine; decide), fun a na => ⟨B, p, a, _, rfl, upd_same, (b2.at na).1, (by show 0 < 3; decide), (by show 3 ≤ 1000; decide), b2.put na, fun H3 x b3 u3 hx => ?_⟩⟩
    have u3 : But B H H3 := u2.trans ((But.new na).trans u3)
    obtain ⟨L, rfl, L0, L1⟩ : ∃ L : Int, x = .int L ∧ 0 < L ∧ L ≤ 1000000 := by
      simp only [List.mem_cons, List.not_mem_nil, or_false] at hx
      rcases hx with rfl | rfl | rfl <;> exact ⟨_, rfl, by decide, by decide⟩
    exact ⟨B, p, L, rfl, L0, by omega, b3, fun H4 e b4 u4 e0 e1 => ⟨_, _, rfl, rfl, _, rfl, b4, u3.trans u4, by omega, by omega⟩⟩
  rintro σ' H3 ⟨n, rfl, b3, u3, n0, n1⟩
  refine ⟨fun σ' H' => ∃ n : Int, σ' = [some (.ref B), some (.int k), some (.int n)] ∧ Bag H' B p ∧ But B H H' ∧ n.natAbs < 1100000, ?_, ?_⟩
  · refine ⟨_, rfl, B, p, 2, rfl, by decide, by decide, b3, fun H4 c b4 u4 c0 c1 => ⟨rfl, _, rfl, ite2 (fun _ => ?_) (fun _ => ⟨_, rfl, b4, u3.trans u4, by omega⟩)⟩⟩
    exact ⟨_, rfl, _, rfl, _, rfl, b4, u3.trans u4, by omega⟩
  rintro σ' H4 ⟨n, rfl, b4, u4, nn⟩
  refine ⟨_, rfl, _, rfl, (by show 6 ≤ sizeLine; decide), fun a na => ⟨B, p, a, _, rfl, upd_same, (b4.at na).1, (by show 0 < 6; decide), (by show 6 ≤ 1000; decide), b4.put na, fun H5 x b5 u5 hx => ?_⟩⟩
  have u5 : But B H H5 := u4.trans ((But.new na).trans u5)
  obtain ⟨L, rfl, L0, L1⟩ : ∃ L : Int, x = .int L ∧ 0 < L ∧ L ≤ 3 := by
    simp only [List.mem_cons, List.not_mem_nil, or_false] at hx
    rcases hx with rfl | rfl | rfl | rfl | rfl | rfl <;> exact ⟨_, rfl, by decide, by decide⟩
  exact low_new GD bD kD mD GO bO kO mO GL bL kL mL (by decide) b5 u5 (by omega) (show n.natAbs < 2 ^ 40 by omega) (by omega) q
theorem ok_wide (F : Fun K "_law_wide" "_law_wide" (top 79) f fd) (GB : FnOk P w K mg base CX0 3 fB fdB ["_law_bag_here"] spBig) (bB : Binds K fdB ["_law_bag_here"] []) (kB : PySem.W.keepIn K (.ref fB) = true) (mB : mg "_law_big" = some (.ref fB)) :
    FnOk P w K mg base CX0 4 f fd ["_law_bag_here"] spWide := by
  refine F.ok scWide (fun vs H Q E h => ?_) (fun cdv A outer s H vs Q E hr h => ?_)
  · obtain ⟨B, p, rfl, _⟩ := h
    rfl
  obtain ⟨B, p, rfl, hb, q⟩ := h
  have hr1 := hr.mono (show 1 ≤ 3 by decide)
  refine ⟨_, pss_cons (ps_set (i := 1) scWide.nd rfl (Or.inl rfl) (pe_call GB hr rfl mB kB bB .nil pass0 (pa_cons (pv 0) pa_nil)))
    (C8.pss_cut (ps_set (i := 2) scWide.nd rfl (Or.inl rfl) (pe_ifExp (pt_cmpR op_gt (pe_call GD hr1 rfl mD kD bD .nil pass0 (pa_cons (pv 0) (pa_cons pe_int pa_nil))) pe_int (nomark _)) (pe_call GB hr rfl mB kB bB .nil pass0 (pa_cons (pv 0) pa_nil)) pe_int))
    (pss_one (ps_ret (pe_call GL hr1 rfl mL kL bL .nil pass0 (pa_cons (pv 1) (pa_cons (pe_ifExp (pt_cmpR op_ne (pv 2) pe_int (nomark _)) (pv 2) pe_int) pa_nil)))))), ?_⟩
  refine ⟨_, rfl, B, p, rfl, hb, fun H1 n b1 u1 hn => ?_⟩
  refine ⟨fun σ' H' => ∃ m : Int, σ' = [some (.ref B), some (.int n), some (.int m)] ∧ Bag H' B p ∧ But B H H' ∧ m.natAbs < 10 ^ 60, ?_, ?_⟩
  · refine ⟨_, rfl, B, p, 3, rfl, by decide, by decide, b1, fun H2 c b2 u2 c0 c1 => ⟨c, 0, rfl, rfl, _, rfl, ite2 (fun _ => ?_) (fun _ => ⟨_, rfl, b2, u1.trans u2, by decide⟩)⟩⟩
    exact ⟨_, rfl, B, p, rfl, b2, fun H3 m b3 u3 hm => ⟨_, rfl, b3, u1.trans (u2.trans u3), hm⟩⟩
  rintro σ' H2 ⟨m, rfl, b2, u2, hm⟩
  refine ⟨_, rfl, _, rfl, rfl, _, rfl, ite2 (fun c => ?_) (fun _ => ?_)⟩
  · have m0 : m ≠ 0 := fun e => by
      rw [e] at c
      exact absurd c (by decide)
    exact ⟨_, rfl, low_new GD bD kD mD GO bO kO mO GL bL kL mL (by decide) b2 u2 m0 hn hm q⟩
  · exact low_new GD bD kD mD GO bO kO mO GL bL kL mL (by decide) b2 u2 (by decide) hn (by decide) q
end
end
end Kr
end
section
set_option maxHeartbeats 4000000
namespace Kr
open PySem PySem.Spec PyProof.Rows L2 RZ
def Tw (G1 G2 : Addr → Prop) : Nat → Hp → V → V → Prop
  | 0, _, v, u => u = v ∧ flatV v = true
  | n + 1, H, v, u => (u = v ∧ flatV v = true) ∨ ∃ (a b : Addr) (xs ys : List V), v = .ref a ∧ u = .ref b ∧ xs.length ≤ 60 ∧ G1 a ∧ G2 b ∧ Paired (Tw G1 G2 n H) xs ys ∧
      ((H a = some (.lst xs) ∧ H b = some (.lst ys)) ∨ (H a = some (.tup xs) ∧ H b = some (.tup ys)))
theorem Tw.mono {G1 G2 F1 F2 : Addr → Prop} {H H' : Hp} (k1 : ∀ a o, G1 a → H a = some o → F1 a ∧ H' a = some o) (k2 : ∀ a o, G2 a → H a = some o → F2 a ∧ H' a = some o) : ∀ {n : Nat} {v u : V}, Tw G1 G2 n H v u → Tw F1 F2 n H' v u
  | 0, _, _, h => h
  | n + 1, v, u, h => by
    rcases h with h | ⟨a, b, xs, ys, e1, e2, l, n1, n2, p, q⟩
    · exact .inl h
    · rcases q with ⟨q1, q2⟩ | ⟨q1, q2⟩
      · exact .inr ⟨a, b, xs, ys, e1, e2, l, (k1 _ _ n1 q1).1, (k2 _ _ n2 q2).1, L2.Paired.mapP p fun _ _ z => Tw.mono k1 k2 z, .inl ⟨(k1 _ _ n1 q1).2, (k2 _ _ n2 q2).2⟩⟩
      · exact .inr ⟨a, b, xs, ys, e1, e2, l, (k1 _ _ n1 q1).1, (k2 _ _ n2 q2).1, L2.Paired.mapP p fun _ _ z => Tw.mono k1 k2 z, .inr ⟨(k1 _ _ n1 q1).2, (k2 _ _ n2 q2).2⟩⟩
theorem Tw.flat {G1 G2 : Addr → Prop} {H : Hp} {v : V} (h : flatV v = true) : ∀ {n : Nat}, Tw G1 G2 n H v v
  | 0 => ⟨rfl, h⟩
  | _ + 1 => .inl ⟨rfl, h⟩
theorem Tw.succ {G1 G2 : Addr → Prop} {H : Hp} : ∀ {n : Nat} {v u : V}, Tw G1 G2 n H v u → Tw G1 G2 (n + 1) H v u
  | 0, _, _, h => .inl h
  | n + 1, _, _, h => by
    rcases h with h | ⟨a, b, xs, ys, e1, e2, l, n1, n2, p, q⟩
    · exact .inl h
    · exact .inr ⟨a, b, xs, ys, e1, e2, l, n1, n2, L2.Paired.mapP p fun _ _ z => Tw.succ z, q⟩
def Trk (H : Hp) (a : Addr) : Prop := ∃ o, H a = some o
def New (H : Hp) (a : Addr) : Prop := H a = none
/-- what stands in H -/
theorem Tw.trk {G1 G2 : Addr → Prop} {H : Hp} {n : Nat} {v u : V} (h : Tw G1 G2 n H v u) : Tw (Trk H) (Trk H) n H v u := Tw.mono (fun a o _ e => ⟨⟨o, e⟩, e⟩) (fun a o _ e => ⟨⟨o, e⟩, e⟩) h
theorem Paired.snoc {α β : Type} {R : α → β → Prop} : ∀ {xs : List α} {ys : List β} {x : α} {y : β}, Paired R xs ys → R x y → Paired R (xs ++ [x]) (ys ++ [y])
  | _, _, _, _, .nil, h => .cons h .nil
  | _, _, _, _, .cons r t, h => .cons r (Paired.snoc t h)
theorem yesT {σ : L2.St} {H : Hp} {t e : Hp → Prop} (h : t H) : tYes σ H (fun b H3 => if b = true then t H3 else e H3) := by
  show (if true = true then t H else e H)
  rw [if_pos rfl]
  exact h
theorem rel_ty (n : String) : RelV (.ty n) (.type n) := rfl
theorem walk_zipT {K : PySem.W.Frag} {a b : Addr} {xs ys : List V} {n : Nat} (hn : n = min xs.length ys.length) : Walk (ItzT K a b) n (fun H => SqT K H a xs ∧ SqT K H b ys) (YPair (fun i => xs[i]?) (fun i => ys[i]?)) := by
  subst hn
  refine ⟨fun i H hi q => ⟨xs, ys, xs[i]'(by omega), ys[i]'(by omega), q.1, q.2, by simp [show i < xs.length by omega], by simp [show i < ys.length by omega]⟩, fun H q => ⟨xs, ys, q.1, q.2, by omega⟩, fun i H v H' hi q y => ?_⟩
  obtain ⟨T, x, z, h1, h2, h3, h4, h5⟩ := y
  exact ⟨T, x, z, h1, h2, h3, h4 xs q.1, h5 ys q.2⟩
def spLike (n : Nat) : Sp := fun vs H Q _ => ∃ (v u : V) (G1 G2 : Addr → Prop), vs = [v, u] ∧ Tw G1 G2 n H v u ∧ ∀ H', Same H H' → Q (.bl true) H'
def spCopied (n : Nat) : Sp := fun vs H Q _ => ∃ (v : V) (G : Addr → Prop), vs = [v] ∧ Tw G G n H v v ∧ ∀ H' u, Same H H' → Tw G (New H) n H' v u → Q u H'
/-- a flat value's type -/
def tyS : V → String
  | .non => "NoneType"
  | .bl _ => "bool"
  | .int _ => "int"
  | _ => "str"
theorem ty_flat {K : PySem.W.Frag} {H : Hp} {v : V} (h : flatV v = true) : TyX K H v (.type (tyS v)) := by
  cases v with
  | non => exact .base .non
  | bl b => exact .base (.bl b)
  | int i => exact .base (.int i)
  | str x => exact .base (.str x)
  | _ => cases h
theorem tyS_in : ∀ {v : V}, flatV v = true → tyS v ∈ ["NoneType", "bool", "int", "str"]
  | .non, _ => by simp [tyS]
  | .bl _, _ => by simp [tyS]
  | .int _, _ => by simp [tyS]
  | .str _, _ => by simp [tyS]
  | .byt _, h => by cases h
  | .flt _, h => by cases h
  | .ref _, h => by cases h
  | .ty _, h => by cases h
theorem Pr_get {α β : Type} {F : α → β → Prop} : ∀ {l1 : List α} {l2 : List β} {i : Nat} {x : α}, Paired F l1 l2 → l1[i]? = some x → ∃ y, l2[i]? = some y ∧ F x y
  | _, _, _, _, .nil, h => by simp at h
  | _, _, 0, x, .cons (b := b) r _, h => ⟨b, rfl, by
    have e := Option.some.inj (show some _ = some x from by simpa using h)
    rw [← e]
    exact r⟩
  | _, _, i + 1, x, .cons _ t, h => by
    obtain ⟨y, h1, h2⟩ := Pr_get (i := i) (x := x) t (by simpa using h)
    exact ⟨y, by simpa using h1, h2⟩
theorem kb_seq : ∀ s ∈ ["NoneType", "bool", "int", "str"], kitB s "list" = some false ∧ kitB s "tuple" = some false := by decide +kernel
theorem kb_flat : ∀ s ∈ ["NoneType", "bool", "int", "str"], (kitB s "bool").isSome ∧ (kitB s "str").isSome ∧ (kitB s "int").isSome := by decide +kernel
theorem kb_l : kitB "list" "list" = some true ∧ kitB "list" "tuple" = some false ∧ kitB "tuple" "list" = some false ∧ kitB "tuple" "tuple" = some true := by decide +kernel
theorem kit2 {K : PySem.W.Frag} {s : String} {a b r : Bool} (h1 : kitB s "list" = some a) (h2 : kitB s "tuple" = some b) (hr : r = (a || b)) : PySem.W.kitAny K (.type s) [.type "list", .type "tuple"] = some r := by
  subst hr
  refine kitAny_cons (kit_ty h1) (fun ha => ?_) (fun ha => by rw [ha]; rfl)
  subst ha
  refine kitAny_cons (kit_ty h2) (fun hb => by rw [hb]; exact kitAny_nil) (fun hb => by rw [hb]; rfl)
/-- a seq's type -/
inductive Sq2 (H : Hp) (a : Addr) (xs : List V) : String → Prop where
  | lst (h : H a = some (.lst xs)) : Sq2 H a xs "list"
  | tup (h : H a = some (.tup xs)) : Sq2 H a xs "tuple"
abbrev nLike : List Str := ["_law_told", "_law_due", "_law_a", "_law_b"]
abbrev nCop : List Str := ["_law_thing_here", "_law_part"]
end Kr
end
section
set_option maxHeartbeats 4000000
namespace Kr
open PySem PySem.Spec PyProof.Rows L2 RZ
section
variable {P : Program} {w : World} {K : PySem.W.Frag} {mg : Str → Option Value} {base : Heap} {f : Addr} {fd : FuncData}
theorem scLike : FnScope nLike ["_law_told", "_law_due"] (defScope (top 74)) := ⟨rfl, rfl, rfl, by decide +kernel, rfl, by decide +kernel, by decide +kernel⟩
theorem ok_like {n : Nat} (F : Fun K "_law_like" "_law_like" (top 74) f fd) (bL : Binds K fd ["_law_told", "_law_due"] []) (mL : mg "_law_like" = some (.ref f)) (G : ∀ n', n = n' + 1 → FnOk P w K mg base CX0 n f fd ["_law_told", "_law_due"] (spLike n'))
    (mI : mg "isinstance" = none) (ml : mg "list" = none) (mt : mg "tuple" = none) (mb : mg "bool" = none) (ms : mg "str" = none) (mi : mg "int" = none) (mn : mg "len" = none) (mz : mg "zip" = none) (ma : mg "all" = none) :
    FnOk P w K mg base CX0 (n + 1) f fd ["_law_told", "_law_due"] (spLike n) := by
  refine F.ok scLike (fun vs H Q E h => ?_) (fun cdv A outer s H vs Q E hr h => ?_)
  · obtain ⟨v, u, G1, G2, rfl, _⟩ := h
    rfl
  obtain ⟨v, u, G1, G2, rfl, tv, q⟩ := h
  have flat : flatV v = true → u = v → ∃ t, PSs (cxOf CX0 P w K mg base nLike "_law_like" (defScope (top 74)) f cdv A outer s H E).nox (defBody (top 74)) t ∧ t { nx := fun _ H' => Q .non H', rt := Q } (L2.start nLike [v, u]) H := fun hv hu => by
    subst hu
    obtain ⟨k1, k2⟩ := kb_seq _ (tyS_in hv)
    obtain ⟨k3, k4, k5⟩ := kb_flat _ (tyS_in hv)
    obtain ⟨x3, k3⟩ := Option.isSome_iff_exists.mp k3
    obtain ⟨x4, k4⟩ := Option.isSome_iff_exists.mp k4
    obtain ⟨x5, k5⟩ := Option.isSome_iff_exists.mp k5
    refine ⟨_, pss_cons (ps_if (pt_val (pe_callB call_isiT rfl mI (by decide +kernel) (pa_cons (pv 1) (pa_cons (pe_tup (pa_cons (pe_bltn rfl ml boot_list (rel_ty _)) (pa_cons (pe_bltn rfl mt boot_tuple (rel_ty _)) pa_nil))) pa_nil)))) (pss_cons ps_never (pss_one ps_never)) pss_nil)
      (pss_cons (ps_if (PW.pt (pw_or (pt_cmpR op_isN (pv 1) pe_non (nomark _)) (pw_or1 (pt_cmpR op_isN (pv 0) pe_non (nomark _))))) (pss_one (ps_ret (pe_and (pe_cmpR op_isN (pv 1) pe_non (nomark _)) (pe_one (pe_cmpR op_isN (pv 0) pe_non (nomark _)))))) pss_nil)
      (pss_cons (ps_if (PW.pt (pw_or (pt_val (pe_callB call_isiT rfl mI (by decide +kernel) (pa_cons (pv 0) (pa_cons (pe_tup (pa_cons (pe_bltn rfl ml boot_list (rel_ty _)) (pa_cons (pe_bltn rfl mt boot_tuple (rel_ty _)) pa_nil))) pa_nil))))
          (pw_or1 (pt_cmpR op_ne (pe_callB call_isi rfl mI (by decide +kernel) (pa_cons (pv 0) (pa_cons (pe_bltn rfl mb boot_bool (rel_ty _)) pa_nil))) (pe_callB call_isi rfl mI (by decide +kernel) (pa_cons (pv 1) (pa_cons (pe_bltn rfl mb boot_bool (rel_ty _)) pa_nil))) (nomark _))))) (pss_one ps_never) pss_nil)
      (pss_cons (ps_if (PW.pt (pw_or (pt_cmpR op_ne (pe_callB call_isi rfl mI (by decide +kernel) (pa_cons (pv 0) (pa_cons (pe_bltn rfl ms boot_str (rel_ty _)) pa_nil))) (pe_callB call_isi rfl mI (by decide +kernel) (pa_cons (pv 1) (pa_cons (pe_bltn rfl ms boot_str (rel_ty _)) pa_nil))) (nomark _))
          (pw_or1 (pt_cmpR op_ne (pe_callB call_isi rfl mI (by decide +kernel) (pa_cons (pv 0) (pa_cons (pe_bltn rfl mi boot_int (rel_ty _)) pa_nil))) (pe_callB call_isi rfl mI (by decide +kernel) (pa_cons (pv 1) (pa_cons (pe_bltn rfl mi boot_int (rel_ty _)) pa_nil))) (nomark _))))) (pss_one ps_never) pss_nil)
      (pss_one (ps_ret (pe_cmpR op_eq (pv 0) (pv 1) (nomark _))))))), ?_⟩
    refine ⟨_, rfl, (by show 2 ≤ sizeLine; decide), fun p np => ?_⟩
    have g1 := new_same np (.tup [.ty "list", .ty "tuple"])
    refine ⟨u, p, _, .type (tyS u), _, false, rfl, upd_same, .cons (.ty _) (.cons (.ty _) .nil), ty_flat hv, kit2 k1 k2 rfl, _, rfl, iteF ?_⟩
    generalize upd H p (.tup [.ty "list", .ty "tuple"]) = H1 at g1
    by_cases e : u = .non
    · subst e
      refine ⟨_, rfl, rfl, _, rfl, iteT ?_⟩
      refine iteT ⟨_, rfl, rfl, _, rfl, iteT ⟨_, rfl, rfl, q H1 g1⟩⟩
    · refine ⟨_, rfl, rfl, _, rfl, ?_⟩
      rw [decide_eq_false e]
      refine iteF ⟨_, rfl, rfl, _, rfl, ?_⟩
      rw [decide_eq_false e]
      refine iteF ?_
      refine ⟨_, rfl, (by show 2 ≤ sizeLine; decide), fun p2 np2 => ?_⟩
      have g2 := g1.trans (new_same np2 (.tup [.ty "list", .ty "tuple"]))
      refine ⟨u, p2, _, .type (tyS u), _, false, rfl, upd_same, .cons (.ty _) (.cons (.ty _) .nil), ty_flat hv, kit2 k1 k2 rfl, _, rfl, iteF ?_⟩
      generalize upd H1 p2 (.tup [.ty "list", .ty "tuple"]) = H2 at g2
      refine ⟨_, rfl, u, _, _, _, x3, rfl, .ty _, ty_flat hv, kit_ty k3, _, rfl, u, _, _, _, x3, rfl, .ty _, ty_flat hv, kit_ty k3, rfl, _, rfl, ?_⟩
      refine iteNS rfl ?_
      refine ⟨_, rfl, u, _, _, _, x4, rfl, .ty _, ty_flat hv, kit_ty k4, _, rfl, u, _, _, _, x4, rfl, .ty _, ty_flat hv, kit_ty k4, rfl, _, rfl, ?_⟩
      refine iteNS rfl ?_
      refine ⟨_, rfl, u, _, _, _, x5, rfl, .ty _, ty_flat hv, kit_ty k5, _, rfl, u, _, _, _, x5, rfl, .ty _, ty_flat hv, kit_ty k5, rfl, _, rfl, ?_⟩
      refine iteNS rfl ?_
      have hs : scal u u = true := by
        cases u <;> first | rfl | cases hv
      refine ⟨_, rfl, _, rfl, hs, ?_⟩
      rw [decide_eq_true rfl]
      exact q H2 g2
  cases n with
  | zero => exact flat (by rw [← tv.1]; exact (by rw [tv.1]; exact tv.2)) tv.1
  | succ n =>
    rcases tv with ⟨hu, hv⟩ | ⟨a, b, xs, ys, rfl, rfl, l, n1, n2, pr, hh⟩
    · exact flat hv hu
    have GL := G n rfl
    have le : xs.length = ys.length := pr.length
    have el : ∀ (i : Nat) (y z : V), xs[i]? = some y → ys[i]? = some z → ∀ H', Same H H' → Tw G1 G2 n H' y z := fun i y z hy hz H' g => by
      obtain ⟨z', h1, h2⟩ := Pr_get pr hy
      rw [hz] at h1
      rw [← Option.some.inj h1] at h2
      exact Tw.mono (fun c o h e => ⟨h, g _ _ e⟩) (fun c o h e => ⟨h, g _ _ e⟩) h2
    rcases hh with ⟨h1, h2⟩ | ⟨h1, h2⟩
    · refine ⟨_, pss_cons (ps_if (pt_val (pe_callB call_isiT rfl mI (by decide +kernel) (pa_cons (pv 1) (pa_cons (pe_tup (pa_cons (pe_bltn rfl ml boot_list (rel_ty _)) (pa_cons (pe_bltn rfl mt boot_tuple (rel_ty _)) pa_nil))) pa_nil))))
          (pss_cons (ps_if (PW.pt (pw_or (pt_cmpR op_ne (pe_callB call_isi rfl mI (by decide +kernel) (pa_cons (pv 0) (pa_cons (pe_bltn rfl ml boot_list (rel_ty _)) pa_nil))) (pe_callB call_isi rfl mI (by decide +kernel) (pa_cons (pv 1) (pa_cons (pe_bltn rfl ml boot_list (rel_ty _)) pa_nil))) (nomark _)) (pw_or1 (pt_cmpR op_ne (pe_callB call_isi rfl mI (by decide +kernel) (pa_cons (pv 0) (pa_cons (pe_bltn rfl mt boot_tuple (rel_ty _)) pa_nil))) (pe_callB call_isi rfl mI (by decide +kernel) (pa_cons (pv 1) (pa_cons (pe_bltn rfl mt boot_tuple (rel_ty _)) pa_nil))) (nomark _))))) (pss_one ps_never) pss_nil)
          (pss_one (ps_ret (pe_and (pe_cmpR op_eq (pe_callB call_len_seq rfl mn PySem.boot_len (pa_cons (pv 0) pa_nil)) (pe_callB call_len_seq rfl mn PySem.boot_len (pa_cons (pv 1) pa_nil)) (nomark _))
            (pe_one (pe_callB (cr_all rfl) rfl ma (by decide +kernel) (pa_cons (pe_lc (own := [("_law_a", 2), ("_law_b", 3)]) (g := gTup K 2 (gCons (gName 2) (gCons (gName 3) gNil))) (tt := tYes) rfl scLike.nd (pi_zipA rfl mz (pa_cons (pv 0) (pa_cons (pv 1) pa_nil))) (blkOk_by (N := nLike) (sc := defScope (top 74)) (by decide +kernel))
              (fun _ _ _ _ _ => pg_tup rfl (pgs_cons (pg_name (i := 2) scLike.nd rfl (Or.inl rfl)) (pgs_cons (pg_name (i := 3) scLike.nd rfl (Or.inl rfl)) pgs_nil))) (fun _ _ _ _ _ => pts_nil) (fun _ _ _ _ _ => pe_call GL hr rfl mL F.kp bL .nil pass0 (pa_cons (pv 2) (pa_cons (pv 3) pa_nil)))) pa_nil))))))) pss_nil)
        (pss_cons ps_never (pss_cons ps_never (pss_cons ps_never (pss_one ps_never)))), ?_⟩
      refine ⟨_, rfl, (by show 2 ≤ sizeLine; decide), fun p np => ?_⟩
      have g1 := new_same np (.tup [.ty "list", .ty "tuple"])
      refine ⟨.ref b, p, _, .type "list", _, true, rfl, upd_same, .cons (.ty _) (.cons (.ty _) .nil), .base (.lst (g1 _ _ h2)), kit2 kb_l.1 kb_l.2.1 rfl, _, rfl, ?_⟩
      refine iteT ?_
      generalize upd H p (.tup [.ty "list", .ty "tuple"]) = H1 at g1
      have ta : TyX K H1 (.ref a) (.type "list") := .base (.lst (g1 _ _ h1))
      have tb : TyX K H1 (.ref b) (.type "list") := .base (.lst (g1 _ _ h2))
      refine ⟨_, rfl, .ref a, _, _, _, _, rfl, .ty _, ta, kit_ty kb_l.1, _, rfl, .ref b, _, _, _, _, rfl, .ty _, tb, kit_ty kb_l.1, rfl, _, rfl, iteNS rfl ?_⟩
      refine ⟨_, rfl, .ref a, _, _, _, _, rfl, .ty _, ta, kit_ty kb_l.2.1, _, rfl, .ref b, _, _, _, _, rfl, .ty _, tb, kit_ty kb_l.2.1, rfl, _, rfl, iteNS rfl ?_⟩
      refine ⟨_, rfl, a, xs, rfl, .inl (SqL.of (g1 _ _ h1)), _, rfl, b, ys, rfl, .inl (SqL.of (g1 _ _ h2)), rfl, _, rfl, ?_⟩
      rw [decide_eq_true (show V.int (xs.length : Nat) = V.int (ys.length : Nat) by rw [le])]
      refine iteT ⟨_, rfl, _, rfl, a, b, xs, ys, rfl, .inl ⟨SqL.of (g1 _ _ h1), SqL.of (g1 _ _ h2), fun D nD => ?_⟩⟩
      refine lc_it (walk_zip (K := K) (a := a) (b := b) (xs := xs) (ys := ys) (n := xs.length) (by omega)) (fun i H' => Same H1 H' ∧ H' D = some (.lst ((List.replicate i true).map V.bl))) ⟨new_same nD _, upd_same⟩ (fun i H' _ h => ⟨SqL.of (h.1 _ _ (g1 _ _ h1)), SqL.of (h.1 _ _ (g1 _ _ h2))⟩) ?_ ?_
      · rintro i x H' H5 hi ⟨g, hD⟩ ⟨T, y, z, rfl, hT, rfl, hy, hz⟩
        refine ⟨T, [y, z], rfl, SqT.of upd_same, rfl, y, [z], rfl, z, [], rfl, rfl, ?_⟩
        refine ⟨rfl, ?_⟩
        refine yesT ?_
        have g5 : Same H1 (upd H' T (.tup [y, z])) := g.trans (new_same hT _)
        have tyz := el i y z hy hz _ (g1.trans g5)
        refine ⟨_, rfl, _, rfl, y, z, _, _, rfl, tyz, fun H6 g6 => ⟨(List.replicate i true).map V.bl, ?_, ?_, ?_, ?_⟩⟩
        · refine g6 _ _ ?_
          rw [upd_ne (ne_of_none hD hT)]
          exact hD
        · rw [List.length_map, List.length_replicate]
          exact small1000 (by omega)
        · exact fun c o h => by rw [upd_ne (ne_of_none h nD)]; exact g6 _ _ (g5 _ _ h)
        · rw [upd_same, List.replicate_succ', List.map_append]
          rfl
      · rintro H' ⟨g, hD⟩
        refine ⟨D, List.replicate xs.length true, rfl, SqL.of hD, ?_⟩
        have e : (List.replicate xs.length true).all id = true := by simp
        rw [e]
        exact q H' (g1.trans g)
    · refine ⟨_, pss_cons (ps_if (pt_val (pe_callB call_isiT rfl mI (by decide +kernel) (pa_cons (pv 1) (pa_cons (pe_tup (pa_cons (pe_bltn rfl ml boot_list (rel_ty _)) (pa_cons (pe_bltn rfl mt boot_tuple (rel_ty _)) pa_nil))) pa_nil))))
          (pss_cons (ps_if (PW.pt (pw_or (pt_cmpR op_ne (pe_callB call_isi rfl mI (by decide +kernel) (pa_cons (pv 0) (pa_cons (pe_bltn rfl ml boot_list (rel_ty _)) pa_nil))) (pe_callB call_isi rfl mI (by decide +kernel) (pa_cons (pv 1) (pa_cons (pe_bltn rfl ml boot_list (rel_ty _)) pa_nil))) (nomark _)) (pw_or1 (pt_cmpR op_ne (pe_callB call_isi rfl mI (by decide +kernel) (pa_cons (pv 0) (pa_cons (pe_bltn rfl mt boot_tuple (rel_ty _)) pa_nil))) (pe_callB call_isi rfl mI (by decide +kernel) (pa_cons (pv 1) (pa_cons (pe_bltn rfl mt boot_tuple (rel_ty _)) pa_nil))) (nomark _))))) (pss_one ps_never) pss_nil)
          (pss_one (ps_ret (pe_and (pe_cmpR op_eq (pe_callB call_len_seq rfl mn PySem.boot_len (pa_cons (pv 0) pa_nil)) (pe_callB call_len_seq rfl mn PySem.boot_len (pa_cons (pv 1) pa_nil)) (nomark _))
            (pe_one (pe_callB (cr_all rfl) rfl ma (by decide +kernel) (pa_cons (pe_lc (own := [("_law_a", 2), ("_law_b", 3)]) (g := gTup K 2 (gCons (gName 2) (gCons (gName 3) gNil))) (tt := tYes) rfl scLike.nd (pi_zipA rfl mz (pa_cons (pv 0) (pa_cons (pv 1) pa_nil))) (blkOk_by (N := nLike) (sc := defScope (top 74)) (by decide +kernel))
              (fun _ _ _ _ _ => pg_tup rfl (pgs_cons (pg_name (i := 2) scLike.nd rfl (Or.inl rfl)) (pgs_cons (pg_name (i := 3) scLike.nd rfl (Or.inl rfl)) pgs_nil))) (fun _ _ _ _ _ => pts_nil) (fun _ _ _ _ _ => pe_call GL hr rfl mL F.kp bL .nil pass0 (pa_cons (pv 2) (pa_cons (pv 3) pa_nil)))) pa_nil))))))) pss_nil)
        (pss_cons ps_never (pss_cons ps_never (pss_cons ps_never (pss_one ps_never)))), ?_⟩
      refine ⟨_, rfl, (by show 2 ≤ sizeLine; decide), fun p np => ?_⟩
      have g1 := new_same np (.tup [.ty "list", .ty "tuple"])
      refine ⟨.ref b, p, _, .type "tuple", _, true, rfl, upd_same, .cons (.ty _) (.cons (.ty _) .nil), .base (.tup (g1 _ _ h2)), kit2 kb_l.2.2.1 kb_l.2.2.2 rfl, _, rfl, ?_⟩
      refine iteT ?_
      generalize upd H p (.tup [.ty "list", .ty "tuple"]) = H1 at g1
      have ta : TyX K H1 (.ref a) (.type "tuple") := .base (.tup (g1 _ _ h1))
      have tb : TyX K H1 (.ref b) (.type "tuple") := .base (.tup (g1 _ _ h2))
      refine ⟨_, rfl, .ref a, _, _, _, _, rfl, .ty _, ta, kit_ty kb_l.2.2.1, _, rfl, .ref b, _, _, _, _, rfl, .ty _, tb, kit_ty kb_l.2.2.1, rfl, _, rfl, iteNS rfl ?_⟩
      refine ⟨_, rfl, .ref a, _, _, _, _, rfl, .ty _, ta, kit_ty kb_l.2.2.2, _, rfl, .ref b, _, _, _, _, rfl, .ty _, tb, kit_ty kb_l.2.2.2, rfl, _, rfl, iteNS rfl ?_⟩
      refine ⟨_, rfl, a, xs, rfl, .inr (SqT.of (g1 _ _ h1)), _, rfl, b, ys, rfl, .inr (SqT.of (g1 _ _ h2)), rfl, _, rfl, ?_⟩
      rw [decide_eq_true (show V.int (xs.length : Nat) = V.int (ys.length : Nat) by rw [le])]
      refine iteT ⟨_, rfl, _, rfl, a, b, xs, ys, rfl, .inr ⟨SqT.of (g1 _ _ h1), SqT.of (g1 _ _ h2), fun D nD => ?_⟩⟩
      refine lc_it (walk_zipT (K := K) (a := a) (b := b) (xs := xs) (ys := ys) (n := xs.length) (by omega)) (fun i H' => Same H1 H' ∧ H' D = some (.lst ((List.replicate i true).map V.bl))) ⟨new_same nD _, upd_same⟩ (fun i H' _ h => ⟨SqT.of (h.1 _ _ (g1 _ _ h1)), SqT.of (h.1 _ _ (g1 _ _ h2))⟩) ?_ ?_
      · rintro i x H' H5 hi ⟨g, hD⟩ ⟨T, y, z, rfl, hT, rfl, hy, hz⟩
        refine ⟨T, [y, z], rfl, SqT.of upd_same, rfl, y, [z], rfl, z, [], rfl, rfl, ?_⟩
        refine ⟨rfl, ?_⟩
        refine yesT ?_
        have g5 : Same H1 (upd H' T (.tup [y, z])) := g.trans (new_same hT _)
        have tyz := el i y z hy hz _ (g1.trans g5)
        refine ⟨_, rfl, _, rfl, y, z, _, _, rfl, tyz, fun H6 g6 => ⟨(List.replicate i true).map V.bl, ?_, ?_, ?_, ?_⟩⟩
        · refine g6 _ _ ?_
          rw [upd_ne (ne_of_none hD hT)]
          exact hD
        · rw [List.length_map, List.length_replicate]
          exact small1000 (by omega)
        · exact fun c o h => by rw [upd_ne (ne_of_none h nD)]; exact g6 _ _ (g5 _ _ h)
        · rw [upd_same, List.replicate_succ', List.map_append]
          rfl
      · rintro H' ⟨g, hD⟩
        refine ⟨D, List.replicate xs.length true, rfl, SqL.of hD, ?_⟩
        have e : (List.replicate xs.length true).all id = true := by simp
        rw [e]
        exact q H' (g1.trans g)
end
end Kr
end
section
set_option maxHeartbeats 4000000
namespace Kr
open PySem PySem.Spec PyProof.Rows L2
theorem pow_bd {x : Int} {n : Nat} (h : x.natAbs < 2 ^ n) : ∀ i : Nat, (x ^ i).natAbs < 2 ^ (n * i + 1)
  | 0 => by simp
  | i + 1 => by
    have z := wide_lt (pow_bd h i) h
    rw [Int.pow_succ, show n * (i + 1) + 1 = n * i + 1 + n by rw [Nat.mul_succ]; omega]
    exact z
def spRaised : Sp := fun vs H Q _ => ∃ (b : Int) (n : Nat), vs = [.int b, .int (n : Nat)] ∧ n ≤ 64 ∧ b.natAbs < 2 ^ 1000 ∧ Q (.int (b ^ n)) H
abbrev nRai : List Str := ["base", "n", "found", "_"]
def spLR : Sp := fun vs H Q _ => ∃ (x : V) (a b : Int) (n : Nat), vs = [x, .int (n : Nat)] ∧ n ≤ 64 ∧ Fr H 1000 x a b ∧ Gives H Q (a ^ n) (b ^ n)
abbrev nLR : List Str := ["_law_a", "_law_k", "_law_p", "_law_q", "_law_j"]
section
variable {P : Program} {w : World} {K : PySem.W.Frag} {mg : Str → Option Value} {base : Heap} {f : Addr} {fd : FuncData}
theorem scRai : FnScope nRai ["base", "n"] (defScope (top 27)) := ⟨rfl, rfl, rfl, by decide +kernel, rfl, by decide +kernel, by decide +kernel⟩
theorem ok_raised (F : Fun K "raised" "raised" (top 27) f fd) (mr : mg "range" = none) : FnOk P w K mg base CX0 1 f fd ["base", "n"] spRaised := by
  refine F.ok scRai (fun vs H Q E h => ?_) (fun cdv A outer s H vs Q E hr h => ?_)
  · obtain ⟨b, n, rfl, _⟩ := h
    rfl
  obtain ⟨b, n, rfl, hn, hb, q⟩ := h
  refine ⟨_, pss_cons (ps_set (i := 2) scRai.nd rfl (Or.inl rfl) pe_int)
    (pss_cons (ps_for PassesOwn.never rfl (pi_range1 rfl mr (pa_cons (pv 1) pa_nil)) (pg_name (i := 3) scRai.nd rfl (Or.inl rfl)) (pss_one (ps_set (i := 2) scRai.nd rfl (Or.inl rfl) (pe_op op_mulW (pv 2) (pv 0)))))
    (pss_one (ps_ret (pv 2)))), ?_⟩
  refine ⟨_, rfl, (n : Nat), rfl, by omega, by omega, for_range (lo := 0) (n := ((n : Nat) : Int).toNat) (fun i σ H' => H' = H ∧ ∃ v : Option V, σ = [some (.int b), some (.int (n : Nat)), some (.int (b ^ i)), v]) ⟨rfl, none, by rw [Int.pow_zero]; rfl⟩ ?_ ?_⟩
  · rintro i σ H' hi ⟨rfl, v, rfl⟩
    have hi2 : i < 64 := by rw [Int.toNat_natCast] at hi; omega
    refine ⟨_, rfl, _, rfl, _, _, rfl, rfl, wide_mul (pow_bd hb i) hb (by omega) (by decide) (by omega), rfl, some (.int (0 + (i : Nat))), ?_⟩
    rw [Int.pow_succ]
    rfl
  · rintro σ H' ⟨rfl, v, rfl⟩
    exact ⟨_, rfl, q⟩
theorem scLR : FnScope nLR ["_law_a", "_law_k"] (defScope (top 80)) := ⟨rfl, rfl, rfl, by decide +kernel, rfl, by decide +kernel, by decide +kernel⟩
theorem ok_lraised (F : Fun K "_law_raised" "_law_raised" (top 80) f fd) (mr : mg "range" = none) : FnOk P w K mg base CX0 1 f fd ["_law_a", "_law_k"] spLR := by
  refine F.ok scLR (fun vs H Q E h => ?_) (fun cdv A outer s H vs Q E hr h => ?_)
  · obtain ⟨x, a, b, n, rfl, _⟩ := h
    rfl
  obtain ⟨x, a, b, n, rfl, hn, ⟨xa, rfl, hx, ha, hb, _⟩, q⟩ := h
  have sx := SqT.of (K := K) hx
  refine ⟨_, pss_cons (ps_asg (pe_tup (pa_cons pe_int (pa_cons pe_int pa_nil))) (pg_tup rfl (pgs_cons (pg_name (i := 2) scLR.nd rfl (Or.inl rfl)) (pgs_cons (pg_name (i := 3) scLR.nd rfl (Or.inl rfl)) pgs_nil))))
    (pss_cons (ps_for PassesOwn.never rfl (pi_range1 rfl mr (pa_cons (pv 1) pa_nil)) (pg_name (i := 4) scLR.nd rfl (Or.inl rfl))
      (pss_one (ps_par (i := 2) (j := 3) rfl scLR.nd rfl rfl (by decide) rfl rfl (pa_cons (pe_op op_mulW (pv 2) (pe_ix ix_tup (pv 0) pe_int (fun _ _ => rfl))) (pa_cons (pe_op op_mulW (pv 3) (pe_ix ix_tup (pv 0) pe_int (fun _ _ => rfl))) pa_nil)) rfl)))
    (pss_one (ps_ret (pe_tup (pa_cons (pv 2) (pa_cons (pv 3) pa_nil)))))), ?_⟩
  refine ⟨(by show 2 ≤ sizeLine; decide), fun t0 n0 => ⟨t0, _, rfl, SqT.of upd_same, rfl, _, _, rfl, _, _, rfl, rfl, ?_⟩⟩
  have s0 := new_same n0 (.tup [.int 1, .int 1])
  generalize upd H t0 (.tup [.int 1, .int 1]) = H0 at s0
  have sx := SqT.of (K := K) (s0 _ _ hx)
  refine ⟨_, rfl, (n : Nat), rfl, by omega, by omega, for_range (lo := 0) (n := ((n : Nat) : Int).toNat) (fun i σ H' => H' = H0 ∧ ∃ v : Option V, σ = [some (.ref xa), some (.int (n : Nat)), some (.int (a ^ i)), some (.int (b ^ i)), v]) ⟨rfl, none, by rw [Int.pow_zero, Int.pow_zero]; rfl⟩ ?_ ?_⟩
  · rintro i σ H' hi ⟨rfl, v, rfl⟩
    have hi2 : i < 64 := by rw [Int.toNat_natCast] at hi; omega
    refine ⟨_, rfl, _, rfl, xa, _, 0, _, rfl, rfl, sx, rfl, _, _, rfl, rfl, wide_mul (pow_bd ha i) ha (by omega) (by decide) (by omega),
      _, rfl, _, rfl, xa, _, 1, _, rfl, rfl, sx, rfl, _, _, rfl, rfl, wide_mul (pow_bd hb i) hb (by omega) (by decide) (by omega), _, _, rfl, rfl, some (.int (0 + (i : Nat))), ?_⟩
    rw [Int.pow_succ, Int.pow_succ]
    rfl
  · rintro σ H' ⟨rfl, v, rfl⟩
    exact ⟨_, rfl, _, rfl, (by show 2 ≤ sizeLine; decide), fun t nt => q t _ (s0.trans (new_same nt _)) (s0.free nt) upd_same⟩
end
end Kr
end
section
set_option maxHeartbeats 4000000
namespace Kr
open PySem PySem.Spec PyProof.Rows L2 RZ
def WhV (K : PySem.W.Frag) (H : Hp) (v : V) (b : Bool) : Prop := ∀ H', Same H H' → ∃ (T : Value) (x y : Bool), TyX K H' v T ∧ PySem.W.kitOne K T (.type "int") = some x ∧ PySem.W.kitOne K T (.type "bool") = some y ∧ b = (x && !y)
def spWhole (K : PySem.W.Frag) : Sp := fun vs H Q _ => ∃ (v : V) (b : Bool), vs = [v] ∧ WhV K H v b ∧ Q (.bl b) H
/-- is v a fraction: r -/
def IsF (K : PySem.W.Frag) (H : Hp) (v : V) (r : Bool) : Prop :=
  (∃ T, TyX K H v T ∧ PySem.W.kitOne K T (.type "tuple") = some false ∧ r = false) ∨
  (∃ a xs, v = .ref a ∧ SqT K H a xs ∧ TyX K H (.ref a) (.type "tuple") ∧ xs.length ≠ 2 ∧ r = false) ∨
  (∃ a x y b1 b2, v = .ref a ∧ SqT K H a [x, y] ∧ TyX K H (.ref a) (.type "tuple") ∧ WhV K H x b1 ∧ WhV K H y b2 ∧ (((b1 && b2) = false ∧ r = false) ∨ ∃ u l : Int, b1 = true ∧ b2 = true ∧ x = .int u ∧ y = .int l ∧ r = (decide (1 ≤ l) && decide (Nat.gcd u.natAbs l.natAbs = 1))))
def spIsF (K : PySem.W.Frag) : Sp := fun vs H Q _ => ∃ (v : V) (r : Bool), vs = [v] ∧ IsF K H v r ∧ Q (.bl r) H
theorem kb_int : kitB "int" "int" = some true ∧ kitB "int" "bool" = some false := by decide +kernel
theorem wh_int {K : PySem.W.Frag} {H : Hp} (i : Int) : WhV K H (.int i) true := fun _ _ => ⟨.type "int", true, false, .base (.int i), kit_ty kb_int.1, kit_ty kb_int.2, rfl⟩
abbrev nIF : List Str := ["value", "upper", "lower"]
section
variable {P : Program} {w : World} {K : PySem.W.Frag} {mg : Str → Option Value} {base : Heap} {f fW : Addr} {fd fdW : FuncData}
theorem scWh : FnScope ["value"] ["value"] (defScope (top 20)) := ⟨rfl, rfl, rfl, by decide +kernel, rfl, by decide +kernel, by decide +kernel⟩
theorem ok_whole (F : Fun K "is_whole" "is_whole" (top 20) f fd) (mI : mg "isinstance" = none) (mi : mg "int" = none) (mb : mg "bool" = none) : FnOk P w K mg base CX0 1 f fd ["value"] (spWhole K) := by
  refine F.ok scWh (fun vs H Q E h => ?_) (fun cdv A outer s H vs Q E hr h => ?_)
  · obtain ⟨v, b, rfl, _⟩ := h
    rfl
  obtain ⟨v, b, rfl, hw, q⟩ := h
  obtain ⟨T, x, y, ty, k1, k2, rfl⟩ := hw H (Same.refl H)
  refine ⟨_, pss_one (ps_ret (pe_and (pe_callB call_isi rfl mI (by decide +kernel) (pa_cons (pv 0) (pa_cons (pe_bltn rfl mi boot_int (rel_ty _)) pa_nil))) (pe_one (pe_not (pe_callB call_isi rfl mI (by decide +kernel) (pa_cons (pv 0) (pa_cons (pe_bltn rfl mb boot_bool (rel_ty _)) pa_nil))))))), ?_⟩
  refine ⟨_, rfl, v, _, T, _, x, rfl, .ty _, ty, k1, _, rfl, ?_⟩
  cases x with
  | false => exact iteF q
  | true => exact iteT ⟨_, rfl, v, _, T, _, y, rfl, .ty _, ty, k2, _, rfl, q⟩
theorem scIF : FnScope nIF ["value"] (defScope (top 22)) := ⟨rfl, rfl, rfl, by decide +kernel, rfl, by decide +kernel, by decide +kernel⟩
theorem ok_isf (F : Fun K "is_fraction" "is_fraction" (top 22) f fd) (mI : mg "isinstance" = none) (mt : mg "tuple" = none) (mn : mg "len" = none) (mG : mg "gcd" = some (.builtin "math.gcd"))
    (GW : FnOk P w K mg base CX0 1 fW fdW ["value"] (spWhole K)) (bW : Binds K fdW ["value"] []) (kW : PySem.W.keepIn K (.ref fW) = true) (mW : mg "is_whole" = some (.ref fW)) : FnOk P w K mg base CX0 2 f fd ["value"] (spIsF K) := by
  refine F.ok scIF (fun vs H Q E h => ?_) (fun cdv A outer s H vs Q E hr h => ?_)
  · obtain ⟨v, r, rfl, _⟩ := h
    rfl
  obtain ⟨v, r, rfl, hf, q⟩ := h
  refine ⟨_, pss_cons (ps_if (PW.pt (pw_or (pt_not (pt_val (pe_callB call_isi rfl mI (by decide +kernel) (pa_cons (pv 0) (pa_cons (pe_bltn rfl mt boot_tuple (rel_ty _)) pa_nil))))) (pw_or1 (pt_cmpR op_ne (pe_callB call_len_seq rfl mn PySem.boot_len (pa_cons (pv 0) pa_nil)) pe_int (nomark _))))) (pss_one (ps_ret pe_bl)) pss_nil)
    (pss_cons (ps_asg (pv 0) (pg_tup rfl (pgs_cons (pg_name (i := 1) scIF.nd rfl (Or.inl rfl)) (pgs_cons (pg_name (i := 2) scIF.nd rfl (Or.inl rfl)) pgs_nil))))
    (pss_cons (ps_if (PW.pt (pw_or (pt_not (pt_val (pe_call GW hr rfl mW kW bW .nil pass0 (pa_cons (pv 1) pa_nil)))) (pw_or1 (pt_not (pt_val (pe_call GW hr rfl mW kW bW .nil pass0 (pa_cons (pv 2) pa_nil))))))) (pss_one (ps_ret pe_bl)) pss_nil)
    (pss_one (ps_ret (pe_and (pe_cmpR op_ge (pv 2) pe_int (nomark _)) (pe_one (pe_cmpR op_eq (pe_callBfun cr_gcd rfl mG (pa_cons (pv 1) (pa_cons (pv 2) pa_nil))) pe_int (nomark _)))))))), ?_⟩
  have tk : PySem.W.kitOne K (.type "tuple") (.type "tuple") = some true := kit_ty kb_l.2.2.2
  rcases hf with ⟨T, ty, k, rfl⟩ | ⟨a, xs, rfl, ha, ht, hl, rfl⟩ | ⟨a, x, y, b1, b2, rfl, ha, ht, hx, hy, hh⟩
  · exact ⟨_, rfl, v, _, T, _, false, rfl, .ty _, ty, k, _, rfl, iteT q⟩
  · refine ⟨_, rfl, _, _, _, _, true, rfl, .ty _, ht, tk, _, rfl, iteF ?_⟩
    refine ⟨_, rfl, a, xs, rfl, .inr (ha), rfl, _, rfl, ?_⟩
    rw [decide_eq_false (fun e => hl (by have := V.int.inj e; omega))]
    exact iteT q
  · refine ⟨_, rfl, _, _, _, _, true, rfl, .ty _, ht, tk, _, rfl, iteF ?_⟩
    refine ⟨_, rfl, a, _, rfl, .inr (ha), rfl, _, rfl, iteF ?_⟩
    refine ⟨_, rfl, a, _, rfl, ha, rfl, _, _, rfl, _, _, rfl, rfl, ?_⟩
    rcases hh with ⟨hb, rfl⟩ | ⟨u, l, rfl, rfl, rfl, rfl, rfl⟩
    · cases b1 with
      | false => exact ⟨_, rfl, x, false, rfl, hx, _, rfl, iteT q⟩
      | true =>
        obtain rfl : b2 = false := hb
        exact ⟨_, rfl, x, true, rfl, hx, _, rfl, iteF ⟨_, rfl, y, false, rfl, hy, _, rfl, iteT q⟩⟩
    · refine ⟨_, rfl, _, true, rfl, wh_int u, _, rfl, iteF ⟨_, rfl, _, true, rfl, wh_int l, _, rfl, iteF ?_⟩⟩
      refine ⟨_, rfl, l, 1, rfl, rfl, _, rfl, ?_⟩
      by_cases c : (1 : Int) ≤ l
      · rw [decide_eq_true c] at q ⊢
        refine iteT ⟨_, rfl, _, rfl, u, l, rfl, rfl, ?_⟩
        have e : (decide (V.int ((Nat.gcd u.natAbs l.natAbs : Nat) : Int) = V.int 1)) = (true && decide (Nat.gcd u.natAbs l.natAbs = 1)) := by
          rw [Bool.true_and]
          exact decide_eq_decide.mpr ⟨fun h => by have := V.int.inj h; omega, fun h => by rw [h]; rfl⟩
        rw [← e] at q
        exact q
      · rw [decide_eq_false c] at q ⊢
        exact iteF q
end
end Kr
end
section
set_option maxHeartbeats 4000000
namespace Kr
/-- r is the whole n-th root of p, from below -/
def IsR (n p r : Nat) : Prop := r ^ n ≤ p ∧ p < (r + 1) ^ n
theorem IsR.le {n p r q : Nat} (h : IsR n p r) (hq : q ^ n ≤ p) : q ≤ r := by
  apply Nat.le_of_lt_succ
  apply Nat.lt_of_not_le
  intro c
  exact Nat.lt_irrefl _ (Nat.lt_of_lt_of_le h.2 (Nat.le_trans (Nat.pow_le_pow_left c n) hq))
theorem IsR.uniq {n p r q : Nat} (h : IsR n p r) (h' : IsR n p q) : r = q := Nat.le_antisymm (h'.le h.1) (h.le h'.1)
/-- one more of the binary search -/
theorem floor_step {n p s d : Nat} (h1 : s ^ n ≤ p) (h2 : p < (s + 2 * d) ^ n) :
    ((s + d) ^ n ≤ p → p < (s + d + d) ^ n) ∧ (¬ (s + d) ^ n ≤ p → p < (s + d) ^ n) := by
  refine ⟨fun _ => ?_, fun c => Nat.lt_of_not_le c⟩
  rw [show s + d + d = s + 2 * d by omega]
  exact h2
theorem floor_start {n p : Nat} (hn : 0 < n) (hp : p < 2 ^ 201) : p < (0 + 2 ^ (201 / n + 1)) ^ n := by
  rw [Nat.zero_add, ← Nat.pow_mul]
  refine Nat.lt_of_lt_of_le hp (Nat.pow_le_pow_right (by decide) ?_)
  have := Nat.div_add_mod 201 n
  have := Nat.mod_lt 201 hn
  have e : (201 / n + 1) * n = n * (201 / n) + n := by rw [Nat.add_mul, Nat.one_mul, Nat.mul_comm]
  rw [e]
  omega
/-- the means of Newton: n r g^(n-1) at most (n-1) g^n + r^n -/
theorem means (g r : Nat) : ∀ m : Nat, (m + 1) * r * g ^ m ≤ m * g ^ (m + 1) + r ^ (m + 1)
  | 0 => by simp
  | m + 1 => by
    have ih := means g r m
    -- f(m+1) - r f(m) = (m+1) g^m (g - r)^2
    have sq : 2 * (g * r) ≤ g * g + r * r := by
      rcases Nat.le_total g r with c | c
      · obtain ⟨d, rfl⟩ := Nat.le.dest c
        have : (g + d) * (g + d) = g * g + 2 * (g * d) + d * d := by rw [Nat.add_mul, Nat.mul_add, Nat.mul_add, Nat.mul_comm d g]; omega
        have e : g * (g + d) = g * g + g * d := Nat.mul_add ..
        rw [this, e]
        omega
      · obtain ⟨d, rfl⟩ := Nat.le.dest c
        have : (r + d) * (r + d) = r * r + 2 * (r * d) + d * d := by rw [Nat.add_mul, Nat.mul_add, Nat.mul_add, Nat.mul_comm d r]; omega
        have e : (r + d) * r = r * r + r * d := by rw [Nat.add_mul, Nat.mul_comm d r]
        rw [this, e]
        omega
    have h1 := Nat.mul_le_mul_left r ih
    have h2 := Nat.mul_le_mul_left ((m + 1) * g ^ m) sq
    have a1 : r * ((m + 1) * r * g ^ m) = (m + 1) * (g ^ m * (r * r)) := by
      simp only [Nat.mul_comm, Nat.mul_left_comm, Nat.mul_assoc]
    have a2 : r * (m * g ^ (m + 1) + r ^ (m + 1)) = m * (g ^ m * (g * r)) + r ^ (m + 2) := by
      rw [Nat.mul_add, Nat.pow_succ g, Nat.pow_succ r (m + 1)]
      simp only [Nat.mul_comm, Nat.mul_left_comm, Nat.mul_assoc]
    have a3 : (m + 1) * g ^ m * (2 * (g * r)) = 2 * ((m + 1) * (g ^ m * (g * r))) := by
      simp only [Nat.mul_comm, Nat.mul_left_comm, Nat.mul_assoc]
    have a4 : (m + 1) * g ^ m * (g * g + r * r) = (m + 1) * (g ^ m * (g * g)) + (m + 1) * (g ^ m * (r * r)) := by
      rw [Nat.mul_add]
      simp only [Nat.mul_comm, Nat.mul_left_comm, Nat.mul_assoc]
    have a5 : (m + 1 + 1) * r * g ^ (m + 1) = (m + 2) * (g ^ m * (g * r)) := by
      rw [Nat.pow_succ]
      simp only [Nat.mul_comm, Nat.mul_left_comm, Nat.mul_assoc]
    have a6 : (m + 1) * g ^ (m + 1 + 1) = (m + 1) * (g ^ m * (g * g)) := by
      rw [Nat.pow_succ, Nat.pow_succ]
      simp only [Nat.mul_assoc]
    rw [a5, a6]
    rw [a1, a2] at h1
    rw [a3, a4] at h2
    generalize g ^ m * (g * r) = x at *
    generalize g ^ m * (g * g) = y at *
    generalize g ^ m * (r * r) = z at *
    generalize r ^ (m + 1 + 1) = w at *
    have e1 : (m + 2) * x = m * x + 2 * x := by rw [Nat.add_mul]
    have e2 : (m + 1) * x = m * x + x := by rw [Nat.add_mul, Nat.one_mul]
    rw [e1]
    rw [e2] at h2
    have h1' : (m + 1) * z ≤ m * x + w := h1
    omega
/-- the next of Newton's row is not below the root -/
theorem newton_ge {m p g r : Nat} (hg : 0 < g) (h : r ^ (m + 1) ≤ p) : r ≤ (m * g + p / g ^ m) / (m + 1) := by
  rw [Nat.le_div_iff_mul_le (show 0 < m + 1 from Nat.succ_pos m)]
  have hp : 0 < g ^ m := Nat.pow_pos hg
  have z := means g r m
  rcases Nat.le_total (r * (m + 1)) (m * g) with c | c
  · exact Nat.le_trans c (Nat.le_add_right _ _)
  · have k : r * (m + 1) - m * g ≤ p / g ^ m := by
      rw [Nat.le_div_iff_mul_le hp, Nat.sub_mul]
      have e1 : r * (m + 1) * g ^ m = (m + 1) * r * g ^ m := by rw [Nat.mul_comm r]
      have e2 : m * g * g ^ m = m * g ^ (m + 1) := by rw [Nat.pow_succ, Nat.mul_assoc, Nat.mul_comm g]
      rw [e1, e2]
      omega
    omega
/-- where it does not fall, it stands at the root -/
theorem newton_end {m p g r : Nat} (hg : 0 < g) (h : IsR (m + 1) p r) (hr : r ≤ g) (c : g ≤ (m * g + p / g ^ m) / (m + 1)) : g = r := by
  rw [Nat.le_div_iff_mul_le (show 0 < m + 1 from Nat.succ_pos m)] at c
  have hp : 0 < g ^ m := Nat.pow_pos hg
  have e : g * (m + 1) = m * g + g := by rw [Nat.mul_succ, Nat.mul_comm]
  have k : g ≤ p / g ^ m := by omega
  rw [Nat.le_div_iff_mul_le hp] at k
  refine Nat.le_antisymm (h.le ?_) hr
  rw [Nat.pow_succ, Nat.mul_comm]
  exact k
theorem newton_start {n p r b : Nat} (hn : 0 < n) (hb : p < 2 ^ b) (h : r ^ n ≤ p) : r ≤ 2 ^ (b / n + 1) := by
  apply Nat.le_of_not_lt
  intro c
  have z := Nat.pow_le_pow_left (Nat.le_of_lt c) n
  rw [← Nat.pow_mul] at z
  have y : 2 ^ b ≤ 2 ^ ((b / n + 1) * n) := Nat.pow_le_pow_right (by decide) (by
    have := Nat.div_add_mod b n
    have := Nat.mod_lt b hn
    have e : (b / n + 1) * n = n * (b / n) + n := by rw [Nat.add_mul, Nat.one_mul, Nat.mul_comm]
    rw [e]
    omega)
  omega
/-- each p has its root -/
theorem isR_ex (n : Nat) (hn : 0 < n) : ∀ p : Nat, ∃ r, IsR n p r
  | 0 => ⟨0, by rw [Nat.zero_pow hn]; exact Nat.le_refl _, by rw [Nat.zero_add, Nat.one_pow]; decide⟩
  | p + 1 => by
    obtain ⟨r, h1, h2⟩ := isR_ex n hn p
    by_cases c : p + 1 < (r + 1) ^ n
    · exact ⟨r, Nat.le_succ_of_le h1, c⟩
    · refine ⟨r + 1, Nat.le_of_not_lt c, ?_⟩
      have : (r + 1) ^ n < (r + 1 + 1) ^ n := Nat.pow_lt_pow_left (Nat.lt_succ_self _) (Nat.ne_of_gt hn)
      omega
theorem root_le {n p r : Nat} (hn : 0 < n) (h : IsR n p r) : r ≤ p := Nat.le_trans (by
  cases r with
  | zero => exact Nat.zero_le _
  | succ r => exact Nat.le_self_pow (Nat.ne_of_gt hn) _) h.1
end Kr
end
section
set_option maxHeartbeats 4000000
namespace Kr
open PySem PySem.Spec PyProof.Rows L2
def spDbl : Sp := fun vs H Q _ => ∃ n : Nat, vs = [.int (n : Nat)] ∧ n ≤ 300 ∧ Q (.int ((2 ^ n : Nat) : Int)) H
def spFloor : Sp := fun vs H Q _ => ∃ p k : Nat, vs = [.int (p : Nat), .int (k : Nat)] ∧ p < 2 ^ 201 ∧ 0 < k ∧ k ≤ 24 ∧ ∀ r H', IsR k p r → Same H H' → Q (.int (r : Nat)) H'
abbrev nDbl : List Str := ["_law_k", "_law_p", "_law_j"]
abbrev nFlo : List Str := ["_law_p", "_law_k", "_law_some", "_law_j", "_law_more"]
theorem lt_p2 {a b n : Nat} (h : a < 2 ^ n) (hb : b ≤ a) : ((b : Nat) : Int).natAbs < 2 ^ n := by
  rw [Int.natAbs_natCast]
  omega
theorem le_pow {s k p : Nat} (hk : 0 < k) (h : s ^ k ≤ p) : s ≤ p := Nat.le_trans (by
  cases s with
  | zero => exact Nat.zero_le _
  | succ s => exact Nat.le_self_pow (Nat.ne_of_gt hk) _) h
theorem int_pow (a n : Nat) : ((a : Nat) : Int) ^ n = ((a ^ n : Nat) : Int) := by push_cast; rfl
section
variable {P : Program} {w : World} {K : PySem.W.Frag} {mg : Str → Option Value} {base : Heap} {f fD fR : Addr} {fd fdD fdR : FuncData}
theorem scDbl : FnScope nDbl ["_law_k"] (defScope (top 82)) := ⟨rfl, rfl, rfl, by decide +kernel, rfl, by decide +kernel, by decide +kernel⟩
theorem ok_double (F : Fun K "_law_double" "_law_double" (top 82) f fd) (mr : mg "range" = none) : FnOk P w K mg base CX0 1 f fd ["_law_k"] spDbl := by
  refine F.ok scDbl (fun vs H Q E h => ?_) (fun cdv A outer s H vs Q E hr h => ?_)
  · obtain ⟨n, rfl, _⟩ := h
    rfl
  obtain ⟨n, rfl, hn, q⟩ := h
  refine ⟨_, pss_cons (ps_set (i := 1) scDbl.nd rfl (Or.inl rfl) pe_int)
    (pss_cons (ps_for PassesOwn.never rfl (pi_range1 rfl mr (pa_cons (pv 0) pa_nil)) (pg_name (i := 2) scDbl.nd rfl (Or.inl rfl)) (pss_one (ps_set (i := 1) scDbl.nd rfl (Or.inl rfl) (pe_op op_mulW (pv 1) pe_int))))
    (pss_one (ps_ret (pv 1)))), ?_⟩
  refine ⟨_, rfl, (n : Nat), rfl, by omega, by omega, for_range (lo := 0) (n := ((n : Nat) : Int).toNat) (fun i σ H' => H' = H ∧ ∃ v : Option V, σ = [some (.int (n : Nat)), some (.int ((2 ^ i : Nat) : Int)), v]) ⟨rfl, none, rfl⟩ ?_ ?_⟩
  · rintro i σ H' hi ⟨rfl, v, rfl⟩
    have hi2 : i < 300 := by rw [Int.toNat_natCast] at hi; omega
    refine ⟨_, rfl, _, _, rfl, rfl, wide_mul (a := 301) (b := 2) (by rw [Int.natAbs_natCast]; exact Nat.pow_lt_pow_right (by decide) (by omega)) (by decide) (by decide) (by decide) (by decide), rfl, some (.int (0 + (i : Nat))), ?_⟩
    have e : (((2 ^ i : Nat) : Int) * 2) = ((2 ^ (i + 1) : Nat) : Int) := by rw [Nat.pow_succ]; push_cast; rfl
    show [_, some (V.int (((2 ^ i : Nat) : Int) * 2)), _] = _
    rw [e]
  · rintro σ H' ⟨rfl, v, rfl⟩
    exact ⟨_, rfl, by rw [Int.toNat_natCast]; exact q⟩
theorem scFlo : FnScope nFlo ["_law_p", "_law_k"] (defScope (top 81)) := ⟨rfl, rfl, rfl, by decide +kernel, rfl, by decide +kernel, by decide +kernel⟩
theorem ok_floor (F : Fun K "_law_floor" "_law_floor" (top 81) f fd) (mr : mg "range" = none)
    (GD : FnOk P w K mg base CX0 1 fD fdD ["_law_k"] spDbl) (bD : Binds K fdD ["_law_k"] []) (kD : PySem.W.keepIn K (.ref fD) = true) (mD : mg "_law_double" = some (.ref fD))
    (GR : FnOk P w K mg base CX0 1 fR fdR ["_law_a", "_law_k"] spLR) (bR : Binds K fdR ["_law_a", "_law_k"] []) (kR : PySem.W.keepIn K (.ref fR) = true) (mR : mg "_law_raised" = some (.ref fR)) :
    FnOk P w K mg base CX0 2 f fd ["_law_p", "_law_k"] spFloor := by
  refine F.ok scFlo (fun vs H Q E h => ?_) (fun cdv A outer s H vs Q E hr h => ?_)
  · obtain ⟨p, k, rfl, _⟩ := h
    rfl
  obtain ⟨p, k, rfl, hp, k0, k24, q⟩ := h
  refine ⟨_, pss_cons (ps_set (i := 2) scFlo.nd rfl (Or.inl rfl) pe_int)
    (pss_cons (ps_for PassesOwn.never rfl (pi_range1 rfl mr (pa_cons (pe_op op_add (pe_op op_fdivNN pe_int (pv 1)) pe_int) pa_nil)) (pg_name (i := 3) scFlo.nd rfl (Or.inl rfl))
      (pss_cons (ps_set (i := 4) scFlo.nd rfl (Or.inl rfl) (pe_op op_addN (pv 2) (pe_call GD hr rfl mD kD bD .nil pass0 (pa_cons (pe_op op_sub (pe_op op_fdivNN pe_int (pv 1)) (pv 3)) pa_nil))))
      (pss_one (ps_if (pt_cmpR op_le (pe_ix ix_tup (pe_call GR hr rfl mR kR bR .nil pass0 (pa_cons (pe_tup (pa_cons (pv 4) (pa_cons pe_int pa_nil))) (pa_cons (pv 1) pa_nil))) pe_int (fun _ _ => rfl)) (pv 0) (nomark _)) (pss_one (ps_set (i := 2) scFlo.nd rfl (Or.inl rfl) (pv 4))) pss_nil))))
    (pss_one (ps_ret (pv 2)))), ?_⟩
  have m1 : 201 / k ≤ 201 := Nat.div_le_self _ _
  have z0 : (0 : Int) ≤ ((201 / k : Nat) : Int) := Int.natCast_nonneg _
  have z1 : ((201 / k : Nat) : Int) ≤ 201 := Int.ofNat_le.mpr m1
  refine ⟨_, rfl, 201, k, rfl, rfl, ⟨k0, by omega⟩, _, _, rfl, rfl, ((201 / k : Nat) : Int) + 1, rfl, by omega, by omega, for_range (lo := 0) (n := (((201 / k : Nat) : Int) + 1).toNat) (fun i σ H' => Same H H' ∧ ∃ (s : Nat) (v v' : Option V), σ = [some (.int (p : Nat)), some (.int (k : Nat)), some (.int (s : Nat)), v, v'] ∧ s ^ k ≤ p ∧ p < (s + 2 ^ (201 / k + 1 - i)) ^ k)
    ⟨Same.refl H, 0, none, none, rfl, by rw [Nat.zero_pow k0]; exact Nat.zero_le _, floor_start k0 hp⟩ ?_ ?_⟩
  · rintro i σ H' hi ⟨sH, s, v, v', rfl, s1, s2⟩
    have hi2 : i < 201 / k + 1 := by omega
    have sp : s < 2 ^ 201 := Nat.lt_of_le_of_lt (le_pow k0 s1) hp
    have tp : 2 ^ (201 / k - i) ≤ 2 ^ 201 := Nat.pow_le_pow_right (by decide) (by omega)
    have dbl : s + 2 ^ (201 / k + 1 - i) = s + 2 * 2 ^ (201 / k - i) := by rw [show 201 / k + 1 - i = 201 / k - i + 1 by omega, Nat.pow_succ, Nat.mul_comm]
    rw [dbl] at s2
    obtain ⟨st1, st2⟩ := floor_step s1 s2
    have mb : ((s + 2 ^ (201 / k - i) : Nat) : Int).natAbs < 2 ^ 1000 := by
      rw [Int.natAbs_natCast]
      have y : (2 ^ 201 + 2 ^ 201 : Nat) < 2 ^ 1000 := by decide +kernel
      omega
    refine ⟨_, rfl, _, rfl, 201, k, rfl, rfl, ⟨k0, by omega⟩, _, rfl, _, _, rfl, rfl, 201 / k - i, congrArg (fun z => [V.int z]) (show ((201 / k : Nat) : Int) - (0 + (i : Nat)) = ((201 / k - i : Nat) : Int) by omega), by omega, s, 2 ^ (201 / k - i), rfl, rfl, ?_⟩
    refine ⟨_, rfl, (by show 2 ≤ sizeLine; decide), fun t0 n0 => ⟨_, rfl, .ref t0, _, 1, k, rfl, by omega, ⟨t0, rfl, upd_same, mb, by decide, by decide⟩, fun t1 H1 s01 n1 h1 => ?_⟩⟩
    have sH1 : Same H H1 := (sH.trans (new_same n0 _)).trans s01
    rw [int_pow] at h1
    have e1 : 201 / k + 1 - (i + 1) = 201 / k - i := by omega
    refine ⟨t1, _, 0, _, rfl, rfl, SqT.of h1, rfl, _, rfl, _, _, rfl, rfl, _, rfl, ite2 (fun c => ?_) (fun c => ?_)⟩
    · have c1 : (s + 2 ^ (201 / k - i)) ^ k ≤ p := Int.ofNat_le.mp (of_decide_eq_true c)
      exact ⟨_, rfl, sH1, s + 2 ^ (201 / k - i), _, _, rfl, c1, by rw [e1]; exact st1 c1⟩
    · have c1 : ¬ (s + 2 ^ (201 / k - i)) ^ k ≤ p := fun z => of_decide_eq_false (Bool.eq_false_iff.mpr c) (Int.ofNat_le.mpr z)
      exact ⟨sH1, s, _, _, rfl, s1, by rw [e1]; exact st2 c1⟩
  · rintro σ H' ⟨sH, s, v, v', rfl, s1, s2⟩
    refine ⟨_, rfl, q s H' ⟨s1, ?_⟩ sH⟩
    rw [show 201 / k + 1 - (((201 / k : Nat) : Int) + 1).toNat = 0 by omega] at s2
    exact s2
end
end Kr
end
section
set_option maxHeartbeats 4000000
namespace Kr
open PySem PySem.Spec PyProof.Rows L2
theorem fdiv_nat (a b : Nat) : ((a : Nat) : Int).fdiv ((b : Nat) : Int) = ((a / b : Nat) : Int) := by
  rw [Int.fdiv_eq_ediv_of_nonneg _ (Int.natCast_nonneg b)]
  rfl
/-- the whole n-th root as a value: None where there is none -/
def rootV (n p r : Nat) : V := if r ^ n = p then .int (r : Nat) else .non
def spWR : Sp := fun vs H Q _ => ∃ p n : Nat, vs = [.int (p : Nat), .int (n : Nat)] ∧ p < 2 ^ 201 ∧ 0 < n ∧ n ≤ 24 ∧ ∀ r, IsR n p r → Q (rootV n p r) H
abbrev nWR : List Str := ["value", "n", "guess", "closer"]
section
variable {P : Program} {w : World} {K : PySem.W.Frag} {mg : Str → Option Value} {base : Heap} {f fR fW : Addr} {fd fdR fdW : FuncData}
theorem scWR : FnScope nWR ["value", "n"] (defScope (top 28)) := ⟨rfl, rfl, rfl, by decide +kernel, rfl, by decide +kernel, by decide +kernel⟩
theorem ok_wroot (F : Fun K "whole_root" "whole_root" (top 28) f fd)
    (GR : FnOk P w K mg base CX0 1 fR fdR ["base", "n"] spRaised) (bR : Binds K fdR ["base", "n"] []) (kR : PySem.W.keepIn K (.ref fR) = true) (mR : mg "raised" = some (.ref fR)) :
    FnOk P w K mg base CX0 2 f fd ["value", "n"] spWR := by
  refine F.ok scWR (fun vs H Q E h => ?_) (fun cdv A outer s H vs Q E hr h => ?_)
  · obtain ⟨p, n, rfl, _⟩ := h
    rfl
  obtain ⟨p, n, rfl, hp, n0, n24, q⟩ := h
  obtain ⟨r, hR⟩ := isR_ex n n0 p
  have q := q r hR
  refine ⟨_, pss_cons (ps_if (pt_cmpR op_lt (pv 0) pe_int (nomark _)) (pss_one (ps_ret (pv 0))) pss_nil)
    (pss_cons (ps_set (i := 2) scWR.nd rfl (Or.inl rfl) (pe_op op_oneShl pe_int (pe_op op_addN (pe_op op_fdivNN (pe_bits (pv 0)) (pv 1)) pe_int)))
    (pss_one (ps_while PassesOwn.never (pt_val pe_bl)
      (pss_cons (ps_set (i := 3) scWR.nd rfl (Or.inl rfl) (pe_op op_fdivNN (pe_op op_addN (pe_op op_mulN (pe_op op_subN (pv 1) pe_int) (pv 2)) (pe_op op_fdivA (pv 0) (pe_call GR hr rfl mR kR bR .nil pass0 (pa_cons (pv 2) (pa_cons (pe_op op_subN (pv 1) pe_int) pa_nil))))) (pv 1)))
      (pss_cons (ps_if (pt_cmpR op_ge (pv 3) (pv 2) (nomark _)) (pss_one (ps_ret (pe_ifExp (pt_cmpR op_eq (pe_call GR hr rfl mR kR bR .nil pass0 (pa_cons (pv 2) (pa_cons (pv 1) pa_nil))) (pv 0) (nomark _)) (pv 2) pe_non))) pss_nil)
      (pss_one (ps_set (i := 2) scWR.nd rfl (Or.inl rfl) (pv 3)))))))), ?_⟩
  refine ⟨_, rfl, p, 2, rfl, rfl, _, rfl, ite2 (fun c => ?_) (fun c => ?_)⟩
  · have c2 : ((p : Nat) : Int) < 2 := of_decide_eq_true c
    have rp : r = p := by
      refine hR.uniq ⟨?_, ?_⟩
      · rcases (show p = 0 ∨ p = 1 by omega) with rfl | rfl
        · rw [Nat.zero_pow n0]; exact Nat.le_refl _
        · rw [Nat.one_pow]; exact Nat.le_refl _
      · exact Nat.lt_of_lt_of_le (Nat.lt_succ_self p) (Nat.le_self_pow (Nat.ne_of_gt n0) _)
    have e : rootV n p r = .int (p : Nat) := by
      unfold rootV
      rw [rp, if_pos]
      rcases (show p = 0 ∨ p = 1 by omega) with rfl | rfl
      · exact Nat.zero_pow n0
      · exact Nat.one_pow n
    rw [e] at q
    exact ⟨_, rfl, q⟩
  have c2 : 2 ≤ p := by
    have z : ¬ ((p : Nat) : Int) < 2 := of_decide_eq_false (Bool.eq_false_iff.mpr c)
    omega
  obtain ⟨m, rfl⟩ : ∃ m, n = m + 1 := ⟨n - 1, by omega⟩
  have hb : p < 2 ^ Builtin.Int.intBits (p : Nat) := by
    have := (PySem.intBits_le_iff (x := ((p : Nat) : Int))).mp (Nat.le_refl _)
    rwa [Int.natAbs_natCast] at this
  have hb2 : Builtin.Int.intBits (p : Nat) ≤ 201 := (PySem.intBits_le_iff (x := ((p : Nat) : Int))).mpr (by rw [Int.natAbs_natCast]; exact hp)
  have hb3 : Builtin.Int.intBits (p : Nat) / (m + 1) ≤ 201 := Nat.le_trans (Nat.div_le_self _ _) hb2
  refine ⟨_, rfl, p, rfl, _, rfl, _, m + 1, rfl, rfl, ⟨by omega, by omega⟩, _, 1, rfl, rfl, _, rfl, rfl, by omega, ?_⟩
  have g0 : (2 : Int) ^ (Builtin.Int.intBits (p : Nat) / (m + 1) + 1) = ((2 ^ (Builtin.Int.intBits (p : Nat) / (m + 1) + 1) : Nat) : Int) := int_pow 2 _
  rw [g0]
  refine ⟨fun M σ H' => H' = H ∧ ∃ (g : Nat) (v : Option V), σ = [some (.int (p : Nat)), some (.int ((m + 1 : Nat) : Int)), some (.int (g : Nat)), v] ∧ 0 < g ∧ r ≤ g ∧ g ≤ 2 ^ 202 ∧ g = M,
    ⟨_, rfl, _, none, rfl, Nat.pow_pos (by decide), newton_start n0 hb hR.1, Nat.pow_le_pow_right (by decide) (by omega), rfl⟩, ?_⟩
  rintro M σ H' ⟨rfl, g, v, rfl, gp, rg, gb, rfl⟩
  refine ⟨_, rfl, ?_⟩
  refine iteT ⟨fun σ' H2 => H2 = H' ∧ ∃ (g' : Nat), σ' = [some (.int (p : Nat)), some (.int ((m + 1 : Nat) : Int)), some (.int (g' : Nat)), some (.int (g' : Nat))] ∧ 0 < g' ∧ r ≤ g' ∧ g' < g, ?_, ?_⟩
  · rintro σ' H2 ⟨rfl, g', rfl, h1, h2, h3⟩
    exact ⟨g', h3, rfl, g', _, rfl, h1, h2, by omega, rfl⟩
  have gi : ((g : Nat) : Int).natAbs < 2 ^ 203 := by
    rw [Int.natAbs_natCast, Nat.pow_succ 2 202]
    omega
  have g1000 : ((g : Nat) : Int).natAbs < 2 ^ 1000 := Nat.lt_trans gi (by decide +kernel)
  have pw : ((g : Nat) : Int) ^ m = ((g ^ m : Nat) : Int) := int_pow g m
  have dv : ((g : Nat) : Int) ^ m ≠ 0 ∧ (((g : Nat) : Int) ^ m).natAbs.log2 < 9000 := by
    refine ⟨?_, Nat.lt_of_lt_of_le (log_bd (pow_bd gi m) (by omega)) (by omega)⟩
    rw [pw]
    have := Nat.pow_pos (n := m) gp
    omega
  refine ⟨_, rfl, m + 1, 1, rfl, rfl, by omega, _, rfl, m, g, rfl, rfl, by omega, _, rfl, _, rfl, _, rfl, m + 1, 1, rfl, rfl, by omega, g, m, rfl, by omega, g1000, p, _, rfl, rfl, dv, m * g, p / g ^ m, rfl, congrArg V.int (by rw [pw]; exact fdiv_nat p (g ^ m)), _, rfl, _, m + 1, rfl, rfl, ⟨by omega, by omega⟩, ?_⟩
  refine ⟨_, rfl, _, rfl, _, _, rfl, rfl, _, rfl, ite2 (fun c => ?_) (fun c => ?_)⟩
  · have c1 : g ≤ (m * g + p / g ^ m) / (m + 1) := Int.ofNat_le.mp (of_decide_eq_true c)
    have e := newton_end gp hR rg c1
    subst e
    refine ⟨_, rfl, _, rfl, g, m + 1, rfl, by omega, g1000, _, rfl, rfl, _, rfl, ite2 (fun c2 => ?_) (fun c2 => ?_)⟩
    · have z : ((g : Nat) : Int) ^ (m + 1) = ((p : Nat) : Int) := V.int.inj (of_decide_eq_true c2)
      have z : g ^ (m + 1) = p := by rw [int_pow] at z; exact Int.ofNat_inj.mp z
      have e : rootV (m + 1) p g = .int (g : Nat) := if_pos z
      rw [e] at q
      exact ⟨_, rfl, q⟩
    · have z : ¬ g ^ (m + 1) = p := fun y => of_decide_eq_false (Bool.eq_false_iff.mpr c2) (congrArg V.int (by rw [int_pow, y]))
      have e : rootV (m + 1) p g = .non := if_neg z
      rw [e] at q
      exact q
  · have c1 : ¬ g ≤ (m * g + p / g ^ m) / (m + 1) := fun z => of_decide_eq_false (Bool.eq_false_iff.mpr c) (Int.ofNat_le.mpr z)
    have ge := newton_ge (g := g) gp hR.1
    refine ⟨_, rfl, rfl, (m * g + p / g ^ m) / (m + 1), rfl, ?_, ge, Nat.lt_of_not_le c1⟩
    have r1 : 1 ≤ r := hR.le (by rw [Nat.one_pow]; omega)
    omega
end
end Kr
end
section
set_option maxHeartbeats 4000000
namespace Kr
open PySem PySem.Spec PyProof.Rows L2
def revB : List Value → List Value → List Value := fun _ ws => ws.reverse
def revA : List V → List V → List V := fun _ zs => zs.reverse
theorem vals_rev : ∀ {vs : List V} {us : List Value}, Vals vs us → Vals vs.reverse us.reverse
  | _, _, .nil => .nil
  | _, _, .cons r t => by
    rw [List.reverse_cons, List.reverse_cons]
    exact Paired.snoc (vals_rev t) r
section
variable {X : Cx} {CX : CXT} {k : Nat} {f : Addr} {fd : FuncData} {ps ks : List Str} {sp : Sp} {E : XK} {x : Str} {p pos : Pos} {kws : List Keyword} {tk : TA}
/-- f(k = v, ..), keywords alone -/
def tCallR (m : Nat) (sp : Sp) (E : XK) (tk : TA) : TE := fun σ H Q => tk σ H fun zs H2 => zs.length = m ∧ sp zs.reverse H2 Q E
theorem pe_callR (F : FnOk X.prog X.w X.K X.mg X.base CX k f fd ps sp) (hr : Room k X.A) (hg : Gl X x) (hm : X.mg x = some (.ref f)) (hk : PySem.W.keepIn X.K (.ref f) = true) (hb : KBn X.K fd ps 0 ks revB revA) (hx : Passes CX X E)
    (hkw : PK X kws tk) (hall : (backToKw pos (keywordEach kws X.env)).all (·.1.isSome) = true := by rfl) (hks : (backToKw pos (keywordEach kws X.env)).filterMap (·.1) = ks := by rfl)
    (hdb : (x == ("__debug__" : Str)) = false := by decide) (hpl : ((backTo pos (starEach [] X.env)).any (·.1) || (backToKw pos (keywordEach kws X.env)).any (·.1.isNone)) = false := by rfl) :
    PE X (.Call (.Name x p) [] kws pos) (tCallR ks.length sp E tk) := by
  refine ⟨fun pins s σ H Q I h => wpAny_Call_Name_kw (ld_glob I hg hm ?_ hdb)⟩
  refine PySem.W.callWith_KW0 (h₀ := X.base) I.ok.mod.kin hk hall ?_ hpl
  refine thn (hkw.run pos pins s σ H _ I h) fun ws s2 ⟨zs, H2, I2, rz, l2, q2⟩ => ⟨I2.kIn, ?_⟩
  rw [hks]
  exact run_fnN (us := []) (vs := []) F hr hb hx I2 .nil rz rfl l2 q2
end
section
variable {K : PySem.W.Frag} {x q : Str} {st : Stmt} {f : Addr} {fd : FuncData}
/-- two parameters, named from the last -/
theorem kb_two {a b : Str} {st : Stmt} (F : Fun K x q st f fd) (h : ∀ (kV doc pm : Value) (an : Option Addr) (cdv ct u v : Value), bindArgs (PySem.W.fnOf x q (defArgs st) (defBody st) (defScope st) .none kV doc pm an cdv ct) ⟨[], [(b, v), (a, u)]⟩ = pure [(a, u), (b, v)]) : KBn K fd [a, b] 0 [b, a] revB revA := by
  obtain ⟨oc, od, kV, doc, pm, an, cdv, ct, osl, rfl, lk, hcd⟩ := F.ex
  refine ⟨fun s us ws _ l1 l2 => ?_, fun _ r => vals_rev r⟩
  match us, ws, l1, l2 with
  | [], [v, u], _, _ => exact .of_eq (h _ _ _ _ _ _ u v)
theorem kb_one {a : Str} {st : Stmt} (F : Fun K x q st f fd) (h : ∀ (kV doc pm : Value) (an : Option Addr) (cdv ct u : Value), bindArgs (PySem.W.fnOf x q (defArgs st) (defBody st) (defScope st) .none kV doc pm an cdv ct) ⟨[], [(a, u)]⟩ = pure [(a, u)]) : KBn K fd [a] 0 [a] revB revA := by
  obtain ⟨oc, od, kV, doc, pm, an, cdv, ct, osl, rfl, lk, hcd⟩ := F.ex
  refine ⟨fun s us ws _ l1 l2 => ?_, fun _ r => vals_rev r⟩
  match us, ws, l1, l2 with
  | [], [u], _, _ => exact .of_eq (h _ _ _ _ _ _ u)
theorem kb_root (F : Fun K "root_of" "root_of" (top 29) f fd) : KBn K fd ["value", "n"] 0 ["n", "value"] revB revA := kb_two F (fun _ _ _ _ _ _ _ _ => rfl)
theorem kb_text (F : Fun K "fraction_text" "fraction_text" (top 30) f fd) : KBn K fd ["value"] 0 ["value"] revB revA := kb_one F (fun _ _ _ _ _ _ _ => rfl)
theorem kb_read (F : Fun K "read_fraction" "read_fraction" (top 32) f fd) : KBn K fd ["text"] 0 ["text"] revB revA := kb_one F (fun _ _ _ _ _ _ _ => rfl)
end
end Kr
end
section
set_option maxHeartbeats 4000000
namespace Kr
open PySem PySem.Spec PyProof.Rows L2
/-- the root of u over y for k, with the whole roots P and R from below -/
def rootO (k : Nat) (u : Int) (y P R : Nat) : Option (Int × Int) :=
  if P ^ k = u.natAbs ∧ R ^ k = y then (if u < 0 then (if k % 2 = 0 then none else some (-(P : Int), (R : Int))) else some ((P : Int), (R : Int))) else none
/-- None, or a new pair -/
def OutV (H0 H : Hp) (v : V) : Option (Int × Int) → Prop
  | none => v = .non
  | some (a, b) => ∃ t, v = .ref t ∧ H0 t = none ∧ H t = some (.tup [.int a, .int b])
def spRoot : Sp := fun vs H Q _ => ∃ (x : V) (a : Addr) (u : Int) (y k : Nat), vs = [.ref a, .int (k : Nat)] ∧ H a = some (.tup [.int u, .int (y : Nat)]) ∧ u.natAbs < 2 ^ 201 ∧ y < 2 ^ 201 ∧ 0 < k ∧ k ≤ 24 ∧
  ∀ P R, IsR k u.natAbs P → IsR k y R → ∀ H' v, Same H H' → OutV H H' v (rootO k u y P R) → Q v H'
abbrev nRo : List Str := ["value", "n", "upper", "lower", "upper_root", "lower_root"]
abbrev nLRo : List Str := ["_law_a", "_law_k", "_law_p", "_law_q"]
section
variable {P : Program} {w : World} {K : PySem.W.Frag} {mg : Str → Option Value} {base : Heap} {f fR fW : Addr} {fd fdR fdW : FuncData}
theorem scRo : FnScope nRo ["value", "n"] (defScope (top 29)) := ⟨rfl, rfl, rfl, by decide +kernel, rfl, by decide +kernel, by decide +kernel⟩
theorem ok_root (F : Fun K "root_of" "root_of" (top 29) f fd) (ma : mg "abs" = none)
    (GW : FnOk P w K mg base CX0 2 fW fdW ["value", "n"] spWR) (bW : Binds K fdW ["value", "n"] []) (kW : PySem.W.keepIn K (.ref fW) = true) (mW : mg "whole_root" = some (.ref fW)) :
    FnOk P w K mg base CX0 3 f fd ["value", "n"] spRoot := by
  refine F.ok scRo (fun vs H Q E h => ?_) (fun cdv A outer s H vs Q E hr h => ?_)
  · obtain ⟨x, a, u, y, k, rfl, _⟩ := h
    rfl
  obtain ⟨x, a, u, y, k, rfl, ha, hu, hy, k0, k24, q⟩ := h
  obtain ⟨Pu, hP⟩ := isR_ex k k0 u.natAbs
  obtain ⟨Ry, hR⟩ := isR_ex k k0 y
  have q := q Pu Ry hP hR
  refine ⟨_, pss_cons (ps_asg (pv 0) (pg_tup rfl (pgs_cons (pg_name (i := 2) scRo.nd rfl (Or.inl rfl)) (pgs_cons (pg_name (i := 3) scRo.nd rfl (Or.inl rfl)) pgs_nil))))
    (C8.pss_cut (ps_if (PW.pt (pw_and (pt_cmpR op_lt (pv 2) pe_int (nomark _)) (pw_and1 (pt_cmpR op_eq (pe_op op_mod (pv 1) pe_int) pe_int (nomark _))))) (pss_one (ps_ret pe_non)) pss_nil)
    (pss_cons (ps_set (i := 4) scRo.nd rfl (Or.inl rfl) (pe_call GW hr rfl mW kW bW .nil pass0 (pa_cons (pe_callB call_abs rfl ma (by decide +kernel) (pa_cons (pv 2) pa_nil)) (pa_cons (pv 1) pa_nil))))
    (pss_cons (ps_set (i := 5) scRo.nd rfl (Or.inl rfl) (pe_call GW hr rfl mW kW bW .nil pass0 (pa_cons (pv 3) (pa_cons (pv 1) pa_nil))))
    (pss_cons (ps_if (PW.pt (pw_or (pt_cmpR op_isN (pv 4) pe_non (nomark _)) (pw_or1 (pt_cmpR op_isN (pv 5) pe_non (nomark _))))) (pss_one (ps_ret pe_non)) pss_nil)
    (pss_one (ps_ret (pe_tup (pa_cons (pe_ifExp (pt_cmpR op_lt (pv 2) pe_int (nomark _)) (pe_un un_neg (pv 4)) (pv 4)) (pa_cons (pv 5) pa_nil))))))))), ?_⟩
  refine ⟨_, rfl, a, _, rfl, SqT.of ha, rfl, _, _, rfl, _, _, rfl, rfl, ?_⟩
  refine ⟨fun σ' H' => H' = H ∧ σ' = [some (V.ref a), some (V.int (k : Nat)), some (.int u), some (.int (y : Nat)), none, none] ∧ ¬ (u < 0 ∧ k % 2 = 0), ?_, ?_⟩
  · refine ⟨_, rfl, u, 0, rfl, rfl, _, rfl, ite2 (fun c1 => ?_) (fun c1 => iteF ⟨rfl, rfl, fun z => of_decide_eq_false (Bool.eq_false_iff.mpr c1) z.1⟩)⟩
    have u0 : u < 0 := of_decide_eq_true c1
    refine ⟨_, rfl, k, 2, rfl, rfl, (by show (0 : Int) < 2; decide), rfl, _, rfl, ite2 (fun c2 => ?_) (fun c2 => ?_)⟩
    · have k2 : k % 2 = 0 := by
        have := V.int.inj (of_decide_eq_true c2)
        omega
      refine q H .non (Same.refl H) ?_
      unfold rootO
      rw [if_pos u0, if_pos k2, ite_self]
      rfl
    · exact ⟨rfl, rfl, fun z => of_decide_eq_false (Bool.eq_false_iff.mpr c2) (congrArg V.int (by omega))⟩
  rintro σ' H' ⟨rfl, rfl, nk⟩
  refine ⟨_, rfl, u, rfl, _, rfl, ?_⟩
  rw [abs_nat]
  refine ⟨u.natAbs, k, rfl, hu, k0, k24, fun P1 h1 => ?_⟩
  obtain rfl := h1.uniq hP
  refine ⟨_, rfl, _, rfl, y, k, rfl, hy, k0, k24, fun R1 h2 => ?_⟩
  obtain rfl := h2.uniq hR
  by_cases e1 : P1 ^ k = u.natAbs
  · rw [show rootV k u.natAbs P1 = .int (P1 : Nat) from if_pos e1]
    by_cases e2 : R1 ^ k = y
    · rw [show rootV k y R1 = .int (R1 : Nat) from if_pos e2]
      refine ⟨_, rfl, rfl, _, rfl, iteF ⟨_, rfl, rfl, _, rfl, iteF ?_⟩⟩
      refine ⟨_, rfl, u, 0, rfl, rfl, _, rfl, ite2 (fun c => ?_) (fun c => ?_)⟩
      · have u0 : u < 0 := of_decide_eq_true c
        refine ⟨_, rfl, _, rfl, _, rfl, (by show 2 ≤ sizeLine; decide), fun t nt => q _ _ (new_same nt _) ?_⟩
        unfold rootO
        rw [if_pos ⟨e1, e2⟩, if_pos u0, if_neg (fun z => nk ⟨u0, z⟩)]
        exact ⟨t, rfl, nt, upd_same⟩
      · have u0 : ¬ u < 0 := of_decide_eq_false (Bool.eq_false_iff.mpr c)
        refine ⟨_, rfl, _, rfl, (by show 2 ≤ sizeLine; decide), fun t nt => q _ _ (new_same nt _) ?_⟩
        unfold rootO
        rw [if_pos ⟨e1, e2⟩, if_neg u0]
        exact ⟨t, rfl, nt, upd_same⟩
    · rw [show rootV k y R1 = .non from if_neg e2]
      refine ⟨_, rfl, rfl, _, rfl, iteF ⟨_, rfl, rfl, _, rfl, iteT (q _ _ (Same.refl _) ?_)⟩⟩
      unfold rootO
      rw [if_neg (fun z => e2 z.2)]
      rfl
  · rw [show rootV k u.natAbs P1 = .non from if_neg e1]
    refine ⟨_, rfl, rfl, _, rfl, iteT (q _ _ (Same.refl _) ?_)⟩
    unfold rootO
    rw [if_neg (fun z => e1 z.1)]
    rfl
def spLRoot : Sp := fun vs H Q _ => ∃ (a : Addr) (u : Int) (y k : Nat), vs = [.ref a, .int (k : Nat)] ∧ H a = some (.tup [.int u, .int (y : Nat)]) ∧ u.natAbs < 2 ^ 201 ∧ y < 2 ^ 201 ∧ 0 < y ∧ 0 < k ∧ k ≤ 24 ∧
  ∀ P R, IsR k u.natAbs P → IsR k y R → ∀ H' v, Same H H' → OutV H H' v (rootO k u y P R) → Q v H'
theorem scLRo : FnScope nLRo ["_law_a", "_law_k"] (defScope (top 83)) := ⟨rfl, rfl, rfl, by decide +kernel, rfl, by decide +kernel, by decide +kernel⟩
theorem ok_lroot (F : Fun K "_law_root" "_law_root" (top 83) f fd) (ma : mg "abs" = none) (mi : mg "int" = none)
    (GF : FnOk P w K mg base CX0 2 fW fdW ["_law_p", "_law_k"] spFloor) (bF : Binds K fdW ["_law_p", "_law_k"] []) (kF : PySem.W.keepIn K (.ref fW) = true) (mF : mg "_law_floor" = some (.ref fW))
    (GR : FnOk P w K mg base CX0 1 fR fdR ["_law_a", "_law_k"] spLR) (bR : Binds K fdR ["_law_a", "_law_k"] []) (kR : PySem.W.keepIn K (.ref fR) = true) (mR : mg "_law_raised" = some (.ref fR)) :
    FnOk P w K mg base CX0 3 f fd ["_law_a", "_law_k"] spLRoot := by
  refine F.ok scLRo (fun vs H Q E h => ?_) (fun cdv A outer s H vs Q E hr h => ?_)
  · obtain ⟨a, u, y, k, rfl, _⟩ := h
    rfl
  obtain ⟨a, u, y, k, rfl, ha, hu, hy, y0, k0, k24, q⟩ := h
  have hr1 := hr.mono (show 1 ≤ 2 by decide)
  refine ⟨_, pss_cons (ps_par (i := 2) (j := 3) rfl scLRo.nd rfl rfl (by decide) rfl rfl (pa_cons (pe_call GF hr rfl mF kF bF .nil pass0 (pa_cons (pe_callB call_abs rfl ma (by decide +kernel) (pa_cons (pe_ix ix_tup (pv 0) pe_int (fun _ _ => rfl)) pa_nil)) (pa_cons (pv 1) pa_nil)))
      (pa_cons (pe_call GF hr rfl mF kF bF .nil pass0 (pa_cons (pe_ix ix_tup (pv 0) pe_int (fun _ _ => rfl)) (pa_cons (pv 1) pa_nil))) pa_nil)) rfl)
    (pss_cons (ps_if (pt_cmpR (op_neD hr.units) (pe_call GR hr1 rfl mR kR bR .nil pass0 (pa_cons (pe_tup (pa_cons (pv 2) (pa_cons (pv 3) pa_nil))) (pa_cons (pv 1) pa_nil))) (pe_tup (pa_cons (pe_callB call_abs rfl ma (by decide +kernel) (pa_cons (pe_ix ix_tup (pv 0) pe_int (fun _ _ => rfl)) pa_nil)) (pa_cons (pe_ix ix_tup (pv 0) pe_int (fun _ _ => rfl)) pa_nil))) (nomark _)) (pss_one (ps_ret pe_non)) pss_nil)
    (pss_cons (ps_if (pt_cmpR op_lt (pe_ix ix_tup (pv 0) pe_int (fun _ _ => rfl)) pe_int (nomark _)) (pss_one (ps_ret (pe_ifExp (pt_cmpR op_eq (pe_op op_mod (pe_callTy call_int1 rfl mi (by decide +kernel) (pa_cons (pv 1) pa_nil)) pe_int) pe_int (nomark _)) pe_non (pe_tup (pa_cons (pe_un un_neg (pv 2)) (pa_cons (pv 3) pa_nil)))))) pss_nil)
    (pss_one (ps_ret (pe_tup (pa_cons (pv 2) (pa_cons (pv 3) pa_nil))))))), ?_⟩
  refine ⟨_, rfl, a, _, 0, _, rfl, rfl, SqT.of ha, rfl, u, rfl, _, rfl, ?_⟩
  rw [abs_nat]
  refine ⟨u.natAbs, k, rfl, hu, k0, k24, fun Pu H1 hP s1 => ?_⟩
  refine ⟨_, rfl, a, _, 1, _, rfl, rfl, SqT.of (s1 _ _ ha), rfl, _, rfl, y, k, rfl, hy, k0, k24, fun Ry H2 hR s2 => ?_⟩
  have s2 := s1.trans s2
  have q := q Pu Ry hP hR
  have pu : Pu < 2 ^ 201 := Nat.lt_of_le_of_lt (root_le k0 hP) hu
  have ry : Ry < 2 ^ 201 := Nat.lt_of_le_of_lt (root_le k0 hR) hy
  have r1 : 1 ≤ Ry := hR.le (by rw [Nat.one_pow]; omega)
  have big : (2 ^ 201 : Nat) < 2 ^ 1000 := by decide +kernel
  have bd : ∀ z : Nat, z < 2 ^ 201 → ((z : Nat) : Int).natAbs < 2 ^ 1000 := fun z h => by
    rw [Int.natAbs_natCast]
    exact Nat.lt_trans h big
  refine ⟨_, _, rfl, ?_⟩
  refine ⟨_, rfl, _, rfl, (by show 2 ≤ sizeLine; decide), fun t0 n0 => ⟨_, rfl, .ref t0, _, _, k, rfl, by omega, ⟨t0, rfl, upd_same, bd _ pu, bd _ ry, by omega⟩, fun t1 H3 s3 n1 h1 => ?_⟩⟩
  have s3 : Same H H3 := (s2.trans (new_same n0 _)).trans s3
  have sa := SqT.of (K := K) (s3 _ _ ha)
  refine ⟨_, rfl, a, _, 0, _, rfl, rfl, sa, rfl, u, rfl, _, rfl, a, _, 1, _, rfl, rfl, sa, rfl, (by show 2 ≤ sizeLine; decide), fun t2 n2 => ?_⟩
  have g2 := new_same n2 (.tup [.int (if u < 0 then -u else u), .int (y : Nat)])
  refine ⟨.tuple [.int (((Pu : Nat) : Int) ^ k), .int (((Ry : Nat) : Int) ^ k)], .tuple [.int (if u < 0 then -u else u), .int (y : Nat)], .tup (SqT.of (g2 _ _ h1)) (.cons (.int _) (.cons (.int _) .nil)), .tup (SqT.of upd_same) (.cons (.int _) (.cons (.int _) .nil)), rfl, rfl, ?_⟩
  have e : PyData.eqv (.tuple [.int (((Pu : Nat) : Int) ^ k), .int (((Ry : Nat) : Int) ^ k)]) (.tuple [.int (if u < 0 then -u else u), .int (y : Nat)]) = decide (Pu ^ k = u.natAbs ∧ Ry ^ k = y) := by
    simp only [PyData.eqv, PyData.eqvAll, Bool.and_true]
    rw [Bool.beq_eq_decide_eq, Bool.beq_eq_decide_eq, Bool.decide_and, abs_nat, int_pow, int_pow]
    congr 1
    · exact decide_eq_decide.mpr Int.ofNat_inj
    · exact decide_eq_decide.mpr Int.ofNat_inj
  rw [e]
  have s4 := s3.trans g2
  generalize upd H3 t2 (.tup [.int (if u < 0 then -u else u), .int (y : Nat)]) = H4 at g2 s4
  by_cases c : Pu ^ k = u.natAbs ∧ Ry ^ k = y
  · rw [decide_eq_true c]
    refine ⟨_, rfl, iteF ?_⟩
    have sa := SqT.of (K := K) (s4 _ _ ha)
    refine ⟨_, rfl, a, _, 0, _, rfl, rfl, sa, rfl, u, 0, rfl, rfl, _, rfl, ite2 (fun c1 => ?_) (fun c1 => ?_)⟩
    · have u0 : u < 0 := of_decide_eq_true c1
      refine ⟨_, rfl, .inl ⟨_, rfl, k, 2, rfl, rfl, (by show (0 : Int) < 2; decide), rfl, _, rfl, ite2 (fun c2 => ?_) (fun c2 => ?_)⟩⟩
      · have k2 : k % 2 = 0 := by
          have := V.int.inj (of_decide_eq_true c2)
          omega
        refine q _ .non s4 ?_
        unfold rootO
        rw [if_pos c, if_pos u0, if_pos k2]
        rfl
      · have k2 : ¬ k % 2 = 0 := fun z => of_decide_eq_false (Bool.eq_false_iff.mpr c2) (congrArg V.int (by omega))
        refine ⟨_, rfl, _, rfl, _, rfl, (by show 2 ≤ sizeLine; decide), fun t nt => q _ _ (s4.trans (new_same nt _)) ?_⟩
        unfold rootO
        rw [if_pos c, if_pos u0, if_neg k2]
        exact ⟨t, rfl, s4.free nt, upd_same⟩
    · have u0 : ¬ u < 0 := of_decide_eq_false (Bool.eq_false_iff.mpr c1)
      refine ⟨_, rfl, _, rfl, (by show 2 ≤ sizeLine; decide), fun t nt => q _ _ (s4.trans (new_same nt _)) ?_⟩
      unfold rootO
      rw [if_pos c, if_neg u0]
      exact ⟨t, rfl, s4.free nt, upd_same⟩
  · rw [decide_eq_false c]
    refine ⟨_, rfl, iteT (q _ _ s4 ?_)⟩
    unfold rootO
    rw [if_neg c]
    rfl
end
end Kr
end
section
set_option maxHeartbeats 4000000
namespace Kr
open PySem PySem.Spec PyProof.Rows L2
/-- x over y stands at v -/
def FrQ (H : Hp) (v : V) : Prop := ∃ (t : Addr) (x : Int) (y : Nat), v = .ref t ∧ H t = some (.tup [.int x, .int (y : Nat)]) ∧ x.natAbs < 2 ^ 200 ∧ 0 < y ∧ y < 2 ^ 200
theorem FrQ.of {H : Hp} {t : Addr} {x l : Int} (h : H t = some (.tup [.int x, .int l])) (hx : x.natAbs < 2 ^ 200) (h0 : 0 < l) (hl : l.natAbs < 2 ^ 200) : FrQ H (.ref t) := by
  refine ⟨t, x, l.toNat, rfl, ?_, hx, by omega, by omega⟩
  rw [h, show ((l.toNat : Nat) : Int) = l by omega]
theorem FrN.q {H0 H : Hp} {n : Nat} {v : V} (h : FrN H0 H n v) (hn : n ≤ 2 ^ 200) : FrQ H v := by
  obtain ⟨a, u, l, rfl, _, h1, h2, h3, h4, _⟩ := h
  exact .of h1 (by omega) h4 (by omega)
theorem FrQ.same {H H' : Hp} {v : V} (h : FrQ H v) (s : Same H H') : FrQ H' v := by
  obtain ⟨t, x, y, e, h1, h2⟩ := h
  exact ⟨t, x, y, e, s _ _ h1, h2⟩
theorem Bag.tup {H : Hp} {B p t : Addr} {xs : List V} (b : Bag H B p) (h : H t = some (.tup xs)) : t ≠ B := fun e => by
  obtain ⟨_, _, _, _, _, h1, _⟩ := b.ex
  rw [e, h1] at h
  cases h
theorem FrQ.but {H H' : Hp} {B p : Addr} {v : V} (h : FrQ H v) (b : Bag H B p) (u : But B H H') : FrQ H' v := by
  obtain ⟨t, x, y, e, h1, h2⟩ := h
  exact ⟨t, x, y, e, u _ _ (b.tup h1) h1, h2⟩
theorem ten60 : (10 ^ 60 : Nat) < 2 ^ 200 := by decide +kernel
/-- low of two numbers: what it asks and gives -/
theorem low_q {H : Hp} {Q : VK} {a b : Int} (hb0 : b ≠ 0) (ha : a.natAbs < 2 ^ 200) (hb : b.natAbs < 2 ^ 200) (q : ∀ t, H t = none → FrQ (upd H t (.tup [.int (lowU a b), .int (lowL a b)])) (.ref t) → Q (.ref t) (upd H t (.tup [.int (lowU a b), .int (lowL a b)]))) :
    ∃ p q : Int, [V.int a, V.int b] = [.int p, .int q] ∧ q ≠ 0 ∧ q.natAbs.log2 < 9000 ∧ ∀ t, H t = none → Q (.ref t) (upd H t (.tup [.int (lowU p q), .int (lowL p q)])) := by
  obtain ⟨l1, l2, l3, l4⟩ := low_ok hb0 ha hb
  exact ⟨_, _, rfl, hb0, Nat.lt_trans (log_bd hb (by decide)) (by decide), fun t nt => q t nt (.of upd_same l1 l3 l2)⟩
theorem OutV.same {H0 H H' : Hp} {v : V} {o : Option (Int × Int)} (h : OutV H0 H v o) (s : Same H H') : OutV H0 H' v o := by
  cases o with
  | none => exact h
  | some q =>
    obtain ⟨t, e, n, h⟩ := h
    exact ⟨t, e, n, s _ _ h⟩
theorem OutV.tw {H0 H1 H : Hp} {v u : V} {o : Option (Int × Int)} (h : OutV H0 H v o) (h' : OutV H1 H u o) : Tw (Trk H) (Trk H) 1 H v u := by
  cases o with
  | none =>
    obtain rfl : v = .non := h
    obtain rfl : u = .non := h'
    exact .inl ⟨rfl, rfl⟩
  | some q =>
    obtain ⟨t, rfl, n, h⟩ := h
    obtain ⟨t', rfl, n', h'⟩ := h'
    exact .inr ⟨t, t', _, _, rfl, rfl, (by show 2 ≤ 60; decide), ⟨_, h⟩, ⟨_, h'⟩, .cons ⟨rfl, rfl⟩ (.cons ⟨rfl, rfl⟩ .nil), .inr ⟨h, h'⟩⟩
/-- two new lists, of such values side by side -/
theorem tw_lists {H : Hp} {a b : Addr} {xs ys : List V} (ha : H a = some (.lst xs)) (hb : H b = some (.lst ys)) (hl : xs.length ≤ 60) (p : Paired (Tw (Trk H) (Trk H) 1 H) xs ys) : Tw (Trk H) (Trk H) 2 H (.ref a) (.ref b) :=
  .inr ⟨a, b, xs, ys, rfl, rfl, hl, ⟨_, ha⟩, ⟨_, hb⟩, p, .inl ⟨ha, hb⟩⟩
def spRS : Sp := fun vs H Q _ => ∃ B p : Addr, vs = [.ref B] ∧ Bag H B p ∧ ∀ H', Bag H' B p → But B H H' → Q (.bl true) H'
abbrev nRS : List Str := ["_law_bag_here", "_law_k", "_law_most", "_law_p", "_law_q", "_law_a", "_law_pick", "_law_due"]
section
variable {P : Program} {w : World} {K : PySem.W.Frag} {mg : Str → Option Value} {base : Heap} {f fD fO fL fB fW fN fR fF fG fT fP fK : Addr} {fd fdD fdO fdL fdB fdW fdN fdR fdF fdG fdT fdP fdK : FuncData}
theorem scRS : FnScope nRS ["_law_bag_here"] (defScope (top 84)) := ⟨rfl, rfl, rfl, by decide +kernel, rfl, by decide +kernel, by decide +kernel⟩
theorem ok_rootso (F : Fun K "_law_root_so" "_law_root_so" (top 84) f fd) (ma : mg "abs" = none) (mi : mg "int" = none)
    (GD : FnOk P w K mg base CX0 1 fD fdD ["_law_bag_here", "_law_limit"] spDraw) (bD : Binds K fdD ["_law_bag_here", "_law_limit"] []) (kD : PySem.W.keepIn K (.ref fD) = true) (mD : mg "_law_draw" = some (.ref fD))
    (GO : FnOk P w K mg base CX0 2 fO fdO ["_law_bag_here", "_law_things"] spOfL) (bO : Binds K fdO ["_law_bag_here", "_law_things"] []) (kO : PySem.W.keepIn K (.ref fO) = true) (mO : mg "_law_of" = some (.ref fO))
    (GL : FnOk P w K mg base CX0 1 fL fdL ["_law_p", "_law_q"] spLow) (bL : Binds K fdL ["_law_p", "_law_q"] []) (kL : PySem.W.keepIn K (.ref fL) = true) (mL : mg "_law_low" = some (.ref fL))
    (GB : FnOk P w K mg base CX0 3 fB fdB ["_law_bag_here"] spBig) (bB : Binds K fdB ["_law_bag_here"] []) (kB : PySem.W.keepIn K (.ref fB) = true) (mB : mg "_law_big" = some (.ref fB))
    (GW : FnOk P w K mg base CX0 4 fW fdW ["_law_bag_here"] spWide) (bW : Binds K fdW ["_law_bag_here"] []) (kW : PySem.W.keepIn K (.ref fW) = true) (mW : mg "_law_wide" = some (.ref fW))
    (GN : FnOk P w K mg base CX0 3 fN fdN ["_law_bag_here"] spNum) (bN : Binds K fdN ["_law_bag_here"] []) (kN : PySem.W.keepIn K (.ref fN) = true) (mN : mg "_law_number" = some (.ref fN))
    (GR : FnOk P w K mg base CX0 1 fR fdR ["_law_a", "_law_k"] spLR) (bR : Binds K fdR ["_law_a", "_law_k"] []) (kR : PySem.W.keepIn K (.ref fR) = true) (mR : mg "_law_raised" = some (.ref fR))
    (GF : FnOk P w K mg base CX0 2 fF fdF ["_law_p", "_law_k"] spFloor) (bF : Binds K fdF ["_law_p", "_law_k"] []) (kF : PySem.W.keepIn K (.ref fF) = true) (mF : mg "_law_floor" = some (.ref fF))
    (GG : FnOk P w K mg base CX0 1 fG fdG ["_law_a"] spNeg) (bG : Binds K fdG ["_law_a"] []) (kG : PySem.W.keepIn K (.ref fG) = true) (mG : mg "_law_neg" = some (.ref fG))
    (GT : FnOk P w K mg base CX0 3 fT fdT ["_law_a", "_law_k"] spLRoot) (bT : Binds K fdT ["_law_a", "_law_k"] []) (kT : PySem.W.keepIn K (.ref fT) = true) (mT : mg "_law_root" = some (.ref fT))
    (GP : FnOk P w K mg base CX0 3 fP fdP ["value", "n"] spRoot) (bP : Binds K fdP ["value", "n"] []) (bP2 : KBn K fdP ["value", "n"] 0 ["n", "value"] revB revA) (kP : PySem.W.keepIn K (.ref fP) = true) (mP : mg "root_of" = some (.ref fP))
    (GK : FnOk P w K mg base CX0 3 fK fdK ["_law_told", "_law_due"] (spLike 2)) (bK : Binds K fdK ["_law_told", "_law_due"] []) (kK : PySem.W.keepIn K (.ref fK) = true) (mK : mg "_law_like" = some (.ref fK)) :
    FnOk P w K mg base CX0 5 f fd ["_law_bag_here"] spRS := by
  refine F.ok scRS (fun vs H Q E h => ?_) (fun cdv A outer s H vs Q E hr h => ?_)
  · obtain ⟨B, p, rfl, _⟩ := h
    rfl
  obtain ⟨B, p, rfl, hb, q⟩ := h
  have hr1 := hr.mono (show 1 ≤ 4 by decide)
  have hr2 := hr.mono (show 2 ≤ 4 by decide)
  have hr3 := hr.mono (show 3 ≤ 4 by decide)
  refine ⟨_, C8.pss_cut (ps_set (i := 1) scRS.nd rfl (Or.inl rfl) (pe_call GO hr2 rfl mO kO bO .nil pass0 (pa_cons (pv 0) (pa_cons (pe_lst (pa_cons pe_int (pa_cons pe_int (pa_cons pe_int (pa_cons pe_int (pa_cons pe_int (pa_cons pe_int (pa_cons pe_int (pa_cons pe_int (pa_cons pe_int (pa_cons pe_int (pa_cons (pe_op op_add pe_int (pe_call GD hr1 rfl mD kD bD .nil pass0 (pa_cons (pv 0) (pa_cons pe_int pa_nil)))) pa_nil)))))))))))) pa_nil))))
    (pss_cons (ps_set (i := 2) scRS.nd rfl (Or.inl rfl) (pe_call GF hr2 rfl mF kF bF .nil pass0 (pa_cons (pe_op op_sub (pe_op op_pow pe_int pe_int) pe_int) (pa_cons (pv 1) pa_nil))))
    (C8.pss_cut (ps_par (i := 3) (j := 4) rfl scRS.nd rfl rfl (by decide) rfl rfl (pa_cons (pe_op op_mod (pe_callTy call_int1 rfl mi (by decide +kernel) (pa_cons (pe_callB call_abs rfl ma (by decide +kernel) (pa_cons (pe_call GB hr3 rfl mB kB bB .nil pass0 (pa_cons (pv 0) pa_nil)) pa_nil)) pa_nil)) (pe_op op_add (pv 2) pe_int))
        (pa_cons (pe_op op_add pe_int (pe_op op_mod (pe_callTy call_int1 rfl mi (by decide +kernel) (pa_cons (pe_callB call_abs rfl ma (by decide +kernel) (pa_cons (pe_call GB hr3 rfl mB kB bB .nil pass0 (pa_cons (pv 0) pa_nil)) pa_nil)) pa_nil)) (pv 2))) pa_nil)) rfl)
    (C8.pss_cut (ps_set (i := 5) scRS.nd rfl (Or.inl rfl) (pe_call GR hr1 rfl mR kR bR .nil pass0 (pa_cons (pe_call GL hr1 rfl mL kL bL .nil pass0 (pa_cons (pv 3) (pa_cons (pv 4) pa_nil))) (pa_cons (pv 1) pa_nil))))
    (pss_cons (ps_set (i := 6) scRS.nd rfl (Or.inl rfl) (pe_call GD hr1 rfl mD kD bD .nil pass0 (pa_cons (pv 0) (pa_cons pe_int pa_nil))))
    (C8.pss_cut (ps_if (pt_cmpR op_eq (pv 6) pe_int (nomark _)) (pss_one (ps_set (i := 5) scRS.nd rfl (Or.inl rfl) (pe_call GW hr rfl mW kW bW .nil pass0 (pa_cons (pv 0) pa_nil))))
        (pss_one (ps_if (pt_cmpR op_eq (pv 6) pe_int (nomark _)) (pss_one (ps_set (i := 5) scRS.nd rfl (Or.inl rfl) (pe_call GL hr1 rfl mL kL bL .nil pass0 (pa_cons (pe_ifExp (pt_cmpR op_gt (pe_ix ix_tup (pv 5) pe_int (fun _ _ => rfl)) pe_int (nomark _)) (pe_op op_sub (pe_ix ix_tup (pv 5) pe_int (fun _ _ => rfl)) pe_int) pe_int) (pa_cons (pe_ix ix_tup (pv 5) pe_int (fun _ _ => rfl)) pa_nil)))))
        (pss_one (ps_if (pt_cmpR op_eq (pv 6) pe_int (nomark _)) (pss_one (ps_set (i := 5) scRS.nd rfl (Or.inl rfl) (pe_call GL hr1 rfl mL kL bL .nil pass0 (pa_cons (pe_ix ix_tup (pv 5) pe_int (fun _ _ => rfl)) (pa_cons (pe_ifExp (pt_cmpR op_gt (pe_ix ix_tup (pv 5) pe_int (fun _ _ => rfl)) pe_int (nomark _)) (pe_op op_sub (pe_ix ix_tup (pv 5) pe_int (fun _ _ => rfl)) pe_int) pe_int) pa_nil)))))
        (pss_one (ps_if (pt_cmpR op_eq (pv 6) pe_int (nomark _)) (pss_one (ps_set (i := 5) scRS.nd rfl (Or.inl rfl) (pe_call GR hr1 rfl mR kR bR .nil pass0 (pa_cons (pe_call GN hr3 rfl mN kN bN .nil pass0 (pa_cons (pv 0) pa_nil)) (pa_cons pe_int pa_nil))))) pss_nil)))))))
    (C8.pss_cut (ps_if (pt_cmpR op_eq (pe_call GD hr1 rfl mD kD bD .nil pass0 (pa_cons (pv 0) (pa_cons pe_int pa_nil))) pe_int (nomark _)) (pss_one (ps_set (i := 5) scRS.nd rfl (Or.inl rfl) (pe_call GG hr1 rfl mG kG bG .nil pass0 (pa_cons (pv 5) pa_nil)))) pss_nil)
    (pss_cons (ps_set (i := 7) scRS.nd rfl (Or.inl rfl) (pe_call GT hr3 rfl mT kT bT .nil pass0 (pa_cons (pv 5) (pa_cons (pv 1) pa_nil))))
    (pss_cons (ps_if (pt_not (pt_val (pe_call GK hr3 rfl mK kK bK .nil pass0 (pa_cons (pe_lst (pa_cons (pe_call GP hr3 rfl mP kP bP .nil pass0 (pa_cons (pv 5) (pa_cons (pv 1) pa_nil))) (pa_cons (pe_callR GP hr3 rfl mP kP bP2 pass0 (pk_cons (pv 1) (pk_cons (pv 5) pk_nil))) pa_nil))) (pa_cons (pe_lst (pa_cons (pv 7) (pa_cons (pv 7) pa_nil))) pa_nil))))) (pss_one (ps_ret pe_bl)) pss_nil)
    (pss_one (ps_ret pe_bl)))))))))), ?_⟩
  refine ⟨fun σ' H' => ∃ k : Nat, σ' = [some (.ref B), some (.int (k : Nat)), none, none, none, none, none, none] ∧ Bag H' B p ∧ But B H H' ∧ 0 < k ∧ k ≤ 24, ?_, ?_⟩
  · refine ⟨_, rfl, _, rfl, B, p, 24, rfl, by decide, by decide, hb, fun H1 d b1 u1 d0 d1 => ⟨_, _, rfl, rfl, (by show 11 ≤ sizeLine; decide), fun a na => ⟨B, p, a, _, rfl, upd_same, (b1.at na).1, (by show 0 < 11; decide), (by show 11 ≤ 1000; decide), b1.put na, fun H2 x b2 u2 hx => ?_⟩⟩⟩
    have u2 : But B H H2 := u1.trans ((But.new na).trans u2)
    obtain ⟨k, rfl, k0, k24⟩ : ∃ k : Nat, x = .int (k : Nat) ∧ 0 < k ∧ k ≤ 24 := by
      simp only [List.mem_cons, List.not_mem_nil, or_false] at hx
      rcases hx with rfl | rfl | rfl | rfl | rfl | rfl | rfl | rfl | rfl | rfl | rfl
      · exact ⟨1, rfl, by decide, by decide⟩
      · exact ⟨2, rfl, by decide, by decide⟩
      · exact ⟨3, rfl, by decide, by decide⟩
      · exact ⟨4, rfl, by decide, by decide⟩
      · exact ⟨5, rfl, by decide, by decide⟩
      · exact ⟨6, rfl, by decide, by decide⟩
      · exact ⟨7, rfl, by decide, by decide⟩
      · exact ⟨8, rfl, by decide, by decide⟩
      · exact ⟨12, rfl, by decide, by decide⟩
      · exact ⟨24, rfl, by decide, by decide⟩
      · exact ⟨(1 + d).toNat, congrArg V.int (by omega), by omega, by omega⟩
    exact ⟨k, rfl, b2, u2, k0, k24⟩
  rintro σ' H1 ⟨k, rfl, b1, u1, k0, k24⟩
  refine ⟨10, 60, rfl, rfl, ⟨by decide, by decide, by decide⟩, _, _, rfl, rfl, _, rfl, 10 ^ 60 - 1, k, congrArg (fun z => [V.int z, V.int (k : Nat)]) (by decide +kernel), by decide +kernel, k0, k24, fun M H2 hM s2 => ?_⟩
  have b2 := b1.same s2
  have u2 := u1.trans (But.same s2)
  have M1 : 1 ≤ M := hM.le (by rw [Nat.one_pow]; decide +kernel)
  have M2 : M < 2 ^ 200 := Nat.lt_of_le_of_lt (root_le k0 hM) (by decide +kernel)
  have M3 : M ^ k < 2 ^ 200 := Nat.lt_of_le_of_lt hM.1 (by decide +kernel)
  refine ⟨fun σ' H' => ∃ x y : Int, σ' = [some (.ref B), some (.int (k : Nat)), some (.int (M : Nat)), some (.int x), some (.int y), none, none, none] ∧ Bag H' B p ∧ But B H H' ∧ 0 ≤ x ∧ x ≤ M ∧ 1 ≤ y ∧ y ≤ M, ?_, ?_⟩
  · refine ⟨_, rfl, B, p, rfl, b2, fun H3 n b3 u3 hn => ⟨n, rfl, .inl ⟨_, rfl, _, rfl, _, _, rfl, rfl, _, _, rfl, rfl, (by show (0 : Int) < (M : Int) + 1; omega), ?_⟩⟩⟩
    refine ⟨_, rfl, B, p, rfl, b3, fun H4 m b4 u4 hm => ⟨m, rfl, .inl ⟨_, rfl, _, rfl, _, _, rfl, rfl, (by show (0 : Int) < (M : Int); omega), _, _, rfl, rfl, ?_⟩⟩⟩
    rw [abs_nat, abs_nat]
    have z1 := Int.emod_nonneg ((n.natAbs : Nat) : Int) (show (M : Int) + 1 ≠ 0 by omega)
    have z2 := Int.emod_lt_of_pos ((n.natAbs : Nat) : Int) (show (0 : Int) < (M : Int) + 1 by omega)
    have z3 := Int.emod_nonneg ((m.natAbs : Nat) : Int) (show (M : Int) ≠ 0 by omega)
    have z4 := Int.emod_lt_of_pos ((m.natAbs : Nat) : Int) (show (0 : Int) < (M : Int) by omega)
    exact ⟨_, _, rfl, _, _, rfl, b4, u2.trans (u3.trans u4), z1, by omega, by omega, by omega⟩
  rintro σ' H3 ⟨x, y, rfl, b3, u3, x0, x1, y0, y1⟩
  obtain ⟨l1, l2, l3, l4⟩ := low_ok (p := x) (q := y) (n := M + 1) (by omega) (by omega) (by omega)
  have l5 : (lowU x y).natAbs < 2 ^ 1000 := by
    have : (2 ^ 200 : Nat) < 2 ^ 1000 := by decide +kernel
    omega
  have l6 : (lowL x y).natAbs < 2 ^ 1000 := by
    have : (2 ^ 200 : Nat) < 2 ^ 1000 := by decide +kernel
    omega
  have pwb : ∀ z : Int, z.natAbs < M + 1 → (z ^ k).natAbs < 2 ^ 200 := fun z hz => by
    rw [Int.natAbs_pow]
    exact Nat.lt_of_le_of_lt (Nat.pow_le_pow_left (Nat.le_of_lt_succ hz) k) M3
  have pwp : ∀ z : Int, 0 < z → ∀ n : Nat, 0 < z ^ n := fun z hz n => by
    rw [show z = ((z.toNat : Nat) : Int) by omega, int_pow]
    have := Nat.pow_pos (n := n) (show 0 < z.toNat by omega)
    omega
  refine ⟨fun σ' H' => ∃ v : V, σ' = [some (.ref B), some (.int (k : Nat)), some (.int (M : Nat)), some (.int x), some (.int y), some v, none, none] ∧ Bag H' B p ∧ But B H H' ∧ FrQ H' v, ?_, ?_⟩
  · refine ⟨_, rfl, _, rfl, _, _, rfl, by omega, Nat.lt_trans (log_bd (n := 1000) (Nat.lt_of_le_of_lt (by omega) (show M < 2 ^ 1000 from Nat.lt_trans M2 (by decide +kernel))) (by decide)) (by decide), fun t nt => ?_⟩
    refine ⟨_, rfl, .ref t, _, _, k, rfl, by omega, ⟨t, rfl, upd_same, l5, l6, by omega⟩, fun t1 H4 s4 n4 h4 => ?_⟩
    exact ⟨_, rfl, (b3.put nt).same s4, u3.trans ((But.new nt).trans (But.same s4)), .of h4 (pwb _ l1) (pwp _ l3 k) (pwb _ l2)⟩
  rintro σ' H4 ⟨v, rfl, b4, u4, fv⟩
  refine ⟨_, rfl, B, p, 8, rfl, by decide, by decide, b4, fun H5 pk b5 u5 _ _ => ?_⟩
  have fv := fv.but b4 u5
  have u5 := u4.trans u5
  refine ⟨fun σ' H' => ∃ v : V, σ' = [some (.ref B), some (.int (k : Nat)), some (.int (M : Nat)), some (.int x), some (.int y), some v, some (.int pk), none] ∧ Bag H' B p ∧ But B H H' ∧ FrQ H' v, ?_, ?_⟩
  · refine ⟨_, rfl, rfl, _, rfl, ite2 (fun _ => ?_) (fun _ => ?_)⟩
    · exact ⟨_, rfl, B, p, rfl, b5, fun H6 z b6 u6 fz => ⟨_, rfl, b6, u5.trans u6, fz.q (Nat.le_of_lt ten60)⟩⟩
    refine ⟨_, rfl, rfl, _, rfl, ite2 (fun _ => ?_) (fun _ => ?_)⟩
    · obtain ⟨t, a, c, rfl, ht, a2, c0, c2⟩ := fv
      have st := SqT.of (K := K) ht
      have fin : ∀ z' z : Int, z ≠ 0 → z'.natAbs < 2 ^ 200 → z.natAbs < 2 ^ 200 → _ := fun z' z h0 h1 h2 =>
        low_q (H := H5) (a := z') (b := z) (Q := fun v' H' => ∃ v : V, [some (.ref B), some (.int (k : Nat)), some (.int (M : Nat)), some (.int x), some (.int y), some v', some (.int pk), none] = [some (.ref B), some (.int (k : Nat)), some (.int (M : Nat)), some (.int x), some (.int y), some v, some (.int pk), none] ∧ Bag H' B p ∧ But B H H' ∧ FrQ H' v) h0 h1 h2 fun t nt ft => ⟨_, rfl, b5.put nt, u5.trans (But.new nt), ft⟩
      refine ⟨_, rfl, t, _, 0, _, rfl, rfl, st, rfl, a, 0, rfl, rfl, _, rfl, ite2 (fun ca => ?_) (fun _ => ?_)⟩
      · have a0 : (0 : Int) < a := of_decide_eq_true ca
        exact ⟨_, rfl, t, _, 0, _, rfl, rfl, st, rfl, a, 1, rfl, rfl, _, rfl, t, _, 1, _, rfl, rfl, st, rfl, fin (a - 1) c (by omega) (by omega) (by omega)⟩
      · exact ⟨_, rfl, t, _, 1, _, rfl, rfl, st, rfl, fin 1 c (by omega) (by decide +kernel) (by omega)⟩
    refine ⟨_, rfl, rfl, _, rfl, ite2 (fun _ => ?_) (fun _ => ?_)⟩
    · obtain ⟨t, a, c, rfl, ht, a2, c0, c2⟩ := fv
      have st := SqT.of (K := K) ht
      have fin : ∀ z' z : Int, z ≠ 0 → z'.natAbs < 2 ^ 200 → z.natAbs < 2 ^ 200 → _ := fun z' z h0 h1 h2 =>
        low_q (H := H5) (a := z') (b := z) (Q := fun v' H' => ∃ v : V, [some (.ref B), some (.int (k : Nat)), some (.int (M : Nat)), some (.int x), some (.int y), some v', some (.int pk), none] = [some (.ref B), some (.int (k : Nat)), some (.int (M : Nat)), some (.int x), some (.int y), some v, some (.int pk), none] ∧ Bag H' B p ∧ But B H H' ∧ FrQ H' v) h0 h1 h2 fun t nt ft => ⟨_, rfl, b5.put nt, u5.trans (But.new nt), ft⟩
      refine ⟨_, rfl, t, _, 0, _, rfl, rfl, st, rfl, _, rfl, t, _, 1, _, rfl, rfl, st, rfl, c, 1, rfl, rfl, _, rfl, ite2 (fun ca => ?_) (fun _ => ?_)⟩
      · have a0 : (1 : Int) < c := of_decide_eq_true ca
        exact ⟨_, rfl, t, _, 1, _, rfl, rfl, st, rfl, c, 1, rfl, rfl, fin a (c - 1) (by omega) a2 (by omega)⟩
      · exact fin a 2 (by decide) a2 (by decide +kernel)
    refine ⟨_, rfl, rfl, _, rfl, ite2 (fun _ => ?_) (fun _ => ?_)⟩
    · refine ⟨_, rfl, B, p, rfl, b5, fun H6 z b6 u6 fz => ?_⟩
      obtain ⟨a, u, l, rfl, _, h1, h2, h3, h4, _⟩ := fz
      refine ⟨.ref a, u, l, 4, rfl, by decide, ⟨a, rfl, h1, Nat.lt_trans h2 (by decide +kernel), Nat.lt_trans h3 (by decide +kernel), by omega⟩, fun t1 H7 s7 n7 h7 => ?_⟩
      exact ⟨_, rfl, b6.same s7, u5.trans (u6.trans (But.same s7)), .of h7 (Nat.lt_trans (pow_bd h2 4) (by decide +kernel)) (pwp _ h4 4) (Nat.lt_trans (pow_bd h3 4) (by decide +kernel))⟩
    · exact ⟨_, rfl, b5, u5, fv⟩
  rintro σ' H6 ⟨v, rfl, b6, u6, fv⟩
  refine ⟨fun σ' H' => ∃ v : V, σ' = [some (.ref B), some (.int (k : Nat)), some (.int (M : Nat)), some (.int x), some (.int y), some v, some (.int pk), none] ∧ Bag H' B p ∧ But B H H' ∧ FrQ H' v, ?_, ?_⟩
  · refine ⟨_, rfl, B, p, 3, rfl, by decide, by decide, b6, fun H7 c b7 u7 _ _ => ⟨rfl, _, rfl, ite2 (fun _ => ?_) (fun _ => ⟨_, rfl, b7, u6.trans u7, fv.but b6 u7⟩)⟩⟩
    obtain ⟨t, a, c, rfl, ht, a2, c0, c2⟩ := fv.but b6 u7
    refine ⟨_, rfl, .ref t, a, c, rfl, ⟨t, rfl, ht, Nat.lt_trans a2 (by decide +kernel), by rw [Int.natAbs_natCast]; exact Nat.lt_trans c2 (by decide +kernel), by omega⟩, fun t1 H8 s8 n8 h8 => ?_⟩
    exact ⟨_, rfl, b7.same s8, u6.trans (u7.trans (But.same s8)), .of h8 (by rw [Int.natAbs_neg]; exact a2) (by omega) (by omega)⟩
  rintro σ' H7 ⟨v, rfl, b7, u7, fv⟩
  obtain ⟨t, a, c, rfl, ht, a2, c0, c2⟩ := fv
  refine ⟨_, rfl, _, rfl, t, a, c, k, rfl, ht, Nat.lt_trans a2 (by decide +kernel), Nat.lt_trans c2 (by decide +kernel), c0, k0, k24, fun P1 R1 hP hR H8 v8 s8 o8 => ?_⟩
  have ht8 := s8 _ _ ht
  refine ⟨_, rfl, _, rfl, .ref t, t, a, c, k, rfl, ht8, Nat.lt_trans a2 (by decide +kernel), Nat.lt_trans c2 (by decide +kernel), k0, k24, fun P2 R2 hP2 hR2 H9 v9 s9 o9 => ?_⟩
  obtain rfl := hP2.uniq hP
  obtain rfl := hR2.uniq hR
  have ht9 := s9 _ _ ht8
  refine ⟨_, rfl, _, rfl, rfl, .ref t, t, a, c, k, rfl, ht9, Nat.lt_trans a2 (by decide +kernel), Nat.lt_trans c2 (by decide +kernel), k0, k24, fun P3 R3 hP3 hR3 H10 v10 s10 o10 => ?_⟩
  obtain rfl := hP3.uniq hP2
  obtain rfl := hR3.uniq hR2
  refine ⟨(by show 2 ≤ sizeLine; decide), fun d nd => ⟨_, rfl, _, rfl, (by show 2 ≤ sizeLine; decide), fun e ne => ?_⟩⟩
  have sd := new_same nd (.lst [v9, v10])
  have se := new_same ne (.lst [v8, v8])
  have hd : upd (upd H10 d (.lst [v9, v10])) e (.lst [v8, v8]) d = some (.lst [v9, v10]) := se _ _ upd_same
  have s11 := sd.trans se
  have he : upd (upd H10 d (.lst [v9, v10])) e (.lst [v8, v8]) e = some (.lst [v8, v8]) := upd_same
  generalize upd (upd H10 d (.lst [v9, v10])) e (.lst [v8, v8]) = H11 at hd he s11
  have b11 := b7.same (s8.trans (s9.trans (s10.trans s11)))
  have u11 := u7.trans (But.same (s8.trans (s9.trans (s10.trans s11))))
  refine ⟨.ref d, .ref e, _, _, rfl, tw_lists hd he (by show 2 ≤ 60; decide) (.cons ((o9.same (s10.trans s11)).tw (o8.same (s9.trans (s10.trans s11)))) (.cons ((o10.same s11).tw (o8.same (s9.trans (s10.trans s11)))) .nil)), fun H12 s12 => ?_⟩
  exact ⟨_, rfl, iteF (q _ (b11.same s12) (u11.trans (But.same s12)))⟩
end
end Kr
end
section
set_option maxHeartbeats 4000000
namespace Kr
open PySem PySem.Spec PyProof.Rows L2 SX
abbrev isDg (c : Nat) : Bool := decide (48 ≤ c) && decide (c ≤ 57)
/-- the digits of a whole number in its one form, of at most 60 -/
def digB (l : List Nat) : Bool := (decide (1 ≤ l.length) && decide (l.length ≤ 60)) && (l.all isDg && (decide (l = [48]) || !decide (l.head? = some 48)))
abbrev val (l : List Nat) : Nat := NumText.digitsVal l
theorem fold_ge : ∀ (r : List Nat) (a : Nat), a * 10 ^ r.length ≤ r.foldl (fun acc c => acc * 10 + (c - 48)) a
  | [], a => by simp
  | c :: r, a => by
    have z := fold_ge r (a * 10 + (c - 48))
    rw [List.foldl_cons, List.length_cons, Nat.pow_succ]
    refine Nat.le_trans ?_ z
    rw [show a * (10 ^ r.length * 10) = (a * 10) * 10 ^ r.length by rw [Nat.mul_comm (10 ^ r.length), Nat.mul_assoc]]
    exact Nat.mul_le_mul_right _ (Nat.le_add_right _ _)
theorem digB_all {l : List Nat} (h : digB l = true) : l.all isDg = true ∧ l ≠ [] ∧ l.length ≤ 60 ∧ (l = [48] ∨ l.head? ≠ some 48) := by
  unfold digB at h
  simp only [Bool.and_eq_true, Bool.or_eq_true, Bool.not_eq_true', decide_eq_true_eq, decide_eq_false_iff_not] at h
  obtain ⟨⟨h1, h2⟩, h3, h4⟩ := h
  exact ⟨h3, fun e => by rw [e] at h1; simp at h1, h2, h4⟩
theorem val_big {c : Nat} {r : List Nat} (hc : 49 ≤ c) : 10 ^ r.length ≤ val (c :: r) := by
  have z := fold_ge r (0 * 10 + (c - 48))
  have y : 1 * 10 ^ r.length ≤ (0 * 10 + (c - 48)) * 10 ^ r.length := Nat.mul_le_mul_right _ (by omega)
  rw [Nat.one_mul] at y
  exact Nat.le_trans y z
theorem digB_head {l : List Nat} (h : digB l = true) : l = [48] ∨ ∃ c r, l = c :: r ∧ 49 ≤ c ∧ c ≤ 57 := by
  obtain ⟨h1, h2, h3, h4⟩ := digB_all h
  rcases h4 with e | e
  · exact .inl e
  · cases l with
    | nil => exact absurd rfl h2
    | cons c r =>
      right
      have hc : isDg c = true := List.all_eq_true.mp h1 c List.mem_cons_self
      unfold isDg at hc
      rw [Bool.and_eq_true, decide_eq_true_eq, decide_eq_true_eq] at hc
      exact ⟨c, r, rfl, by have : c ≠ 48 := fun z => e (by rw [z]; rfl); omega, hc.2⟩
theorem val_zero {l : List Nat} (h : digB l = true) : val l = 0 ↔ l = [48] := by
  refine ⟨fun e => ?_, fun e => by rw [e]; rfl⟩
  rcases digB_head h with z | ⟨c, r, rfl, hc, _⟩
  · exact z
  · have y := val_big (r := r) hc
    have x := Nat.pow_pos (a := 10) (n := r.length) (by decide)
    omega
theorem val_one {l : List Nat} (h : digB l = true) : val l = 1 ↔ l = [49] := by
  refine ⟨fun e => ?_, fun e => by rw [e]; rfl⟩
  rcases digB_head h with z | ⟨c, r, rfl, hc, hc2⟩
  · rw [z] at e
    cases e
  · cases r with
    | nil =>
      have e : 0 * 10 + (c - 48) = 1 := e
      rw [show c = 49 by omega]
    | cons d r =>
      have y := val_big (r := d :: r) hc
      have x := Nat.pow_pos (a := 10) (n := r.length) (by decide)
      rw [List.length_cons, Nat.pow_succ] at y
      omega
theorem numL_head : ∀ n : Nat, 0 < n → ∃ c r, TL.numL n = c :: r ∧ 49 ≤ c ∧ c ≤ 57 := by
  intro n
  induction n using Nat.strongRecOn with
  | _ n ih =>
    intro h0
    by_cases h : n < 10
    · rw [TL.numL_lt h]
      exact ⟨_, _, rfl, by omega, by omega⟩
    · obtain ⟨c, r, e, h1, h2⟩ := ih (n / 10) (by omega) (by omega)
      rw [TL.numL_step (by omega), e]
      exact ⟨c, _, rfl, h1, h2⟩
theorem numL_all (n : Nat) : (TL.numL n).all isDg = true := List.all_eq_true.mpr fun c hc => by
  have := TL.numL_digits n c hc
  unfold isDg
  rw [Bool.and_eq_true, decide_eq_true_eq, decide_eq_true_eq]
  exact this
theorem numL_digB {n : Nat} (h : n < 10 ^ 60) : digB (TL.numL n) = true := by
  unfold digB
  simp only [Bool.and_eq_true, Bool.or_eq_true, Bool.not_eq_true', decide_eq_true_eq, decide_eq_false_iff_not]
  refine ⟨⟨?_, TL.numL_len (by decide) h⟩, numL_all n, ?_⟩
  · exact Nat.pos_of_ne_zero fun e => TL.numL_ne n (List.length_eq_zero_iff.mp e)
  · by_cases e : n = 0
    · rw [e]
      exact .inl (TL.numL_lt (by decide))
    · obtain ⟨c, r, z, h1, h2⟩ := numL_head n (by omega)
      rw [z]
      exact .inr fun y => by
        have y : some c = some 48 := y
        have := Option.some.inj y
        omega
/-! ### what a text says -/
def sg (neg : Bool) (n : Nat) : Int := if neg = true then -(n : Int) else (n : Int)
def rd1 (neg : Bool) (r : List Nat) : Option (Int × Int) := if digB r = true ∧ ¬ (neg = true ∧ r = [48]) then some (sg neg (val r), 1) else none
def rd2 (neg : Bool) (a b : List Nat) : Option (Int × Int) := if b ≠ [49] ∧ digB a = true ∧ digB b = true ∧ ¬ (neg = true ∧ a = [48]) ∧ 1 ≤ val b ∧ Nat.gcd (val a) (val b) = 1 then some (sg neg (val a), (val b : Int)) else none
/-- the sign and the rest -/
def SgS (l : List Nat) (neg : Bool) (r : List Nat) : Prop := (l.head? = some 45 ∧ neg = true ∧ r = l.drop 1) ∨ (l.head? ≠ some 45 ∧ neg = false ∧ r = l)
def RdS (l : List Nat) (o : Option (Int × Int)) : Prop := ∃ neg r, SgS l neg r ∧ ((47 ∉ r ∧ o = rd1 neg r) ∨ ∃ a b, r = a ++ 47 :: b ∧ 47 ∉ a ∧ o = rd2 neg a b)
theorem rdS_ex (l : List Nat) : ∃ o, RdS l o := by
  have one : ∀ neg r, SgS l neg r → ∃ o, RdS l o := fun neg r h => by
    by_cases c : 47 ∈ r
    · obtain ⟨a, b, e, n⟩ := List.eq_append_cons_of_mem c
      exact ⟨_, neg, r, h, .inr ⟨a, b, e, n, rfl⟩⟩
    · exact ⟨_, neg, r, h, .inl ⟨c, rfl⟩⟩
  by_cases c : l.head? = some 45
  · exact one true (l.drop 1) (.inl ⟨c, rfl, rfl⟩)
  · exact one false l (.inr ⟨c, rfl, rfl⟩)
/-- the text of x over y -/
def wrL (x : Int) (y : Nat) : List Nat := (if x < 0 then [45] else []) ++ (TL.numL x.natAbs ++ (if y = 1 then [] else 47 :: TL.numL y))
theorem wr_read {x : Int} {y : Nat} (hx : x.natAbs < 10 ^ 60) (hy : y < 10 ^ 60) (y0 : 0 < y) (g : Nat.gcd x.natAbs y = 1) : RdS (wrL x y) (some (x, (y : Int))) := by
  have n47 : 47 ∉ TL.numL x.natAbs := TL.numL_free (.inl (by decide))
  have key : ∀ neg, (neg = true ↔ x < 0) → (47 ∉ TL.numL x.natAbs ++ (if y = 1 then [] else 47 :: TL.numL y) ∧ some (x, (y : Int)) = rd1 neg (TL.numL x.natAbs ++ (if y = 1 then [] else 47 :: TL.numL y))) ∨
      ∃ a b, TL.numL x.natAbs ++ (if y = 1 then [] else 47 :: TL.numL y) = a ++ 47 :: b ∧ 47 ∉ a ∧ some (x, (y : Int)) = rd2 neg a b := fun neg hn => by
    have hs : sg neg x.natAbs = x := by
      unfold sg
      by_cases c : neg = true
      · rw [if_pos c]
        have := hn.mp c
        omega
      · rw [if_neg c]
        have : ¬ x < 0 := fun z => c (hn.mpr z)
        omega
    have n0 : ¬ (neg = true ∧ TL.numL x.natAbs = [48]) := fun ⟨c, e⟩ => by
      have := hn.mp c
      have := (val_zero (numL_digB hx)).mpr e
      rw [show val (TL.numL x.natAbs) = x.natAbs from TL.numL_val _] at this
      omega
    by_cases c : y = 1
    · left
      rw [if_pos c, List.append_nil]
      refine ⟨n47, ?_⟩
      unfold rd1
      rw [if_pos ⟨numL_digB hx, n0⟩, show val (TL.numL x.natAbs) = x.natAbs from TL.numL_val _, hs, c]
      rfl
    · right
      rw [if_neg c]
      refine ⟨_, _, rfl, n47, ?_⟩
      unfold rd2
      have ev : val (TL.numL y) = y := TL.numL_val _
      rw [if_pos ⟨fun e => c (by rw [← ev, e]; rfl), numL_digB hx, numL_digB hy, n0, by rw [ev]; exact y0, by rw [ev, show val (TL.numL x.natAbs) = x.natAbs from TL.numL_val _]; exact g⟩, show val (TL.numL x.natAbs) = x.natAbs from TL.numL_val _, hs, ev]
  by_cases c : x < 0
  · refine ⟨true, _, .inl ⟨?_, rfl, rfl⟩, ?_⟩
    · unfold wrL
      rw [if_pos c]
      rfl
    · have e : (wrL x y).drop 1 = TL.numL x.natAbs ++ (if y = 1 then [] else 47 :: TL.numL y) := by
        unfold wrL
        rw [if_pos c]
        rfl
      rw [e]
      exact key true ⟨fun _ => c, fun _ => rfl⟩
  · refine ⟨false, _, .inr ⟨?_, rfl, rfl⟩, ?_⟩
    · unfold wrL
      rw [if_neg c, List.nil_append]
      cases h : TL.numL x.natAbs with
      | nil => exact absurd h (TL.numL_ne _)
      | cons d r =>
        intro e
        have e : some d = some 45 := e
        have m : (45 : Nat) ∈ TL.numL x.natAbs := by
          rw [h, Option.some.inj e]
          exact List.mem_cons_self
        exact TL.numL_free (.inl (by decide)) m
    · have e : wrL x y = TL.numL x.natAbs ++ (if y = 1 then [] else 47 :: TL.numL y) := by
        unfold wrL
        rw [if_neg c, List.nil_append]
      rw [e]
      exact key false ⟨fun h => (by cases h), fun h => absurd h c⟩
theorem wr_len {x : Int} {y : Nat} (hx : x.natAbs < 10 ^ 60) (hy : y < 10 ^ 60) : (wrL x y).length ≤ 122 := by
  have l1 := TL.numL_len (by decide) hx
  have l2 := TL.numL_len (by decide) hy
  unfold wrL
  rw [List.length_append, List.length_append]
  have a : (if x < 0 then ([45] : List Nat) else []).length ≤ 1 := by split <;> simp
  have b : (if y = 1 then ([] : List Nat) else 47 :: TL.numL y).length ≤ 61 := by
    split
    · simp
    · rw [List.length_cons]
      omega
  omega
/-- str of a whole number -/
theorem str_int (i : Int) : Str.ofString (toString i) = S ((if i < 0 then [45] else []) ++ TL.numL i.natAbs) := by
  by_cases c : i < 0
  · rw [if_pos c, PyProof.Rows.toString_neg c]
    refine TL.ext_tl ?_
    rw [TL.tl_ofString, String.toList_append, List.map_append, ← TL.tl_ofString, ← TL.tl_ofString, show (0 : Int) - i = ((i.natAbs : Nat) : Int) by omega, TL.tl_num]
    rfl
  · rw [if_neg c, List.nil_append, show i = ((i.natAbs : Nat) : Int) by omega, num_S, Int.natAbs_natCast]
end Kr
end
section
set_option maxHeartbeats 4000000
namespace Kr
open PySem PySem.Spec PyProof.Rows L2 RZ SX
theorem starts_one (l : List Nat) (c : Nat) : Txt.startswith (S l) (S [c]) = decide (l.head? = some c) := by
  unfold Txt.startswith
  rw [StrLaws.subAt_eq]
  cases l with
  | nil => rfl
  | cons d r =>
    show (decide (0 + 1 ≤ (S (d :: r)).length) && (List.take 1 (List.drop 0 (d :: r)) == [c])) = _
    rw [S_len, List.length_cons, decide_eq_true (by omega), Bool.true_and]
    show ([d] == [c]) = decide (some d = some c)
    rw [Bool.eq_iff_iff, beq_iff_eq, decide_eq_true_eq]
    constructor
    · intro h; rw [List.cons.inj h |>.1]
    · intro h; rw [Option.some.inj h]
theorem pe_starts {X : Cx} {o e : Expr} {to te : TE} {apos pos : Pos} (ho : PE X o to) (he : PE X e te) (hs : starEach [e] X.env = [(false, eval e X.env)] := by rfl) (hbase : attributeBase o "startswith" X.env (eval o X.env) = eval o X.env := by rfl) (hline : (apos.endLine == pos.line) = true := by rfl) :
    PE X (.Call (.Attribute o "startswith" apos) [e] [] pos) (tM1 (fun x xs H Q => ∃ a b, x = .str a ∧ xs = [.str b] ∧ Q (.bl (Txt.startswith a b)) H) to te) :=
  pe_m1 F.slot_str_startswith F.type_str_startswith mt_startswith ho he hs hbase hline
theorem str_ne {a b : List Nat} : (decide (V.str (S a) = V.str (S b))) = decide (a = b) := decide_eq_decide.mpr ⟨fun h => S_inj (V.str.inj h), fun h => by rw [h]⟩
theorem dg_mem (c : Nat) : decide (c ∈ [48, 49, 50, 51, 52, 53, 54, 55, 56, 57]) = isDg c := by
  unfold isDg
  rw [← Bool.decide_and]
  refine decide_eq_decide.mpr ⟨fun h => ?_, fun h => ?_⟩
  · simp only [List.mem_cons, List.not_mem_nil, or_false] at h
    omega
  · simp only [List.mem_cons, List.not_mem_nil, or_false]
    omega
def spDig : Sp := fun vs H Q _ => ∃ l : List Nat, vs = [.str (S l)] ∧ l.length ≤ 6000 ∧ ∀ H', Same H H' → Q (.bl (digB l)) H'
abbrev nDg : List Str := ["text", "letter"]
theorem len60 {l : List Nat} (h : ¬ l.length ≤ 60) : digB l = false := by
  unfold digB
  rw [decide_eq_false h]
  simp
theorem len1 {l : List Nat} (h : ¬ 1 ≤ l.length) : digB l = false := by
  unfold digB
  rw [decide_eq_false h]
  simp
section
variable {P : Program} {w : World} {K : PySem.W.Frag} {mg : Str → Option Value} {base : Heap} {f : Addr} {fd : FuncData}
theorem scDg : FnScope nDg ["text"] (defScope (top 31)) := ⟨rfl, rfl, rfl, by decide +kernel, rfl, by decide +kernel, by decide +kernel⟩
theorem ok_isdig (G : Fun K "is_digits" "is_digits" (top 31) f fd) (mn : mg "len" = none) (ma : mg "all" = none) (mM : ∃ u, mg "MOST_DIGITS" = some u ∧ RelV (.int 60) u) (mD : ∃ u, mg "DIGITS" = some u ∧ RelV (.str (S [48, 49, 50, 51, 52, 53, 54, 55, 56, 57])) u) :
    FnOk P w K mg base CX0 1 f fd ["text"] spDig := by
  refine G.ok scDg (fun vs H Q E h => ?_) (fun cdv A outer s H vs Q E hr h => ?_)
  · obtain ⟨l, rfl, _⟩ := h
    rfl
  obtain ⟨l, rfl, hl, q⟩ := h
  refine ⟨_, pss_cons (ps_if (pt_not (pt_chain op_le op_le pe_int (pe_callB call_len_str rfl mn PySem.boot_len (pa_cons (pv 0) pa_nil)) (C8.pe_gc rfl mM))) (pss_one (ps_ret pe_bl)) pss_nil)
    (C8.pss_cut (ps_if (PW.pt (pw_and (pt_val (pe_starts (pv 0) pe_str)) (pw_and1 (pt_cmpR op_ne (pv 0) pe_str (nomark _))))) (pss_one (ps_ret pe_bl)) pss_nil)
    (pss_one (ps_ret (pe_callB (cr_all rfl) rfl ma (by decide +kernel) (pa_cons (pe_lc (own := [("letter", 1)]) (g := gName 1) (tt := tYes) rfl scDg.nd (pi_str (pv 0)) (blkOk_by (N := nDg) (sc := defScope (top 31)) (by decide +kernel)) (fun _ _ _ _ _ => pg_name (i := 1) scDg.nd rfl (Or.inl rfl)) (fun _ _ _ _ _ => pts_nil)
        (fun _ _ _ _ _ => pe_cmpR op_in_str (pv 1) (C8.pe_gc rfl mD) (by with_unfolding_all rfl))) pa_nil))))), ?_⟩
  have sl : (S l).length ≤ sizeLine := by rw [S_len]; exact Nat.le_trans hl (by decide)
  refine ⟨_, rfl, S l, rfl, sl, 1, _, rfl, rfl, _, rfl, ?_⟩
  rw [S_len]
  by_cases c1 : 1 ≤ l.length
  · rw [decide_eq_true (show (1 : Int) ≤ (l.length : Nat) by omega)]
    refine iteT ⟨_, _, rfl, rfl, _, rfl, ?_⟩
    by_cases c2 : l.length ≤ 60
    · rw [decide_eq_true (show ((l.length : Nat) : Int) ≤ 60 by omega)]
      refine iteF ?_
      refine ⟨fun σ' H' => H' = H ∧ σ' = L2.start nDg [V.str (S l)] ∧ (l = [48] ∨ l.head? ≠ some 48), ?_, ?_⟩
      · refine ⟨_, rfl, ⟨_, rfl⟩, S l, _, rfl, rfl, _, rfl, ?_⟩
        rw [show Txt.startswith (S l) "0" = decide (l.head? = some 48) from starts_one l 48]
        by_cases c3 : l.head? = some 48
        · rw [decide_eq_true c3]
          refine iteT ⟨_, rfl, rfl, _, rfl, ?_⟩
          rw [show decide (V.str (S l) = V.str "0") = decide (l = [48]) from str_ne]
          by_cases c4 : l = [48]
          · rw [decide_eq_true c4]
            exact iteF ⟨rfl, rfl, .inl c4⟩
          · rw [decide_eq_false c4]
            have e : digB l = false := by
              unfold digB
              rw [decide_eq_true c3, decide_eq_false c4]
              simp
            rw [e] at q
            exact iteT (q H (Same.refl H))
        · rw [decide_eq_false c3]
          exact iteF (iteF ⟨rfl, rfl, .inr c3⟩)
      rintro σ' H' ⟨rfl, rfl, c5⟩
      refine ⟨_, rfl, S l, rfl, fun D nD => ?_⟩
      refine lc_it (walk_str (z := S l)) (fun i H2 => Same H' H2 ∧ H2 D = some (.lst (((l.take i).map isDg).map V.bl))) ⟨new_same nD _, upd_same⟩ (fun _ _ _ _ => True.intro) ?_ ?_
      · rintro i x H2 H3 hi ⟨g, hD⟩ ⟨rfl, c, hc, rfl⟩
        have hc : l[i]? = some c := by simpa using hc
        refine ⟨rfl, yesT ⟨_, rfl, S [c], S [48, 49, 50, 51, 52, 53, 54, 55, 56, 57], rfl, rfl, ?_⟩⟩
        rw [in_one, dg_mem]
        refine ⟨_, hD, small1000 (by rw [List.length_map, List.length_map, List.length_take]; omega), fun e o h => by rw [upd_ne (ne_of_none h nD)]; exact g _ _ h, ?_⟩
        rw [upd_same, List.take_add_one, hc, List.map_append, List.map_append]
        rfl
      · rintro H2 ⟨g, hD⟩
        have e : (S l).cps.size = l.length := by simp
        rw [e, List.take_length] at hD
        refine ⟨D, l.map isDg, rfl, SqL.of hD, ?_⟩
        have e : (l.map isDg).all id = digB l := by
          unfold digB
          rw [decide_eq_true c1, decide_eq_true c2, show (decide (l = [48]) || !decide (l.head? = some 48)) = true by
            rcases c5 with z | z
            · rw [decide_eq_true z]; rfl
            · rw [decide_eq_false z]; simp]
          simp only [Bool.and_true, Bool.true_and, List.all_map]
          rfl
        rw [e]
        exact q H2 g
    · rw [decide_eq_false (show ¬ ((l.length : Nat) : Int) ≤ 60 by omega)]
      rw [len60 c2] at q
      exact iteT (q H (Same.refl H))
  · rw [decide_eq_false (show ¬ (1 : Int) ≤ (l.length : Nat) by omega)]
    rw [len1 c1] at q
    exact iteF ⟨_, rfl, iteT (q H (Same.refl H))⟩
abbrev nLDg : List Str := ["_law_word", "_law_sign"]
theorem scLDg : FnScope nLDg ["_law_word"] (defScope (top 85)) := ⟨rfl, rfl, rfl, by decide +kernel, rfl, by decide +kernel, by decide +kernel⟩
theorem ok_ldig (G : Fun K "_law_digits" "_law_digits" (top 85) f fd) (mn : mg "len" = none) (ma : mg "all" = none) : FnOk P w K mg base CX0 1 f fd ["_law_word"] spDig := by
  refine G.ok scLDg (fun vs H Q E h => ?_) (fun cdv A outer s H vs Q E hr h => ?_)
  · obtain ⟨l, rfl, _⟩ := h
    rfl
  obtain ⟨l, rfl, hl, q⟩ := h
  refine ⟨_, pss_cons (ps_if (PW.pt (pw_or (pt_not (pt_chain op_le op_le pe_int (pe_callB call_len_str rfl mn PySem.boot_len (pa_cons (pv 0) pa_nil)) pe_int))
      (pw_or1 (pt_not (pt_val (pe_callB (cr_all rfl) rfl ma (by decide +kernel) (pa_cons (pe_lc (own := [("_law_sign", 1)]) (g := gName 1) (tt := tYes) rfl scLDg.nd (pi_str (pv 0)) (blkOk_by (N := nLDg) (sc := defScope (top 85)) (by decide +kernel)) (fun _ _ _ _ _ => pg_name (i := 1) scLDg.nd rfl (Or.inl rfl)) (fun _ _ _ _ _ => pts_nil)
        (fun _ _ _ _ _ => pe_cmpR op_in_str (pv 1) pe_str (by with_unfolding_all rfl))) pa_nil))))))) (pss_one (ps_ret pe_bl)) pss_nil)
    (pss_one (ps_ret (pe_or (pe_cmpR op_eq (pv 0) pe_str (nomark _)) (pe_one (pe_cmpR op_ne (pe_ix ix_str (pv 0) pe_int (fun _ _ => rfl)) pe_str (nomark _)))))), ?_⟩
  have sl : (S l).length ≤ sizeLine := by rw [S_len]; exact Nat.le_trans hl (by decide)
  refine ⟨_, rfl, S l, rfl, sl, 1, _, rfl, rfl, _, rfl, ?_⟩
  rw [S_len]
  by_cases c1 : 1 ≤ l.length
  · rw [decide_eq_true (show (1 : Int) ≤ (l.length : Nat) by omega)]
    refine iteT ⟨_, _, rfl, rfl, _, rfl, ?_⟩
    by_cases c2 : l.length ≤ 60
    · rw [decide_eq_true (show ((l.length : Nat) : Int) ≤ 60 by omega)]
      refine iteF ⟨_, rfl, S l, rfl, fun D nD => ?_⟩
      refine lc_it (walk_str (z := S l)) (fun i H2 => Same H H2 ∧ H2 D = some (.lst (((l.take i).map isDg).map V.bl))) ⟨new_same nD _, upd_same⟩ (fun _ _ _ _ => True.intro) ?_ ?_
      · rintro i x H2 H3 hi ⟨g, hD⟩ ⟨rfl, c, hc, rfl⟩
        have hc : l[i]? = some c := by simpa using hc
        refine ⟨rfl, yesT ⟨_, rfl, S [c], S [48, 49, 50, 51, 52, 53, 54, 55, 56, 57], rfl, rfl, ?_⟩⟩
        rw [in_one, dg_mem]
        refine ⟨_, hD, small1000 (by rw [List.length_map, List.length_map, List.length_take]; omega), fun e o h => by rw [upd_ne (ne_of_none h nD)]; exact g _ _ h, ?_⟩
        rw [upd_same, List.take_add_one, hc, List.map_append, List.map_append]
        rfl
      · rintro H2 ⟨g, hD⟩
        have e : (S l).cps.size = l.length := by simp
        rw [e, List.take_length] at hD
        refine ⟨D, l.map isDg, rfl, SqL.of hD, _, rfl, ?_⟩
        rw [show (l.map isDg).all id = l.all isDg by simp only [List.all_map]; rfl]
        by_cases c3 : l.all isDg = true
        · rw [c3]
          have q := q H2 g
          refine iteF ⟨_, rfl, rfl, ?_⟩
          rw [show decide (V.str (S l) = V.str "0") = decide (l = [48]) from str_ne]
          have e : digB l = (decide (l = [48]) || !decide (l.head? = some 48)) := by
            unfold digB
            rw [decide_eq_true c1, decide_eq_true c2, c3, Bool.true_and, Bool.true_and, Bool.true_and]
          rw [e] at q
          by_cases c4 : l = [48]
          · rw [decide_eq_true c4] at q ⊢
            exact ⟨_, rfl, iteT q⟩
          · rw [decide_eq_false c4] at q ⊢
            cases l with
            | nil => exact absurd c1 (by decide)
            | cons c r =>
              refine ⟨_, rfl, iteF ⟨_, rfl, S (c :: r), 0, c, rfl, rfl, sl, atI_nat (j := 0) rfl, rfl, ?_⟩⟩
              rw [show decide (V.str (⟨#[c]⟩ : Str) = V.str "0") = decide ((c :: r).head? = some 48) from (str_ne (a := [c]) (b := [48])).trans (decide_eq_decide.mpr ⟨fun h => by rw [(List.cons.inj h).1]; rfl, fun h => by rw [Option.some.inj h]⟩)]
              exact q
        · have c3 : l.all isDg = false := Bool.eq_false_iff.mpr c3
          rw [c3]
          have e : digB l = false := by
            unfold digB
            rw [c3]
            simp
          have q := q H2 g
          rw [e] at q
          exact iteT q
    · rw [decide_eq_false (show ¬ ((l.length : Nat) : Int) ≤ 60 by omega)]
      rw [len60 c2] at q
      exact iteT (q H (Same.refl H))
  · rw [decide_eq_false (show ¬ (1 : Int) ≤ (l.length : Nat) by omega)]
    rw [len1 c1] at q
    exact iteF ⟨_, rfl, iteT (q H (Same.refl H))⟩
end
end Kr
end
section
set_option maxHeartbeats 4000000
namespace Kr
open PySem PySem.Spec PyProof.Rows L2 RZ SX
def spTxt : Sp := fun vs H Q _ => ∃ (a : Addr) (x : Int) (y : Nat), vs = [.ref a] ∧ H a = some (.tup [.int x, .int (y : Nat)]) ∧ x.natAbs < 10 ^ 60 ∧ y < 10 ^ 60 ∧ Q (.str (S (wrL x y))) H
abbrev nTx : List Str := ["value", "upper", "lower"]
abbrev nWt : List Str := ["_law_a", "_law_some"]
theorem log60 {i : Int} (h : i.natAbs < 10 ^ 60) : i.natAbs.log2 < 1920 := Nat.lt_trans (log_bd (n := 200) (Nat.lt_trans h (by decide +kernel)) (by decide)) (by decide)
theorem str_nat (y : Nat) : Str.ofString (toString ((y : Nat) : Int)) = S (TL.numL y) := num_S y
theorem len_sg (x : Int) (h : x.natAbs < 10 ^ 60) : ((if x < 0 then ([45] : List Nat) else []) ++ TL.numL x.natAbs).length ≤ 61 := by
  have l1 := TL.numL_len (by decide) h
  rw [List.length_append]
  have a : (if x < 0 then ([45] : List Nat) else []).length ≤ 1 := by split <;> simp
  omega
section
variable {P : Program} {w : World} {K : PySem.W.Frag} {mg : Str → Option Value} {base : Heap} {f : Addr} {fd : FuncData}
theorem scTx : FnScope nTx ["value"] (defScope (top 30)) := ⟨rfl, rfl, rfl, by decide +kernel, rfl, by decide +kernel, by decide +kernel⟩
theorem ok_text (G : Fun K "fraction_text" "fraction_text" (top 30) f fd) (ms : mg "str" = none) : FnOk P w K mg base CX0 1 f fd ["value"] spTxt := by
  refine G.ok scTx (fun vs H Q E h => ?_) (fun cdv A outer s H vs Q E hr h => ?_)
  · obtain ⟨a, x, y, rfl, _⟩ := h
    rfl
  obtain ⟨a, x, y, rfl, ha, hx, hy, q⟩ := h
  refine ⟨_, pss_cons (ps_asg (pv 0) (pg_tup rfl (pgs_cons (pg_name (i := 1) scTx.nd rfl (Or.inl rfl)) (pgs_cons (pg_name (i := 2) scTx.nd rfl (Or.inl rfl)) pgs_nil))))
    (pss_one (ps_ret (pe_ifExp (pt_cmpR op_eq (pv 2) pe_int (nomark _)) (pe_callTy call_str_int rfl ms (by decide +kernel) (pa_cons (pv 1) pa_nil)) (pe_joined (.cons (pe_fmt (pv 1)) (.cons pe_str (.cons (pe_fmt (pv 2)) .nil))))))), ?_⟩
  have ly := TL.numL_len (n := y) (by decide) hy
  have lx := len_sg x hx
  refine ⟨_, rfl, a, _, rfl, SqT.of ha, rfl, _, _, rfl, _, _, rfl, rfl, ?_⟩
  refine ⟨_, rfl, rfl, _, rfl, ite2 (fun c => ?_) (fun c => ?_)⟩
  · have y1 : y = 1 := by
      have := V.int.inj (of_decide_eq_true c)
      omega
    refine ⟨_, rfl, x, rfl, log60 hx, ?_⟩
    unfold wrL at q
    rw [if_pos y1, List.append_nil] at q
    rw [str_int]
    exact q
  · have y1 : ¬ y = 1 := fun z => of_decide_eq_false (Bool.eq_false_iff.mpr c) (congrArg V.int (by omega))
    have e1 : Str.empty ++ Str.ofString (toString x) = S ((if x < 0 then [45] else []) ++ TL.numL x.natAbs) := by
      rw [str_int]
      exact S_cat [] _
    have e2 : Str.empty ++ Str.ofString (toString x) ++ "/" = S (((if x < 0 then [45] else []) ++ TL.numL x.natAbs) ++ [47]) := by
      rw [e1]
      exact S_cat _ [47]
    have e3 : Str.empty ++ Str.ofString (toString x) ++ "/" ++ Str.ofString (toString ((y : Nat) : Int)) = S (wrL x y) := by
      rw [e2, str_nat, S_cat]
      unfold wrL
      rw [if_neg y1]
      simp
    refine ⟨_, rfl, .inr ⟨x, rfl, log60 hx, _, rfl, ?_, _, rfl, ?_, _, rfl, .inr ⟨y, rfl, log60 (by rw [Int.natAbs_natCast]; exact hy), _, rfl, ?_, ?_⟩⟩⟩
    · rw [e1, S_len]
      exact Nat.le_trans lx (by decide)
    · rw [e2, S_len, List.length_append]
      exact Nat.le_trans (Nat.add_le_add_right lx _) (by decide)
    · rw [e3, S_len]
      exact Nat.le_trans (wr_len hx hy) (by decide)
    · show Q (.str (Str.empty ++ Str.ofString (toString x) ++ "/" ++ Str.ofString (toString ((y : Nat) : Int)))) H
      rw [e3]
      exact q
theorem scWt : FnScope nWt ["_law_a"] (defScope (top 87)) := ⟨rfl, rfl, rfl, by decide +kernel, rfl, by decide +kernel, by decide +kernel⟩
theorem ok_written (G : Fun K "_law_written" "_law_written" (top 87) f fd) (ms : mg "str" = none) (ma : mg "abs" = none) : FnOk P w K mg base CX0 1 f fd ["_law_a"] spTxt := by
  refine G.ok scWt (fun vs H Q E h => ?_) (fun cdv A outer s H vs Q E hr h => ?_)
  · obtain ⟨a, x, y, rfl, _⟩ := h
    rfl
  obtain ⟨a, x, y, rfl, ha, hx, hy, q⟩ := h
  refine ⟨_, C8.pss_cut (ps_set (i := 1) scWt.nd rfl (Or.inl rfl) (pe_op op_add_str (pe_ifExp (pt_cmpR op_lt (pe_ix ix_tup (pv 0) pe_int (fun _ _ => rfl)) pe_int (nomark _)) pe_str pe_str) (pe_callTy call_str_int rfl ms (by decide +kernel) (pa_cons (pe_callB call_abs rfl ma (by decide +kernel) (pa_cons (pe_ix ix_tup (pv 0) pe_int (fun _ _ => rfl)) pa_nil)) pa_nil))))
    (pss_one (ps_ret (pe_ifExp (pt_cmpR op_eq (pe_ix ix_tup (pv 0) pe_int (fun _ _ => rfl)) pe_int (nomark _)) (pv 1) (pe_op op_add_str (pe_op op_add_str (pv 1) pe_str) (pe_callTy call_str_int rfl ms (by decide +kernel) (pa_cons (pe_ix ix_tup (pv 0) pe_int (fun _ _ => rfl)) pa_nil)))))), ?_⟩
  have sa := SqT.of (K := K) ha
  have ly := TL.numL_len (n := y) (by decide) hy
  have lx := len_sg x hx
  have ln := TL.numL_len (by decide) hx
  refine ⟨fun σ' H' => H' = H ∧ σ' = [some (.ref a), some (.str (S ((if x < 0 then [45] else []) ++ TL.numL x.natAbs)))], ?_, ?_⟩
  · refine ⟨_, rfl, a, _, 0, _, rfl, rfl, sa, rfl, x, 0, rfl, rfl, _, rfl, ite2 (fun c => ?_) (fun c => ?_)⟩
    · have x0 : x < 0 := of_decide_eq_true c
      refine ⟨_, rfl, a, _, 0, _, rfl, rfl, sa, rfl, x, rfl, _, rfl, ?_, ?_⟩
      · rw [abs_nat, Int.natAbs_natCast]
        exact log60 hx
      rw [abs_nat, str_nat]
      refine ⟨S [45], _, rfl, rfl, ?_, ?_⟩
      · rw [S_len, S_len]
        exact Nat.le_trans (Nat.add_le_add_left ln _) (by decide)
      · rw [S_cat]
        exact ⟨rfl, by rw [if_pos x0]; rfl⟩
    · have x0 : ¬ x < 0 := of_decide_eq_false (Bool.eq_false_iff.mpr c)
      refine ⟨_, rfl, a, _, 0, _, rfl, rfl, sa, rfl, x, rfl, _, rfl, ?_, ?_⟩
      · rw [abs_nat, Int.natAbs_natCast]
        exact log60 hx
      rw [abs_nat, str_nat]
      refine ⟨S [], _, rfl, rfl, ?_, ?_⟩
      · rw [S_len, S_len]
        exact Nat.le_trans (Nat.add_le_add_left ln _) (by decide)
      · rw [S_cat]
        exact ⟨rfl, by rw [if_neg x0]; rfl⟩
  rintro σ' H' ⟨rfl, rfl⟩
  refine ⟨_, rfl, a, _, 1, _, rfl, rfl, sa, rfl, rfl, _, rfl, ite2 (fun c => ?_) (fun c => ?_)⟩
  · have y1 : y = 1 := by
      have := V.int.inj (of_decide_eq_true c)
      omega
    unfold wrL at q
    rw [if_pos y1, List.append_nil] at q
    exact ⟨_, rfl, q⟩
  · have y1 : ¬ y = 1 := fun z => of_decide_eq_false (Bool.eq_false_iff.mpr c) (congrArg V.int (by omega))
    refine ⟨_, rfl, _, S [47], rfl, rfl, ?_, ?_⟩
    · rw [S_len, S_len]
      exact Nat.le_trans (Nat.add_le_add_right lx _) (by decide)
    rw [S_cat]
    refine ⟨_, rfl, a, _, 1, _, rfl, rfl, sa, rfl, y, rfl, log60 (by rw [Int.natAbs_natCast]; exact hy), ?_⟩
    rw [str_nat]
    refine ⟨_, _, rfl, rfl, ?_, ?_⟩
    · rw [S_len, S_len, List.length_append]
      exact Nat.le_trans (Nat.add_le_add (Nat.add_le_add_right lx _) ly) (by decide)
    · rw [S_cat]
      have e : ((if x < 0 then [45] else []) ++ TL.numL x.natAbs ++ [47] ++ TL.numL y) = wrL x y := by
        unfold wrL
        rw [if_neg y1]
        simp
      rw [e]
      exact q
end
end Kr
end
section
set_option maxHeartbeats 4000000
namespace Kr
open PySem PySem.Spec PyProof.Rows L2 RZ SX
/-- both parts are there -/
def rdT (neg : Bool) (a b : List Nat) : Option (Int × Int) := if digB a = true ∧ digB b = true ∧ ¬ (neg = true ∧ a = [48]) ∧ 1 ≤ val b ∧ Nat.gcd (val a) (val b) = 1 then some (sg neg (val a), (val b : Int)) else none
theorem rdT_one (neg : Bool) (r : List Nat) : rd1 neg r = rdT neg r [49] := by
  unfold rd1 rdT
  have v1 : val [49] = 1 := rfl
  have d1 : digB [49] = true := by decide
  by_cases c : digB r = true ∧ ¬ (neg = true ∧ r = [48])
  · rw [if_pos c, if_pos ⟨c.1, d1, c.2, by rw [v1]; exact Nat.le_refl _, by rw [v1]; exact Nat.gcd_one_right _⟩, v1]
    rfl
  · rw [if_neg c, if_neg fun z => c ⟨z.1, z.2.2.1⟩]
theorem rdT_two {neg : Bool} {a b : List Nat} (h : b ≠ [49]) : rd2 neg a b = rdT neg a b := by
  unfold rd2 rdT
  by_cases c : digB a = true ∧ digB b = true ∧ ¬ (neg = true ∧ a = [48]) ∧ 1 ≤ val b ∧ Nat.gcd (val a) (val b) = 1
  · rw [if_pos c, if_pos ⟨h, c⟩]
  · rw [if_neg c, if_neg fun z => c z.2]
def spRead (K : PySem.W.Frag) : Sp := fun vs H Q _ => (∃ (l : List Nat) (o : Option (Int × Int)), vs = [.str (S l)] ∧ l.length ≤ 6000 ∧ RdS l o ∧ ∀ H' v, Same H H' → OutV H H' v o → Q v H') ∨
  (∃ (v : V) (T : Value), vs = [v] ∧ TyX K H v T ∧ PySem.W.kitOne K T (.type "str") = some false ∧ Q .non H)
abbrev nRd : List Str := ["text", "below_zero", "above", "slash", "below", "value"]
theorem kb_str : kitB "str" "str" = some true := by decide +kernel
theorem digs_int {l : List Nat} (h : digB l = true) : intText? (S l) = some ((val l : Nat) : Int) ∧ (S l).length ≤ 640 := by
  obtain ⟨h1, h2, h3, _⟩ := digB_all h
  exact ⟨int_S h1 h2 (by omega), by rw [S_len]; omega⟩
/-- the two parts of a text at its first / -/
theorem part_of {r : List Nat} {neg : Bool} {o : Option (Int × Int)} (h : (47 ∉ r ∧ o = rd1 neg r) ∨ ∃ a b, r = a ++ 47 :: b ∧ 47 ∉ a ∧ o = rd2 neg a b) (hl : r.length ≤ 6000) : ∃ a m b : List Nat, Txt.partition (S r) "/" = (S a, S m, S b) ∧ a.length ≤ 6000 ∧ b.length ≤ 6000 ∧
    ((m = [] ∧ o = rdT neg a [49]) ∨ (m = [47] ∧ ((b = [49] ∧ o = none) ∨ (b ≠ [49] ∧ o = rdT neg a b)))) := by
  rcases h with ⟨n, rfl⟩ | ⟨a, b, rfl, n, rfl⟩
  · exact ⟨r, [], [], partition_none (b := [47]) (by decide) (par_head_none n), hl, by decide, .inl ⟨rfl, rdT_one _ _⟩⟩
  · rw [List.length_append, List.length_cons] at hl
    refine ⟨a, [47], b, partition_some (b := [47]) (by decide) (par_head (sep := []) b n), by omega, by omega, .inr ⟨rfl, ?_⟩⟩
    by_cases c : b = [49]
    · refine .inl ⟨c, ?_⟩
      unfold rd2
      rw [if_neg fun z => z.1 c]
    · exact .inr ⟨c, rdT_two c⟩
section
variable {P : Program} {w : World} {K : PySem.W.Frag} {mg : Str → Option Value} {base : Heap} {f fD fI : Addr} {fd fdD fdI : FuncData}
theorem scRd : FnScope nRd ["text"] (defScope (top 32)) := ⟨rfl, rfl, rfl, by decide +kernel, rfl, by decide +kernel, by decide +kernel⟩
theorem ok_read (G : Fun K "read_fraction" "read_fraction" (top 32) f fd) (mI : mg "isinstance" = none) (ms : mg "str" = none) (mi : mg "int" = none)
    (GD : FnOk P w K mg base CX0 1 fD fdD ["text"] spDig) (bD : Binds K fdD ["text"] []) (kD : PySem.W.keepIn K (.ref fD) = true) (mD : mg "is_digits" = some (.ref fD))
    (GI : FnOk P w K mg base CX0 2 fI fdI ["value"] (spIsF K)) (bI : Binds K fdI ["value"] []) (kI : PySem.W.keepIn K (.ref fI) = true) (mF : mg "is_fraction" = some (.ref fI)) :
    FnOk P w K mg base CX0 3 f fd ["text"] (spRead K) := by
  refine G.ok scRd (fun vs H Q E h => ?_) (fun cdv A outer s H vs Q E hr h => ?_)
  · rcases h with ⟨l, o, rfl, _⟩ | ⟨v, T, rfl, _⟩ <;> rfl
  have hr1 := hr.mono (show 1 ≤ 2 by decide)
  refine ⟨_, pss_cons (ps_if (pt_not (pt_val (pe_callB call_isi rfl mI (by decide +kernel) (pa_cons (pv 0) (pa_cons (pe_bltn rfl ms boot_str (rel_ty _)) pa_nil))))) (pss_one (ps_ret pe_non)) pss_nil)
    (pss_cons (ps_set (i := 1) scRd.nd rfl (Or.inl rfl) (pe_starts (pv 0) pe_str))
    (C8.pss_cut (ps_asg (pe_partition (pe_ifExp (pt_val (pv 1)) (pe_slice C8.sl_txt (pv 0) (po_some pe_int) po_none) (pv 0)) pe_str) (pg_tup rfl (pgs_cons (pg_name (i := 2) scRd.nd rfl (Or.inl rfl)) (pgs_cons (pg_name (i := 3) scRd.nd rfl (Or.inl rfl)) (pgs_cons (pg_name (i := 4) scRd.nd rfl (Or.inl rfl)) pgs_nil)))))
    (C8.pss_cut (ps_if (pt_cmpR op_eq (pv 3) pe_str (nomark _)) (pss_one (ps_set (i := 4) scRd.nd rfl (Or.inl rfl) pe_str)) (pss_one (ps_if (pt_cmpR op_eq (pv 4) pe_str (nomark _)) (pss_one (ps_ret pe_non)) pss_nil)))
    (pss_cons (ps_if (PW.pt (pw_or (pt_not (pt_val (pe_call GD hr1 rfl mD kD bD .nil pass0 (pa_cons (pv 2) pa_nil)))) (pw_or1 (pt_not (pt_val (pe_call GD hr1 rfl mD kD bD .nil pass0 (pa_cons (pv 4) pa_nil))))))) (pss_one (ps_ret pe_non)) pss_nil)
    (C8.pss_cut (ps_if (PW.pt (pw_and (pt_val (pv 1)) (pw_and1 (pt_cmpR op_eq (pv 2) pe_str (nomark _))))) (pss_one (ps_ret pe_non)) pss_nil)
    (C8.pss_cut (ps_set (i := 5) scRd.nd rfl (Or.inl rfl) (pe_tup (pa_cons (pe_ifExp (pt_val (pv 1)) (pe_un un_neg (pe_callTy call_int_str rfl mi (by decide +kernel) (pa_cons (pv 2) pa_nil))) (pe_callTy call_int_str rfl mi (by decide +kernel) (pa_cons (pv 2) pa_nil))) (pa_cons (pe_callTy call_int_str rfl mi (by decide +kernel) (pa_cons (pv 4) pa_nil)) pa_nil))))
    (pss_one (ps_ret (pe_ifExp (pt_val (pe_call GI hr rfl mF kI bI .nil pass0 (pa_cons (pv 5) pa_nil))) (pv 5) pe_non))))))))), ?_⟩
  rcases h with ⟨l, o, rfl, hl, ⟨neg, r, hs, ho⟩, q⟩ | ⟨v, T, rfl, ty, k, q⟩
  · refine ⟨_, rfl, _, _, _, _, true, rfl, .ty _, .base (.str _), kit_ty kb_str, _, rfl, iteF ?_⟩
    refine ⟨_, rfl, ⟨_, rfl⟩, S l, _, rfl, rfl, ?_⟩
    have rl : r.length ≤ 6000 := by
      rcases hs with ⟨_, _, rfl⟩ | ⟨_, _, rfl⟩
      · rw [List.length_drop]
        omega
      · exact hl
    have rs : (S r).length ≤ sizeLine := by rw [S_len]; exact Nat.le_trans rl (by decide)
    have ls : (S l).length ≤ sizeLine := by rw [S_len]; exact Nat.le_trans hl (by decide)
    have e0 : Txt.startswith (S l) "-" = neg := by
      rw [show Txt.startswith (S l) "-" = decide (l.head? = some 45) from starts_one l 45]
      rcases hs with ⟨h1, rfl, _⟩ | ⟨h1, rfl, _⟩
      · exact decide_eq_true h1
      · exact decide_eq_false h1
    rw [e0]
    obtain ⟨a, m, b, ep, al, bl, hm⟩ := part_of ho rl
    refine ⟨fun σ' H' => Same H H' ∧ σ' = [some (.str (S l)), some (.bl neg), some (.str (S a)), some (.str (S m)), some (.str (S b)), none], ?_, ?_⟩
    · cases neg with
      | true =>
        have go : Txt.slice (S l) (some 1) none = S r := by
          rcases hs with ⟨_, _, rfl⟩ | ⟨_, z, _⟩
          · exact slice_from (by decide)
          · cases z
        refine ⟨_, rfl, _, rfl, iteT ⟨_, rfl, 1, rfl, S l, rfl, ls, ?_⟩⟩
        rw [go]
        refine ⟨⟨_, rfl⟩, S r, _, rfl, rfl, rfl, rs, fun p np => ?_⟩
        rw [ep]
        exact ⟨p, _, rfl, SqT.of upd_same, rfl, _, _, rfl, _, _, rfl, _, _, rfl, rfl, new_same np _, rfl⟩
      | false =>
        have go : r = l := by
          rcases hs with ⟨_, z, _⟩ | ⟨_, _, rfl⟩
          · cases z
          · rfl
        subst go
        refine ⟨_, rfl, _, rfl, iteF ⟨_, rfl, ⟨_, rfl⟩, S r, _, rfl, rfl, rfl, rs, fun p np => ?_⟩⟩
        rw [ep]
        exact ⟨p, _, rfl, SqT.of upd_same, rfl, _, _, rfl, _, _, rfl, _, _, rfl, rfl, new_same np _, rfl⟩
    rintro σ' H1 ⟨s1, rfl⟩
    refine ⟨fun σ' H' => Same H H' ∧ ∃ b' : List Nat, σ' = [some (.str (S l)), some (.bl neg), some (.str (S a)), some (.str (S m)), some (.str (S b')), none] ∧ b'.length ≤ 6000 ∧ o = rdT neg a b', ?_, ?_⟩
    · rcases hm with ⟨rfl, e⟩ | ⟨rfl, ⟨rfl, e⟩ | ⟨nb, e⟩⟩
      · exact ⟨_, rfl, rfl, _, rfl, iteT ⟨s1, [49], rfl, by decide, e⟩⟩
      · exact ⟨_, rfl, rfl, _, rfl, iteF ⟨_, rfl, rfl, _, rfl, iteT (q _ _ s1 (by rw [e]; rfl))⟩⟩
      · refine ⟨_, rfl, rfl, _, rfl, iteF ⟨_, rfl, rfl, _, rfl, ?_⟩⟩
        rw [show decide (V.str (S b) = V.str "1") = decide (b = [49]) from str_ne, decide_eq_false nb]
        exact iteF ⟨s1, b, rfl, bl, e⟩
    rintro σ' H2 ⟨s2, b', rfl, bl', rfl⟩
    refine ⟨_, rfl, a, rfl, al, fun H3 s3 => ⟨_, rfl, ?_⟩⟩
    have s3 := s2.trans s3
    by_cases ca : digB a = true
    · rw [ca]
      refine iteF ⟨_, rfl, b', rfl, bl', fun H4 s4 => ⟨_, rfl, ?_⟩⟩
      have s4 := s3.trans s4
      by_cases cb : digB b' = true
      · rw [cb]
        refine iteF ?_
        obtain ⟨ia, la⟩ := digs_int ca
        obtain ⟨ib, lb⟩ := digs_int cb
        refine ⟨fun σ' H' => H' = H4 ∧ σ' = [some (.str (S l)), some (.bl neg), some (.str (S a)), some (.str (S m)), some (.str (S b')), none] ∧ ¬ (neg = true ∧ a = [48]), ?_, ?_⟩
        · refine ⟨_, rfl, _, rfl, ?_⟩
          cases neg with
          | true =>
            refine iteT ⟨_, rfl, rfl, _, rfl, ?_⟩
            rw [show decide (V.str (S a) = V.str "0") = decide (a = [48]) from str_ne]
            by_cases c : a = [48]
            · rw [decide_eq_true c]
              refine iteT (q _ _ s4 ?_)
              unfold rdT
              rw [if_neg fun z => z.2.2.1 ⟨rfl, c⟩]
              rfl
            · rw [decide_eq_false c]
              exact iteF ⟨rfl, rfl, fun z => c z.2⟩
          | false => exact iteF (iteF ⟨rfl, rfl, fun z => nomatch z.1⟩)
        rintro σ' H5 ⟨rfl, rfl, nz⟩
        refine ⟨fun σ' H' => Same H5 H' ∧ ∃ t, σ' = [some (.str (S l)), some (.bl neg), some (.str (S a)), some (.str (S m)), some (.str (S b')), some (.ref t)] ∧ H5 t = none ∧ H' t = some (.tup [.int (sg neg (val a)), .int ((val b' : Nat) : Int)]), ?_, ?_⟩
        · refine ⟨_, rfl, _, rfl, ?_⟩
          cases neg with
          | true => exact iteT ⟨_, rfl, _, _, rfl, ia, la, _, rfl, _, rfl, _, _, rfl, ib, lb, (by show 2 ≤ sizeLine; decide), fun t nt => ⟨new_same nt _, t, rfl, nt, upd_same⟩⟩
          | false => exact iteF ⟨_, rfl, _, _, rfl, ia, la, _, rfl, _, _, rfl, ib, lb, (by show 2 ≤ sizeLine; decide), fun t nt => ⟨new_same nt _, t, rfl, nt, upd_same⟩⟩
        rintro σ' H6 ⟨s6, t, rfl, nt, ht⟩
        have s6 := s4.trans s6
        refine ⟨_, rfl, .ref t, _, rfl, .inr (.inr ⟨t, _, _, true, true, rfl, SqT.of ht, .base (.tup ht), wh_int _, wh_int _, .inr ⟨_, _, rfl, rfl, rfl, rfl, rfl⟩⟩), _, rfl, ?_⟩
        have eg : (decide (1 ≤ ((val b' : Nat) : Int)) && decide (Nat.gcd (sg neg (val a)).natAbs ((val b' : Nat) : Int).natAbs = 1)) = decide (1 ≤ val b' ∧ Nat.gcd (val a) (val b') = 1) := by
          rw [Bool.decide_and, Int.natAbs_natCast, show (sg neg (val a)).natAbs = val a by unfold sg; split <;> omega]
          congr 1
          exact decide_eq_decide.mpr (by omega)
        rw [eg]
        by_cases c : 1 ≤ val b' ∧ Nat.gcd (val a) (val b') = 1
        · rw [decide_eq_true c]
          refine iteT ⟨_, rfl, q _ _ s6 ?_⟩
          unfold rdT
          rw [if_pos ⟨ca, cb, nz, c⟩]
          exact ⟨t, rfl, s4.free nt, ht⟩
        · rw [decide_eq_false c]
          refine iteF (q _ _ s6 ?_)
          unfold rdT
          rw [if_neg fun z => c z.2.2.2]
          rfl
      · rw [Bool.eq_false_iff.mpr cb]
        refine iteT (q _ _ s4 ?_)
        unfold rdT
        rw [if_neg fun z => cb z.2.1]
        rfl
    · rw [Bool.eq_false_iff.mpr ca]
      refine iteT (q _ _ s3 ?_)
      unfold rdT
      rw [if_neg fun z => ca z.1]
      rfl
  · exact ⟨_, rfl, v, _, T, _, false, rfl, .ty _, ty, k, _, rfl, iteT q⟩
end
end Kr
end
section
set_option maxHeartbeats 4000000
namespace Kr
open PySem PySem.Spec PyProof.Rows L2 RZ SX
theorem low_fix {u l : Int} (hl : 1 ≤ l) : (decide (lowU u l = u) && decide (lowL u l = l)) = decide (Nat.gcd u.natAbs l.natAbs = 1) := by
  have l0 : l ≠ 0 := by omega
  by_cases g : Nat.gcd u.natAbs l.natAbs = 1
  · have e : gS u l = 1 := by
      unfold gS
      rw [if_neg (by omega), g]
      rfl
    have e1 : lowU u l = u := by unfold lowU; rw [e]; simp
    have e2 : lowL u l = l := by unfold lowL; rw [e]; simp
    rw [e1, e2, decide_eq_true g]
    simp
  · rw [decide_eq_false g]
    have o := low_ok (p := u) (q := l) (n := max (u.natAbs) (l.natAbs) + 1) l0 (by omega) (by omega)
    rw [Bool.and_eq_false_iff]
    by_cases e1 : lowU u l = u
    · by_cases e2 : lowL u l = l
      · rw [e1, e2] at o
        exact absurd o.2.2.2 g
      · exact .inr (decide_eq_false e2)
    · exact .inl (decide_eq_false e1)
theorem fold_lt : ∀ (r : List Nat) (a : Nat), r.all isDg = true → r.foldl (fun acc c => acc * 10 + (c - 48)) a < (a + 1) * 10 ^ r.length
  | [], a, _ => by simp
  | c :: r, a, h => by
    rw [List.all_cons, Bool.and_eq_true] at h
    obtain ⟨h1, h2⟩ := h
    unfold isDg at h1
    rw [Bool.and_eq_true, decide_eq_true_eq, decide_eq_true_eq] at h1
    have z := fold_lt r (a * 10 + (c - 48)) h2
    rw [List.foldl_cons, List.length_cons, Nat.pow_succ]
    refine Nat.lt_of_lt_of_le z ?_
    rw [Nat.mul_comm (10 ^ r.length) 10, ← Nat.mul_assoc]
    exact Nat.mul_le_mul_right _ (by omega)
theorem val_lt {l : List Nat} (h : digB l = true) : val l < 10 ^ 60 := by
  obtain ⟨h1, _, h3, _⟩ := digB_all h
  have z := fold_lt l 0 h1
  rw [Nat.zero_add, Nat.one_mul] at z
  exact Nat.lt_of_lt_of_le z (Nat.pow_le_pow_right (by decide) h3)
theorem spl_len (b : List Nat) : ∀ (l acc : List Nat), 1 ≤ (TL.spl b 0 acc l).length := by
  intro l acc
  cases l with
  | nil => rw [TL.spl_nil]; simp
  | cons c r =>
    by_cases h : TL.pre b (c :: r) = true
    · rw [TL.spl_hit h]
      simp
    · rw [TL.spl_miss (Bool.eq_false_iff.mpr h)]
      exact spl_len b r (acc ++ [c])
termination_by l => l.length
/-- the parts, and what they say -/
theorem parts_of {r : List Nat} {neg : Bool} {o : Option (Int × Int)} (h : (47 ∉ r ∧ o = rd1 neg r) ∨ ∃ a b, r = a ++ 47 :: b ∧ 47 ∉ a ∧ o = rd2 neg a b) :
    (Txt.split (S r) "/" = [S r] ∧ o = rd1 neg r) ∨ (∃ a b, Txt.split (S r) "/" = [S a, S b] ∧ o = rd2 neg a b ∧ a.length ≤ r.length ∧ b.length ≤ r.length) ∨ (2 < (Txt.split (S r) "/").length ∧ o = none) := by
  have sp : Txt.split (S r) "/" = (TL.spl [47] 0 [] r).map S := split_S (b := [47]) (by decide) (by decide)
  rcases h with ⟨n, rfl⟩ | ⟨a, b, rfl, n, rfl⟩
  · left
    rw [sp, TL.spl_last1 n]
    exact ⟨rfl, rfl⟩
  · right
    have e : TL.spl [47] 0 [] (a ++ 47 :: b) = a :: TL.spl [47] 0 [] b := TL.spl_part1 (S := []) (acc := []) n
    by_cases c : 47 ∈ b
    · right
      obtain ⟨b1, b2, rfl, n2⟩ := List.eq_append_cons_of_mem c
      refine ⟨?_, ?_⟩
      · have e2 : TL.spl [47] 0 [] (b1 ++ 47 :: b2) = b1 :: TL.spl [47] 0 [] b2 := TL.spl_part1 (S := []) (acc := []) n2
        rw [sp, e, e2, List.length_map, List.length_cons, List.length_cons]
        have := spl_len [47] b2 []
        omega
      · unfold rd2
        rw [if_neg]
        intro z
        have y := (digB_all z.2.2.1).1
        have y := List.all_eq_true.mp y 47 c
        exact absurd y (by decide)
    · left
      refine ⟨a, b, ?_, rfl, by simp, by simp; omega⟩
      rw [sp, e, TL.spl_last1 c]
      rfl
abbrev nLR2 : List Str := ["_law_thing", "_law_word", "_law_parts", "_law_p", "_law_q", "_law_part"]
section
variable {P : Program} {w : World} {K : PySem.W.Frag} {mg : Str → Option Value} {base : Heap} {f fD fL : Addr} {fd fdD fdL : FuncData}
theorem scLR2 : FnScope nLR2 ["_law_thing"] (defScope (top 86)) := ⟨rfl, rfl, rfl, by decide +kernel, rfl, by decide +kernel, by decide +kernel⟩
theorem ok_lread (G : Fun K "_law_read" "_law_read" (top 86) f fd) (mI : mg "isinstance" = none) (ms : mg "str" = none) (mi : mg "int" = none) (mn : mg "len" = none) (ma : mg "all" = none)
    (GD : FnOk P w K mg base CX0 1 fD fdD ["_law_word"] spDig) (bD : Binds K fdD ["_law_word"] []) (kD : PySem.W.keepIn K (.ref fD) = true) (mD : mg "_law_digits" = some (.ref fD))
    (GL : FnOk P w K mg base CX0 1 fL fdL ["_law_p", "_law_q"] spLow) (bL : Binds K fdL ["_law_p", "_law_q"] []) (kL : PySem.W.keepIn K (.ref fL) = true) (mL : mg "_law_low" = some (.ref fL)) :
    FnOk P w K mg base CX0 2 f fd ["_law_thing"] (spRead K) := by
  refine G.ok scLR2 (fun vs H Q E h => ?_) (fun cdv A outer s H vs Q E hr h => ?_)
  · rcases h with ⟨l, o, rfl, _⟩ | ⟨v, T, rfl, _⟩ <;> rfl
  refine ⟨_, pss_cons (ps_if (pt_not (pt_val (pe_callB call_isi rfl mI (by decide +kernel) (pa_cons (pv 0) (pa_cons (pe_bltn rfl ms boot_str (rel_ty _)) pa_nil))))) (pss_one (ps_ret pe_non)) pss_nil)
    (C8.pss_cut (ps_set (i := 1) scLR2.nd rfl (Or.inl rfl) (pe_ifExp (pt_cmpR op_eq (pe_slice C8.sl_txt (pv 0) po_none (po_some pe_int)) pe_str (nomark _)) (pe_slice C8.sl_txt (pv 0) (po_some pe_int) po_none) (pv 0)))
    (pss_cons (ps_set (i := 2) scLR2.nd rfl (Or.inl rfl) (pe_split (pv 1) pe_str))
    (C8.pss_cut (ps_if (PW.pt (pw_or (pt_cmpR op_gt (pe_callB call_len_seq rfl mn PySem.boot_len (pa_cons (pv 2) pa_nil)) pe_int (nomark _)) (pw_or1 (pt_not (pt_val (pe_callB (cr_all rfl) rfl ma (by decide +kernel) (pa_cons (pe_lc (own := [("_law_part", 5)]) (g := gName 5) (tt := tYes) rfl scLR2.nd (pi_list (pv 2)) (blkOk_by (N := nLR2) (sc := defScope (top 86)) (by decide +kernel)) (fun _ _ _ _ _ => pg_name (i := 5) scLR2.nd rfl (Or.inl rfl)) (fun _ _ _ _ _ => pts_nil)
        (fun _ _ _ _ _ => pe_call GD hr rfl mD kD bD .nil pass0 (pa_cons (pv 5) pa_nil))) pa_nil))))))) (pss_one (ps_ret pe_non)) pss_nil)
    (C8.pss_cut (ps_par (i := 3) (j := 4) rfl scLR2.nd rfl rfl (by decide) rfl rfl (pa_cons (pe_callTy call_int_str rfl mi (by decide +kernel) (pa_cons (pe_ix ix_list (pv 2) pe_int (fun _ _ => rfl)) pa_nil)) (pa_cons (pe_ifExp (pt_cmpR op_eq (pe_callB call_len_seq rfl mn PySem.boot_len (pa_cons (pv 2) pa_nil)) pe_int (nomark _)) (pe_callTy call_int_str rfl mi (by decide +kernel) (pa_cons (pe_ix ix_list (pv 2) pe_int (fun _ _ => rfl)) pa_nil)) pe_int) pa_nil)) rfl)
    (C8.pss_cut (ps_if (PW.pt (pw_and (pt_cmpR op_eq (pe_callB call_len_seq rfl mn PySem.boot_len (pa_cons (pv 2) pa_nil)) pe_int (nomark _)) (pw_and1 (PW.pt (pw_or (pt_cmpR op_lt (pv 4) pe_int (nomark _)) (pw_or1 (pt_cmpR (op_neD hr.units) (pe_call GL hr rfl mL kL bL .nil pass0 (pa_cons (pv 3) (pa_cons (pv 4) pa_nil))) (pe_tup (pa_cons (pv 3) (pa_cons (pv 4) pa_nil))) (nomark _)))))))) (pss_one (ps_ret pe_non)) pss_nil)
    (C8.pss_cut (ps_if (PW.pt (pw_and (pt_cmpR op_eq (pv 3) pe_int (nomark _)) (pw_and1 (pt_cmpR op_ne (pv 1) (pv 0) (nomark _))))) (pss_one (ps_ret pe_non)) pss_nil)
    (pss_one (ps_ret (pe_ifExp (pt_cmpR op_eq (pv 1) (pv 0) (nomark _)) (pe_tup (pa_cons (pv 3) (pa_cons (pv 4) pa_nil))) (pe_tup (pa_cons (pe_un un_neg (pv 3)) (pa_cons (pv 4) pa_nil)))))))))))), ?_⟩
  rcases h with h | h
  case inr =>
    obtain ⟨v, T, rfl, ty, k, q⟩ := h
    exact ⟨_, rfl, v, _, T, _, false, rfl, .ty _, ty, k, _, rfl, iteT q⟩
  obtain ⟨l, o, rfl, hl, ⟨neg, r, hs, ho⟩, q⟩ := h
  refine ⟨_, rfl, _, _, _, _, true, rfl, .ty _, .base (.str _), kit_ty kb_str, _, rfl, iteF ?_⟩
  have rl : r.length ≤ 6000 := by
    rcases hs with ⟨_, _, rfl⟩ | ⟨_, _, rfl⟩
    · rw [List.length_drop]
      omega
    · exact hl
  have rs : (S r).length + 2 ≤ sizeLine := by rw [S_len]; exact Nat.le_trans (Nat.add_le_add_right rl 2) (by decide)
  have ls : (S l).length ≤ sizeLine := by rw [S_len]; exact Nat.le_trans hl (by decide)
  refine ⟨fun σ' H' => H' = H ∧ σ' = [some (.str (S l)), some (.str (S r)), none, none, none, none], ?_, ?_⟩
  · refine ⟨_, rfl, 1, rfl, S l, rfl, ls, rfl, _, rfl, ?_⟩
    rw [show Txt.slice (S l) none (some 1) = S (l.take 1) from slice_to (by decide), show decide (V.str (S (l.take 1)) = V.str "-") = decide (l.take 1 = [45]) from str_ne]
    rcases hs with ⟨h1, rfl, rfl⟩ | ⟨h1, rfl, rfl⟩
    · have e : l.take 1 = [45] := by
        cases l with
        | nil => cases h1
        | cons c t => rw [Option.some.inj h1]; rfl
      rw [decide_eq_true e]
      refine iteT ⟨_, rfl, 1, rfl, S l, rfl, ls, rfl, ?_⟩
      rw [show Txt.slice (S l) (some 1) none = S (l.drop 1) from slice_from (by decide)]
      rfl
    · have e : ¬ r.take 1 = [45] := fun z => h1 (by
        cases r with
        | nil => cases z
        | cons c t => exact congrArg some (List.cons.inj z).1)
      rw [decide_eq_false e]
      exact iteF ⟨_, rfl, rfl, rfl⟩
  rintro σ' H0 ⟨rfl, rfl⟩
  have wl : decide (V.str (S r) = V.str (S l)) = !neg := by
    rw [str_ne]
    rcases hs with ⟨h1, rfl, rfl⟩ | ⟨h1, rfl, rfl⟩
    · refine decide_eq_false fun z => ?_
      have := congrArg List.length z
      cases l with
      | nil => cases h1
      | cons c t => simp at this
    · exact decide_eq_true rfl
  refine ⟨_, rfl, ⟨_, rfl⟩, S r, _, rfl, rfl, rfl, rs, fun pp npp => ?_⟩
  have s1 := new_same npp (.lst ((Txt.split (S r) "/").map V.str))
  have hp : upd H0 pp (.lst ((Txt.split (S r) "/").map V.str)) pp = some (.lst ((Txt.split (S r) "/").map V.str)) := upd_same
  generalize upd H0 pp (.lst ((Txt.split (S r) "/").map V.str)) = H1 at s1 hp
  refine ⟨fun σ' H' => Same H0 H' ∧ σ' = [some (.str (S l)), some (.str (S r)), some (.ref pp), none, none, none] ∧ ∃ ps : List (List Nat), H' pp = some (.lst ((ps.map S).map V.str)) ∧ ((ps = [r] ∧ digB r = true ∧ o = rd1 neg r) ∨ ∃ a b, ps = [a, b] ∧ digB a = true ∧ digB b = true ∧ o = rd2 neg a b), ?_, ?_⟩
  · have two : (2 < (Txt.split (S r) "/").length ∧ o = none) ∨ ∃ ps : List (List Nat), Txt.split (S r) "/" = ps.map S ∧ ps.length ≤ 2 ∧ (∀ p ∈ ps, p.length ≤ 6000) ∧ ((ps = [r] ∧ o = rd1 neg r) ∨ ∃ a b, ps = [a, b] ∧ o = rd2 neg a b) := by
      rcases parts_of ho with ⟨e, e2⟩ | ⟨a, b, e, e2, la, lb⟩ | e
      · exact .inr ⟨[r], e, by simp, fun p hp => by rw [List.mem_singleton.mp hp]; exact rl, .inl ⟨rfl, e2⟩⟩
      · refine .inr ⟨[a, b], e, by simp, fun p hp => ?_, .inr ⟨a, b, rfl, e2⟩⟩
        rcases List.mem_cons.mp hp with rfl | hp
        · omega
        · rw [List.mem_singleton.mp hp]
          omega
      · exact .inl e
    refine ⟨_, rfl, pp, _, rfl, .inl (SqL.of hp), _, 2, rfl, rfl, _, rfl, ?_⟩
    rcases two with ⟨t1, rfl⟩ | ⟨ps, ep, pl, pb, pc⟩
    · rw [List.length_map, decide_eq_true (show (2 : Int) < ((Txt.split (S r) "/").length : Nat) by omega)]
      exact iteT (q _ _ s1 rfl)
    rw [ep] at hp ⊢
    rw [List.length_map, List.length_map, decide_eq_false (show ¬ (2 : Int) < (ps.length : Nat) by omega)]
    refine iteF ⟨_, rfl, pp, rfl, ⟨_, SqL.of hp⟩, fun D nD => ?_⟩
    refine lc_list (K := K) (a := pp) (xs := (ps.map S).map V.str) (fun i H2 => Same H1 H2 ∧ H2 D = some (.lst (((ps.take i).map digB).map V.bl))) ⟨new_same nD _, upd_same⟩ (fun i H' _ h => SqL.of (h.1 _ _ hp)) ?_ ?_
    · rintro i x H2 hx ⟨g, hD⟩
      obtain ⟨p, hpi, rfl⟩ : ∃ p, ps[i]? = some p ∧ x = .str (S p) := by
        rw [List.getElem?_map, List.getElem?_map] at hx
        cases e : ps[i]? with
        | none => rw [e] at hx; cases hx
        | some p => rw [e] at hx; exact ⟨p, rfl, (Option.some.inj hx).symm⟩
      refine ⟨rfl, yesT ⟨_, rfl, p, rfl, pb p (List.mem_of_getElem? hpi), fun H3 s3 => ?_⟩⟩
      refine ⟨_, s3 _ _ hD, small1000 (by rw [List.length_map, List.length_map, List.length_take]; omega), fun e o h => by rw [upd_ne (ne_of_none h nD)]; exact s3 _ _ (g _ _ h), ?_⟩
      rw [upd_same, List.take_add_one, hpi, List.map_append, List.map_append]
      rfl
    · rintro H2 ⟨g, hD⟩
      rw [List.length_map, List.length_map, List.take_length] at hD
      refine ⟨D, ps.map digB, rfl, SqL.of hD, _, rfl, ?_⟩
      by_cases c : (ps.map digB).all id = true
      · rw [c]
        refine iteF ⟨s1.trans g, rfl, ps, g _ _ hp, ?_⟩
        rcases pc with ⟨rfl, e⟩ | ⟨a, b, rfl, e⟩
        · exact .inl ⟨rfl, by simpa using c, e⟩
        · have c : digB a = true ∧ digB b = true := by simpa using c
          exact .inr ⟨a, b, rfl, c.1, c.2, e⟩
      · rw [Bool.eq_false_iff.mpr c]
        refine iteT (q _ _ (s1.trans g) ?_)
        rcases pc with ⟨rfl, rfl⟩ | ⟨a, b, rfl, rfl⟩
        · unfold rd1
          rw [if_neg fun z => c (by simpa using z.1)]
          rfl
        · unfold rd2
          rw [if_neg fun z => c (by simpa using ⟨z.2.1, z.2.2.1⟩)]
          rfl
  rintro σ' H2 ⟨s2, rfl, ps, hp2, pc⟩
  refine ⟨fun σ' H' => H' = H2 ∧ ∃ p y : Nat, σ' = [some (.str (S l)), some (.str (S r)), some (.ref pp), some (.int (p : Nat)), some (.int (y : Nat)), none] ∧ y < 10 ^ 60 ∧
      ((ps.length = 1 ∧ y = 1 ∧ o = (if ¬ (neg = true ∧ p = 0) then some (sg neg p, 1) else none)) ∨ (ps.length = 2 ∧ o = (if (2 ≤ y ∧ Nat.gcd p y = 1) ∧ ¬ (neg = true ∧ p = 0) then some (sg neg p, (y : Int)) else none))), ?_, ?_⟩
  · have sl := SqL.of (K := K) hp2
    rcases pc with ⟨rfl, dr, e⟩ | ⟨a, b, rfl, da, db, e⟩
    · obtain ⟨ir, lr⟩ := digs_int dr
      refine ⟨_, rfl, pp, _, 0, _, rfl, rfl, sl, rfl, S r, _, rfl, ir, lr, ?_⟩
      refine ⟨_, rfl, pp, _, rfl, .inl sl, rfl, _, rfl, iteF ?_⟩
      refine ⟨_, _, rfl, rfl, val r, 1, rfl, by decide, .inl ⟨rfl, rfl, ?_⟩⟩
      rw [e]
      unfold rd1
      by_cases c : neg = true ∧ r = [48]
      · rw [if_neg fun z => z.2 c, if_neg fun z => z ⟨c.1, (val_zero dr).mpr c.2⟩]
      · rw [if_pos ⟨dr, c⟩, if_pos fun z => c ⟨z.1, (val_zero dr).mp z.2⟩]
    · obtain ⟨ia, la⟩ := digs_int da
      obtain ⟨ib, lb⟩ := digs_int db
      refine ⟨_, rfl, pp, _, 0, _, rfl, rfl, sl, rfl, S a, _, rfl, ia, la, ?_⟩
      refine ⟨_, rfl, pp, _, rfl, .inl sl, rfl, _, rfl, iteT ?_⟩
      refine ⟨_, rfl, pp, _, 1, _, rfl, rfl, sl, rfl, S b, _, rfl, ib, lb, ?_⟩
      refine ⟨_, _, rfl, rfl, val a, val b, rfl, val_lt db, .inr ⟨rfl, ?_⟩⟩
      rw [e]
      unfold rd2
      by_cases c : (2 ≤ val b ∧ Nat.gcd (val a) (val b) = 1) ∧ ¬ (neg = true ∧ val a = 0)
      · rw [if_pos c, if_pos ⟨fun z => by have := (val_one db).mpr z; omega, da, db, fun z => c.2 ⟨z.1, (val_zero da).mpr z.2⟩, by omega, c.1.2⟩]
      · rw [if_neg c, if_neg]
        rintro ⟨z1, _, _, z4, z5, z6⟩
        refine c ⟨⟨?_, z6⟩, fun z => z4 ⟨z.1, (val_zero da).mp z.2⟩⟩
        have : val b ≠ 1 := fun z => z1 ((val_one db).mp z)
        omega
  rintro σ' H3 ⟨rfl, p, y, rfl, yl, hc⟩
  have sl := SqL.of (K := K) hp2
  refine ⟨fun σ' H' => Same H0 H' ∧ σ' = [some (.str (S l)), some (.str (S r)), some (.ref pp), some (.int (p : Nat)), some (.int (y : Nat)), none] ∧ o = (if ¬ (neg = true ∧ p = 0) then some (sg neg p, (y : Int)) else none), ?_, ?_⟩
  · refine ⟨_, rfl, pp, _, rfl, .inl sl, rfl, _, rfl, ?_⟩
    rw [List.length_map, List.length_map]
    rcases hc with ⟨l1, rfl, e⟩ | ⟨l2, e⟩
    · rw [l1]
      exact iteF ⟨s2, rfl, e⟩
    · rw [l2]
      refine iteT ⟨_, rfl, y, 2, rfl, rfl, _, rfl, ite2 (fun c => ?_) (fun c => ?_)⟩
      · have c : ((y : Nat) : Int) < 2 := of_decide_eq_true c
        refine iteT (q _ _ s2 ?_)
        rw [e, if_neg fun z => by omega]
        rfl
      · have c : ¬ ((y : Nat) : Int) < 2 := of_decide_eq_false (Bool.eq_false_iff.mpr c)
        have y2 : 2 ≤ y := by omega
        refine ⟨_, rfl, _, rfl, p, y, rfl, by omega, Nat.lt_trans (log60 (by rw [Int.natAbs_natCast]; exact yl)) (by decide), fun t nt => ⟨_, rfl, _, rfl, (by show 2 ≤ sizeLine; decide), fun t2 nt2 => ?_⟩⟩
        have g1 := new_same nt (.tup [.int (lowU p y), .int (lowL p y)])
        have g2 := new_same nt2 (.tup [.int (p : Nat), .int (y : Nat)])
        refine ⟨.tuple [.int (lowU p y), .int (lowL p y)], .tuple [.int (p : Nat), .int (y : Nat)], .tup (SqT.of (g2 _ _ upd_same)) (.cons (.int _) (.cons (.int _) .nil)), .tup (SqT.of upd_same) (.cons (.int _) (.cons (.int _) .nil)), rfl, rfl, ?_⟩
        have ev : PyData.eqv (.tuple [.int (lowU p y), .int (lowL p y)]) (.tuple [.int (p : Nat), .int (y : Nat)]) = decide (Nat.gcd p y = 1) := by
          have z := low_fix (u := (p : Nat)) (l := (y : Nat)) (by omega)
          rw [Int.natAbs_natCast, Int.natAbs_natCast] at z
          rw [← z]
          simp only [PyData.eqv, PyData.eqvAll, Bool.and_true]
          rw [Bool.beq_eq_decide_eq, Bool.beq_eq_decide_eq]
        rw [ev]
        have g := s2.trans (g1.trans g2)
        by_cases cg : Nat.gcd p y = 1
        · rw [decide_eq_true cg]
          refine ⟨_, rfl, iteF ⟨g, rfl, ?_⟩⟩
          rw [e]
          by_cases cn : ¬ (neg = true ∧ p = 0)
          · rw [if_pos ⟨⟨y2, cg⟩, cn⟩, if_pos cn]
          · rw [if_neg fun z => cn z.2, if_neg cn]
        · rw [decide_eq_false cg]
          refine ⟨_, rfl, iteT (q _ _ g ?_)⟩
          rw [e, if_neg fun z => cg z.1.2]
          rfl
  rintro σ' H4 ⟨s4, rfl, e⟩
  refine ⟨fun σ' H' => H' = H4 ∧ σ' = [some (.str (S l)), some (.str (S r)), some (.ref pp), some (.int (p : Nat)), some (.int (y : Nat)), none] ∧ o = some (sg neg p, (y : Int)), ?_, ?_⟩
  · refine ⟨_, rfl, rfl, _, rfl, ite2 (fun c => ?_) (fun c => ?_)⟩
    · have p0 : p = 0 := by
        have := V.int.inj (of_decide_eq_true c)
        omega
      refine ⟨_, rfl, _, rfl, rfl, _, rfl, ?_⟩
      rw [wl]
      cases neg with
      | true =>
        refine iteT (q _ _ s4 ?_)
        rw [e, if_neg fun z => z ⟨rfl, p0⟩]
        rfl
      | false => exact iteF ⟨rfl, rfl, by rw [e, if_pos fun z => nomatch z.1]⟩
    · have p0 : ¬ p = 0 := fun z => of_decide_eq_false (Bool.eq_false_iff.mpr c) (congrArg V.int (by omega))
      exact iteF ⟨rfl, rfl, by rw [e, if_pos fun z => p0 z.2]⟩
  rintro σ' H5 ⟨rfl, rfl, rfl⟩
  refine ⟨_, rfl, _, rfl, rfl, _, rfl, ?_⟩
  rw [wl]
  cases neg with
  | true => exact iteF ⟨_, rfl, _, rfl, _, rfl, (by show 2 ≤ sizeLine; decide), fun t nt => q _ _ (s4.trans (new_same nt _)) ⟨t, rfl, s4.free nt, upd_same⟩⟩
  | false => exact iteT ⟨_, rfl, _, rfl, (by show 2 ≤ sizeLine; decide), fun t nt => q _ _ (s4.trans (new_same nt _)) ⟨t, rfl, s4.free nt, upd_same⟩⟩
end
end Kr
end
section
set_option maxHeartbeats 4000000
namespace Kr
open PySem PySem.Spec PyProof.Rows L2 RZ SX
theorem len_app (a b : Str) : (a ++ b).length = a.length + b.length := by
  rw [TL.len_tl, TL.len_tl, TL.len_tl, TL.tl_append, List.length_append]
theorem op_mul_str {X : Cx} : OpR X (binaryOp .Mult) (fun x y H Q => ∃ z n, x = .str z ∧ y = .int n ∧ MulOk z n ∧ Q (.str (Txt.mul z n)) H) := by
  intro pins s σ H x y v u Q I rx ry h
  obtain ⟨z, n, rfl, rfl, hz, q⟩ := h
  obtain ⟨t, rfl⟩ := rx
  obtain ⟨t', rfl⟩ := ry
  exact SB.mul hz (fun t' tk => ⟨.str (Txt.mul z n), H, I.tok _, ⟨_, rfl⟩, q⟩)
theorem fold_size (c : Nat) : ∀ (n : Nat) (acc : Array Nat), ((List.replicate n #[c]).foldl (· ++ ·) acc).size = acc.size + n
  | 0, acc => by simp
  | n + 1, acc => by
    rw [List.replicate_succ, List.foldl_cons, fold_size c n, Array.size_append]
    show acc.size + 1 + n = acc.size + (n + 1)
    omega
theorem mul_len (c : Nat) {n : Int} (h : n ≤ 5000) : (Txt.mul ⟨#[c]⟩ n).length ≤ 5000 := by
  unfold Txt.mul
  split
  · exact Nat.zero_le _
  · split
    · exact (by decide : 1 ≤ 5000)
    · show ((List.replicate n.toNat #[c]).foldl (· ++ ·) #[]).size ≤ 5000
      rw [fold_size]
      show 0 + n.toNat ≤ 5000
      omega
theorem mul_ok (c : Nat) {n : Int} (h0 : 0 ≤ n) (h : n ≤ 5000) : MulOk ⟨#[c]⟩ n := by
  refine ⟨?_, fun h1 _ => ?_, fun h1 _ => ?_⟩
  · rw [decide_eq_false (by omega), decide_eq_false (by omega)]
    rfl
  · show ¬ ((1 : Nat) : Int) > (2 ^ 63 - 1) / n
    have : (1 : Int) ≤ (2 ^ 63 - 1) / n := (Int.le_ediv_iff_mul_le (by omega)).mpr (by omega)
    omega
  · show Builtin.Str.tooLong (1 * n.toNat) = false
    unfold Builtin.Str.tooLong
    have sz : sizeLine = 16777216 := by decide
    exact decide_eq_false (by omega)
/-- a fraction in lowest terms, of at most 60 digits -/
def FrS (H : Hp) (t : Addr) (x : Int) (y : Nat) : Prop := H t = some (.tup [.int x, .int (y : Nat)]) ∧ x.natAbs < 10 ^ 60 ∧ y < 10 ^ 60 ∧ 0 < y ∧ Nat.gcd x.natAbs y = 1
def spText : Sp := fun vs H Q _ => ∃ (B p t : Addr) (x : Int) (y : Nat), vs = [.ref B, .ref t] ∧ Bag H B p ∧ FrS H t x y ∧ ∀ H' z, Bag H' B p → But B H H' → z.length ≤ 6000 → Q (.str z) H'
def strB : V → Bool
  | .str z => decide (z.length ≤ 6000)
  | _ => false
theorem strB_of {x : V} (h : strB x = true) : ∃ z, x = .str z ∧ z.length ≤ 6000 := by
  cases x with
  | str z => exact ⟨z, rfl, of_decide_eq_true h⟩
  | _ => cases h
abbrev nTe : List Str := ["_law_bag_here", "_law_a", "_law_word", "_law_spot", "_law_pick", "_law_sign", "_law_size", "_law_some"]
section
variable {P : Program} {w : World} {K : PySem.W.Frag} {mg : Str → Option Value} {base : Heap} {f fD fO fW : Addr} {fd fdD fdO fdW : FuncData}
theorem scTe : FnScope nTe ["_law_bag_here", "_law_a"] (defScope (top 88)) := ⟨rfl, rfl, rfl, by decide +kernel, rfl, by decide +kernel, by decide +kernel⟩
theorem ok_ltext (G : Fun K "_law_text" "_law_text" (top 88) f fd) (mn : mg "len" = none)
    (GD : FnOk P w K mg base CX0 1 fD fdD ["_law_bag_here", "_law_limit"] spDraw) (bD : Binds K fdD ["_law_bag_here", "_law_limit"] []) (kD : PySem.W.keepIn K (.ref fD) = true) (mD : mg "_law_draw" = some (.ref fD))
    (GO : FnOk P w K mg base CX0 2 fO fdO ["_law_bag_here", "_law_things"] spOfL) (GS : FnOk P w K mg base CX0 2 fO fdO ["_law_bag_here", "_law_things"] spOfS) (bO : Binds K fdO ["_law_bag_here", "_law_things"] []) (kO : PySem.W.keepIn K (.ref fO) = true) (mO : mg "_law_of" = some (.ref fO))
    (GW : FnOk P w K mg base CX0 1 fW fdW ["_law_a"] spTxt) (bW : Binds K fdW ["_law_a"] []) (kW : PySem.W.keepIn K (.ref fW) = true) (mW : mg "_law_written" = some (.ref fW)) :
    FnOk P w K mg base CX0 3 f fd ["_law_bag_here", "_law_a"] spText := by
  refine G.ok scTe (fun vs H Q E h => ?_) (fun cdv A outer s H vs Q E hr h => ?_)
  · obtain ⟨B, p, t, x, y, rfl, _⟩ := h
    rfl
  obtain ⟨B, p, t, x, y, rfl, hb, ⟨ht, hx, hy, y0, hg⟩, q⟩ := h
  have hr1 := hr.mono (show 1 ≤ 2 by decide)
  refine ⟨_, pss_cons (ps_set (i := 2) scTe.nd rfl (Or.inl rfl) (pe_call GW hr1 rfl mW kW bW .nil pass0 (pa_cons (pv 1) pa_nil)))
    (pss_cons (ps_set (i := 3) scTe.nd rfl (Or.inl rfl) (pe_call GD hr1 rfl mD kD bD .nil pass0 (pa_cons (pv 0) (pa_cons (pe_op op_add (pe_callB call_len_str rfl mn PySem.boot_len (pa_cons (pv 2) pa_nil)) pe_int) pa_nil))))
    (pss_cons (ps_set (i := 4) scTe.nd rfl (Or.inl rfl) (pe_call GD hr1 rfl mD kD bD .nil pass0 (pa_cons (pv 0) (pa_cons pe_int pa_nil))))
    (pss_cons (ps_if (pt_cmpR op_lt (pv 4) pe_int (nomark _)) (pss_one (ps_ret (pv 2))) pss_nil)
    (pss_cons (ps_set (i := 5) scTe.nd rfl (Or.inl rfl) (pe_call GS hr rfl mO kO bO .nil pass0 (pa_cons (pv 0) (pa_cons pe_str pa_nil))))
    (pss_cons (ps_if (pt_cmpR op_eq (pv 4) pe_int (nomark _)) (pss_one (ps_ret (pe_op op_add_str (pe_slice C8.sl_txt (pv 2) po_none (po_some (pv 3))) (pe_slice C8.sl_txt (pv 2) (po_some (pe_op op_add (pv 3) pe_int)) po_none)))) pss_nil)
    (pss_cons (ps_if (pt_cmpR op_eq (pv 4) pe_int (nomark _)) (pss_one (ps_ret (pe_op op_add_str (pe_op op_add_str (pe_slice C8.sl_txt (pv 2) po_none (po_some (pv 3))) (pv 5)) (pe_slice C8.sl_txt (pv 2) (po_some (pv 3)) po_none)))) pss_nil)
    (pss_cons (ps_if (pt_cmpR op_eq (pv 4) pe_int (nomark _)) (pss_one (ps_ret (pe_op op_add_str (pe_op op_add_str (pe_slice C8.sl_txt (pv 2) po_none (po_some (pv 3))) (pv 5)) (pe_slice C8.sl_txt (pv 2) (po_some (pe_op op_add (pv 3) pe_int)) po_none)))) pss_nil)
    (pss_cons (ps_if (pt_cmpR op_eq (pv 4) pe_int (nomark _))
        (pss_cons (ps_set (i := 6) scTe.nd rfl (Or.inl rfl) (pe_call GO hr rfl mO kO bO .nil pass0 (pa_cons (pv 0) (pa_cons (pe_lst (pa_cons pe_int (pa_cons pe_int (pa_cons pe_int (pa_cons pe_int pa_nil))))) pa_nil))))
        (pss_cons (ps_set (i := 7) scTe.nd rfl (Or.inl rfl) (pe_op op_add_str (pe_call GS hr rfl mO kO bO .nil pass0 (pa_cons (pv 0) (pa_cons pe_str pa_nil))) (pe_op op_mul_str (pe_call GS hr rfl mO kO bO .nil pass0 (pa_cons (pv 0) (pa_cons pe_str pa_nil))) (pe_op op_sub (pv 6) pe_int))))
        (pss_one (ps_ret (pe_call GO hr rfl mO kO bO .nil pass0 (pa_cons (pv 0) (pa_cons (pe_lst (pa_cons (pv 7) (pa_cons (pe_op op_add_str pe_str (pv 7)) (pa_cons (pe_op op_add_str pe_str (pv 7)) (pa_cons (pe_op op_add_str (pv 7) pe_str) (pa_cons (pe_op op_add_str pe_str (pv 7)) pa_nil)))))) pa_nil))))))) pss_nil)
    (pss_cons (ps_set (i := 7) scTe.nd rfl (Or.inl rfl) (pe_lst (pa_cons pe_str (pa_cons pe_str (pa_cons pe_str (pa_cons pe_str (pa_cons pe_str (pa_cons pe_str (pa_cons pe_str (pa_cons pe_str (pa_cons pe_str (pa_cons pe_str (pa_cons pe_str (pa_cons pe_str (pa_cons pe_str (pa_cons pe_str (pa_cons pe_str (pa_cons pe_str (pa_cons pe_str (pa_cons pe_str (pa_cons pe_str (pa_cons pe_str (pa_cons pe_str (pa_cons pe_str pa_nil))))))))))))))))))))))))
    (pss_cons (ps_set (i := 7) scTe.nd rfl (Or.inl rfl) (pe_op op_cat (pv 7) (pe_lst (pa_cons pe_str (pa_cons pe_str (pa_cons pe_str (pa_cons pe_str (pa_cons pe_str (pa_cons pe_str (pa_cons pe_str (pa_cons pe_str (pa_cons pe_str (pa_cons pe_str (pa_cons pe_str (pa_cons pe_str (pa_cons pe_str (pa_cons pe_str (pa_cons pe_str (pa_cons pe_str pa_nil)))))))))))))))))))
    (pss_one (ps_ret (pe_call GO hr rfl mO kO bO .nil pass0 (pa_cons (pv 0) (pa_cons (pv 7) pa_nil))))))))))))))), ?_⟩
  have wl : (S (wrL x y)).length ≤ 122 := by rw [S_len]; exact wr_len hx hy
  have sz : sizeLine = 16777216 := by decide
  have sle : ∀ lo hi, (Txt.slice (S (wrL x y)) lo hi).length ≤ 122 := fun lo hi => Nat.le_trans (Txt.slice_le _ _ _) wl
  have ol : ∀ c : Nat, (⟨#[c]⟩ : Str).length = 1 := fun _ => rfl
  refine ⟨_, rfl, t, x, y, rfl, ht, hx, hy, ?_⟩
  generalize S (wrL x y) = W at wl sle
  refine ⟨_, rfl, _, rfl, W, rfl, by omega, _, _, rfl, rfl, B, p, _, rfl, by omega, by omega, hb, fun H1 sp b1 u1 sp0 sp1 => ?_⟩
  refine ⟨_, rfl, B, p, 8, rfl, by decide, by decide, b1, fun H2 pk b2 u2 _ _ => ?_⟩
  have u2 := u1.trans u2
  refine ⟨_, rfl, pk, 2, rfl, rfl, _, rfl, ite2 (fun _ => ⟨_, rfl, q _ _ b2 u2 (by omega)⟩) (fun _ => ?_)⟩
  refine ⟨_, rfl, B, p, _, rfl, by decide, by decide, b2, fun H3 c b3 u3 => ?_⟩
  have u3 := u2.trans u3
  refine ⟨_, rfl, rfl, _, rfl, ite2 (fun _ => ?_) (fun _ => ?_)⟩
  · refine ⟨_, rfl, _, rfl, sp, rfl, W, rfl, by omega, _, rfl, _, rfl, sp, 1, rfl, rfl, _, rfl, W, rfl, by omega, _, _, rfl, rfl, ?_, q _ _ b3 u3 ?_⟩
    · exact Nat.le_trans (Nat.add_le_add (sle _ _) (sle _ _)) (by decide)
    · rw [len_app]
      exact Nat.le_trans (Nat.add_le_add (sle _ _) (sle _ _)) (by decide)
  refine ⟨_, rfl, rfl, _, rfl, ite2 (fun _ => ?_) (fun _ => ?_)⟩
  · refine ⟨_, rfl, _, rfl, sp, rfl, W, rfl, by omega, _, rfl, _, _, rfl, rfl, ?_, _, rfl, _, rfl, sp, rfl, W, rfl, by omega, _, _, rfl, rfl, ?_, q _ _ b3 u3 ?_⟩
    · rw [ol]
      exact Nat.le_trans (Nat.add_le_add_right (sle _ _) _) (by decide)
    · rw [len_app, ol]
      exact Nat.le_trans (Nat.add_le_add (Nat.add_le_add_right (sle _ _) _) (sle _ _)) (by decide)
    · rw [len_app, len_app, ol]
      exact Nat.le_trans (Nat.add_le_add (Nat.add_le_add_right (sle _ _) _) (sle _ _)) (by decide)
  refine ⟨_, rfl, rfl, _, rfl, ite2 (fun _ => ?_) (fun _ => ?_)⟩
  · refine ⟨_, rfl, _, rfl, sp, rfl, W, rfl, by omega, _, rfl, _, _, rfl, rfl, ?_, _, rfl, _, rfl, sp, 1, rfl, rfl, _, rfl, W, rfl, by omega, _, _, rfl, rfl, ?_, q _ _ b3 u3 ?_⟩
    · rw [ol]
      exact Nat.le_trans (Nat.add_le_add_right (sle _ _) _) (by decide)
    · rw [len_app, ol]
      exact Nat.le_trans (Nat.add_le_add (Nat.add_le_add_right (sle _ _) _) (sle _ _)) (by decide)
    · rw [len_app, len_app, ol]
      exact Nat.le_trans (Nat.add_le_add (Nat.add_le_add_right (sle _ _) _) (sle _ _)) (by decide)
  refine ⟨_, rfl, rfl, _, rfl, ite2 (fun _ => ?_) (fun _ => ?_)⟩
  · refine ⟨_, rfl, (by show 4 ≤ sizeLine; decide), fun a na => ⟨B, p, a, _, rfl, upd_same, (b3.at na).1, (by show 0 < 4; decide), (by show 4 ≤ 1000; decide), b3.put na, fun H4 v b4 u4 hv => ?_⟩⟩
    have u4 : But B H H4 := u3.trans ((But.new na).trans u4)
    obtain ⟨n, rfl, n0, n1⟩ : ∃ n : Int, v = .int n ∧ 1 ≤ n ∧ n ≤ 5000 := by
      simp only [List.mem_cons, List.not_mem_nil, or_false] at hv
      rcases hv with rfl | rfl | rfl | rfl <;> exact ⟨_, rfl, by decide, by decide⟩
    refine ⟨_, rfl, B, p, _, rfl, by decide, by decide, b4, fun H5 c1 b5 u5 => ⟨_, rfl, B, p, _, rfl, by decide, by decide, b5, fun H6 c2 b6 u6 => ?_⟩⟩
    have u6 := u4.trans (u5.trans u6)
    have ml := mul_len c2 (n := n - 1) (by omega)
    refine ⟨_, rfl, n, 1, rfl, rfl, _, n - 1, rfl, rfl, mul_ok c2 (by omega) (by omega), _, _, rfl, rfl, ?_, ?_⟩
    · rw [ol]
      omega
    have zl : ((⟨#[c1]⟩ : Str) ++ Txt.mul ⟨#[c2]⟩ (n - 1)).length ≤ 5001 := by
      rw [len_app, ol]
      omega
    generalize (⟨#[c1]⟩ : Str) ++ Txt.mul ⟨#[c2]⟩ (n - 1) = Z at zl
    have l1 : ("-" : Str).length = 1 := rfl
    have l2 : ("1/" : Str).length = 2 := rfl
    have l3 : ("/7" : Str).length = 2 := rfl
    have l4 : ("-3/" : Str).length = 3 := rfl
    refine ⟨_, rfl, _, rfl, _, rfl, _, _, rfl, rfl, by omega, _, rfl, _, _, rfl, rfl, by omega, _, rfl, _, _, rfl, rfl, by omega, _, rfl, _, _, rfl, rfl, by omega, (by show 5 ≤ sizeLine; decide), fun e ne => ?_⟩
    refine ⟨B, p, e, _, rfl, upd_same, (b6.at ne).1, (by show 0 < 5; decide), (by show 5 ≤ 1000; decide), b6.put ne, fun H7 v b7 u7 hv => ?_⟩
    have u7 : But B H H7 := u6.trans ((But.new ne).trans u7)
    obtain ⟨z, rfl, hz⟩ : ∃ z : Str, v = .str z ∧ z.length ≤ 6000 := by
      simp only [List.mem_cons, List.not_mem_nil, or_false] at hv
      rcases hv with rfl | rfl | rfl | rfl | rfl
      · exact ⟨_, rfl, by omega⟩
      · exact ⟨_, rfl, by rw [len_app]; omega⟩
      · exact ⟨_, rfl, by rw [len_app]; omega⟩
      · exact ⟨_, rfl, by rw [len_app]; omega⟩
      · exact ⟨_, rfl, by rw [len_app]; omega⟩
    exact q _ _ b7 u7 hz
  refine ⟨(by show 22 ≤ sizeLine; decide), fun a na => ⟨_, rfl, (by show 16 ≤ sizeLine; decide), fun e ne => ?_⟩⟩
  refine ⟨a, e, _, _, rfl, rfl, new_same ne _ _ _ upd_same, upd_same, (by show 22 + 16 ≤ sizeLine; decide), fun g ng => ⟨_, rfl, _, rfl, B, p, g, _, rfl, upd_same, (((b3.put na).put ne).at ng).1, (by show 0 < 38; decide), (by show 38 ≤ 1000; decide), ((b3.put na).put ne).put ng, fun H7 v b7 u7 hv => ?_⟩⟩
  have u7 : But B H H7 := u3.trans ((But.new na).trans ((But.new ne).trans ((But.new ng).trans u7)))
  obtain ⟨z, rfl, hz⟩ := strB_of (List.all_eq_true.mp (by decide +kernel) v hv)
  exact q _ _ b7 u7 hz
end
end Kr
end
section
set_option maxHeartbeats 4000000
namespace Kr
open PySem PySem.Spec PyProof.Rows L2 RZ
/-! ### C.m(..), m a staticmethod of the class C -/
structure CSta (K : PySem.W.Frag) (C : Addr) (mc : Value) (m : Str) (p g : Addr) : Prop where
  at_ : PySem.W.findCls K (.ref C) mc m = some (.get (.builtin "staticmethod.__get__") (.ref p) .none (.ref C))
  rc : ∃ rest, PySem.W.recIn K p "staticmethod" = some (.ref g :: rest)
  kp : PySem.W.keepIn K (.ref g) = true
def tStat (C : Addr) (sp : Sp) (E : XK) (ta : TE) (t : TA) : TE := fun σ H Q => ta σ H fun x H1 => x = .ref C ∧ t σ H1 fun vs H2 => sp vs H2 Q E
section
variable {X : Cx} {CX : CXT} {k : Nat} {C p g : Addr} {mc : Value} {fd : FuncData} {ps : List Str} {sp : Sp} {E : XK} {o e : Expr} {es : List Expr} {m : Str} {pos apos : Pos} {ta : TE} {t : TA} {pl : Sem Bool}
theorem pe_static (he : PE X o ta) (r : ClX.CRead X.K C mc) (c : CSta X.K C mc m p g) (F : FnOk X.prog X.w X.K X.mg X.base CX k g fd ps sp) (hr : Room k X.A) (hb : Binds X.K fd ps []) (hx : Passes CX X E) (ha : PA X (e :: es) t)
    (hst : starEach (e :: es) X.env = (false, eval e X.env) :: starEach es X.env := by rfl) (hpl : (backTo pos (starEach es X.env)).any (·.1) = false := by rfl)
    (ht : eval (.Call (.Attribute o m apos) (e :: es) [] pos) X.env = (do
      let ov ← eval o X.env
      standAt apos.atName
      let (f, first) ← holding [ov] (getMethod ov m pl)
      callWith pos f first (backTo pos (starEach (e :: es) X.env)) (backToKw pos (keywordEach [] X.env))) := by rfl) :
    PE X (.Call (.Attribute o m apos) (e :: es) [] pos) (tStat C sp E ta t) := by
  refine ⟨fun pins s σ H Q I h => ?_⟩
  refine PySem.W.methodCall_KW (pl := pl) (thn (he.run pins s σ H _ I h) fun u s1 ⟨x, H1, I1, rx, ex, q⟩ => ?_) ht
  subst ex
  obtain rfl : u = Value.ref C := rx
  obtain ⟨rest, hp⟩ := c.rc
  refine PySem.W.method_cls I1.kIn r.ga (PySem.W.cls_bind I1.kIn r.rd c.at_ (wpAny_call (PySem.W.sm_get (s := { s1 with toks := s1.toks + 1 }) I1.kIn hp (PySem.W.handed_on rfl ?_))))
  have I2 : Inv X pins σ H1 { s1 with toks := s1.toks + 1 } := I1.tok _
  refine PySem.W.callWith_K (h₀ := X.base) I2.ok.mod.kin c.kp (thn (ha.run pos pins _ σ H1 _ I2 q) fun us s3 ⟨vs, H2, I3, rv, q2⟩ => ⟨I3.kIn, ?_⟩) hst hpl
  exact run_fn F hr hb .nil hx I3 rv (by rw [List.append_nil]; exact q2)
end
/-! ### pairs of the module -/
structure KP (K : PySem.W.Frag) (a : Addr) (x y : Int) : Prop where
  ex : ∃ (o : Obj) (its : Array Value) (n : Nat), K.lookup a = some o ∧ o.cls = .type "tuple" ∧ o.data = .seq its n ∧ its.size ≤ sizeLine ∧ Vals [.int x, .int y] its.toList
theorem KP.t {K : PySem.W.Frag} {a : Addr} {x y : Int} (k : KP K a x y) (H : Hp) : SqT K H a [.int x, .int y] := .inr k.ex
theorem KP.ty {K : PySem.W.Frag} {a : Addr} {x y : Int} (k : KP K a x y) (H : Hp) : TyX K H (.ref a) (.type "tuple") := by
  obtain ⟨o, its, n, h1, h2, _⟩ := k.ex
  exact .kTuple h1 h2
theorem KP.isF {K : PySem.W.Frag} {a : Addr} {x y : Int} (k : KP K a x y) (H : Hp) (h : (decide (1 ≤ y) && decide (Nat.gcd x.natAbs y.natAbs = 1)) = true) : IsF K H (.ref a) true :=
  .inr (.inr ⟨a, _, _, true, true, rfl, k.t H, k.ty H, wh_int _, wh_int _, .inr ⟨x, y, rfl, rfl, rfl, rfl, h.symm⟩⟩)
theorem KP.dp {K : PySem.W.Frag} {a : Addr} {x y : Int} (k : KP K a x y) (H : Hp) : Dp K H (.ref a) (.tuple [.int x, .int y]) := .tup (k.t H) (.cons (.int _) (.cons (.int _) .nil))
def spBt : Sp := fun vs H Q _ => ∃ n a b : Int, vs = [.int n, .int a, .int b] ∧ a ≤ n ∧ n ≤ b ∧ Q (.bl true) H
def spCo : Sp := fun vs H Q _ => ∃ n : Int, vs = [.int n] ∧ 2 ≤ n ∧ n ≤ 24 ∧ Q .non H
def spIl : Sp := fun vs H Q _ => ∃ (a : Addr) (xs : List V), vs = [.ref a] ∧ H a = some (.lst xs) ∧ ∀ H', Same H H' → Q (.bl true) H'
def spCn (o1 o0 : Addr) : Sp := fun vs H Q _ => ∃ a : Addr, vs = [.ref a, .int 0] ∧ H a = some (.lst [.ref o1, .ref o0]) ∧ ∀ H' b, Same H H' → H b = none → H' b = some (.lst [.ref o1, .ref o0]) → Q (.ref b) H'
def spIz (o0 : Addr) : Sp := fun vs H Q _ => ∃ a : Addr, vs = [.ref a] ∧ H a = some (.lst [.ref o0]) ∧ ∀ H', Same H H' → Q (.bl true) H'
def spLp (o1 o0 : Addr) : Sp := fun vs H Q _ => ∃ a : Addr, vs = [.ref a, .int 1] ∧ H a = some (.lst [.ref o1, .ref o0]) ∧ ∀ H', Same H H' → Q (.int 1) H'
def spKo (o1 o0 : Addr) : Sp := fun vs H Q _ => ∃ a : Addr, vs = [.ref a] ∧ H a = some (.lst [.ref o1, .ref o0]) ∧ ∀ H', Same H H' → Q (.str "still") H'
def spSn (o1 o0 : Addr) : Sp := fun vs H Q _ => vs = [.int 2] ∧ ∀ H' b, Same H H' → H b = none → H' b = some (.lst [.ref o1, .ref o0]) → Q (.ref b) H'
section
variable {P : Program} {w : World} {K : PySem.W.Frag} {mg : Str → Option Value} {base : Heap} {f fW fB fC fI fZ o1 o0 : Addr} {fd fdW fdB fdC fdI fdZ : FuncData}
theorem scBt : FnScope ["value", "low", "high"] ["value", "low", "high"] (defScope (top 21)) := ⟨rfl, rfl, rfl, by decide +kernel, rfl, by decide +kernel, by decide +kernel⟩
theorem ok_between (G : Fun K "is_between" "is_between" (top 21) f fd) (GW : FnOk P w K mg base CX0 1 fW fdW ["value"] (spWhole K)) (bW : Binds K fdW ["value"] []) (kW : PySem.W.keepIn K (.ref fW) = true) (mW : mg "is_whole" = some (.ref fW)) :
    FnOk P w K mg base CX0 2 f fd ["value", "low", "high"] spBt := by
  refine G.ok scBt (fun vs H Q E h => ?_) (fun cdv A outer s H vs Q E hr h => ?_)
  · obtain ⟨n, a, b, rfl, _⟩ := h
    rfl
  obtain ⟨n, a, b, rfl, h1, h2, q⟩ := h
  refine ⟨_, pss_one (ps_ret (pe_and (pe_call GW hr rfl mW kW bW .nil pass0 (pa_cons (pv 0) pa_nil)) (pe_one (pe_chain op_le op_le (pv 1) (pv 0) (pv 2))))), ?_⟩
  refine ⟨_, rfl, _, true, rfl, wh_int n, _, rfl, iteT ⟨_, rfl, _, rfl, a, n, rfl, rfl, _, rfl, ?_⟩⟩
  rw [decide_eq_true h1]
  refine iteT ⟨_, rfl, n, b, rfl, rfl, ?_⟩
  show Q (.bl (decide (n ≤ b))) H
  rw [decide_eq_true h2]
  exact q
theorem scCo : FnScope ["order"] ["order"] (defScope (top 37)) := ⟨rfl, rfl, rfl, by decide +kernel, rfl, by decide +kernel, by decide +kernel⟩
theorem ok_corder (G : Fun K "check_order" "check_order" (top 37) f fd) (GB : FnOk P w K mg base CX0 2 fB fdB ["value", "low", "high"] spBt) (bB : Binds K fdB ["value", "low", "high"] []) (kB : PySem.W.keepIn K (.ref fB) = true) (mB : mg "is_between" = some (.ref fB))
    (mL : ∃ u, mg "LOWEST_ORDER" = some u ∧ RelV (.int 2) u) (mH : ∃ u, mg "HIGHEST_ORDER" = some u ∧ RelV (.int 24) u) : FnOk P w K mg base CX0 3 f fd ["order"] spCo := by
  refine G.ok scCo (fun vs H Q E h => ?_) (fun cdv A outer s H vs Q E hr h => ?_)
  · obtain ⟨n, rfl, _⟩ := h
    rfl
  obtain ⟨n, rfl, h1, h2, q⟩ := h
  refine ⟨_, pss_one (ps_if (pt_not (pt_val (pe_call GB hr rfl mB kB bB .nil pass0 (pa_cons (pv 0) (pa_cons (C8.pe_gc rfl mL) (pa_cons (C8.pe_gc rfl mH) pa_nil)))))) (pss_one ps_never) pss_nil), ?_⟩
  exact ⟨_, rfl, n, 2, 24, rfl, h1, h2, _, rfl, iteF q⟩
theorem scIl : FnScope ["value"] ["value"] (defScope (top 36)) := ⟨rfl, rfl, rfl, by decide +kernel, rfl, by decide +kernel, by decide +kernel⟩
theorem ok_listing (G : Fun K "is_listing" "is_listing" (top 36) f fd) (mI : mg "isinstance" = none) (ml : mg "list" = none) (mt : mg "tuple" = none) : FnOk P w K mg base CX0 1 f fd ["value"] spIl := by
  refine G.ok scIl (fun vs H Q E h => ?_) (fun cdv A outer s H vs Q E hr h => ?_)
  · obtain ⟨a, xs, rfl, _⟩ := h
    rfl
  obtain ⟨a, xs, rfl, ha, q⟩ := h
  refine ⟨_, pss_one (ps_ret (pe_callB call_isiT rfl mI (by decide +kernel) (pa_cons (pv 0) (pa_cons (pe_tup (pa_cons (pe_bltn rfl ml boot_list (rel_ty _)) (pa_cons (pe_bltn rfl mt boot_tuple (rel_ty _)) pa_nil))) pa_nil)))), ?_⟩
  refine ⟨_, rfl, (by show 2 ≤ sizeLine; decide), fun p np => ?_⟩
  have g1 := new_same np (.tup [.ty "list", .ty "tuple"])
  exact ⟨_, p, _, .type "list", _, true, rfl, upd_same, .cons (.ty _) (.cons (.ty _) .nil), .base (.lst (g1 _ _ ha)), kit2 kb_l.1 kb_l.2.1 rfl, q _ g1⟩
abbrev nCn : List Str := ["numbers", "further"]
theorem scCn : FnScope nCn ["numbers", "further"] (defScope (top 42)) := ⟨rfl, rfl, rfl, by decide +kernel, rfl, by decide +kernel, by decide +kernel⟩
def spWi (o1 o0 : Addr) : Sp := fun vs H Q _ => ∃ (a : Addr), vs = [.ref a] ∧ H a = some (.lst [.ref o1, .ref o0]) ∧ ∀ H', Same H H' → Q .non H'
theorem scWi : FnScope ["numbers", "at", "number"] ["numbers"] (defScope (top 40)) := ⟨rfl, rfl, rfl, by decide +kernel, rfl, by decide +kernel, by decide +kernel⟩
theorem ok_wrong (G : Fun K "wrong_item" "wrong_item" (top 40) f fd) (k1 : KP K o1 1 1) (k0 : KP K o0 0 1) (me : mg "enumerate" = none)
    (GF : FnOk P w K mg base CX0 2 fB fdB ["value"] (spIsF K)) (bF : Binds K fdB ["value"] []) (kF : PySem.W.keepIn K (.ref fB) = true) (mF : mg "is_fraction" = some (.ref fB)) :
    FnOk P w K mg base CX0 3 f fd ["numbers"] (spWi o1 o0) := by
  refine G.ok scWi (fun vs H Q E h => ?_) (fun cdv A outer s H vs Q E hr h => ?_)
  · obtain ⟨a, rfl, _⟩ := h
    rfl
  obtain ⟨a, rfl, ha, q⟩ := h
  refine ⟨_, pss_cons (ps_for PassesOwn.never rfl (pi_enum rfl me (pa_cons (pv 0) pa_nil)) (pg_tup rfl (pgs_cons (pg_name (i := 1) scWi.nd rfl (Or.inl rfl)) (pgs_cons (pg_name (i := 2) scWi.nd rfl (Or.inl rfl)) pgs_nil)))
      (pss_one (ps_if (pt_not (pt_val (pe_call GF hr rfl mF kF bF .nil pass0 (pa_cons (pv 2) pa_nil)))) (pss_one (ps_ret (pv 1))) pss_nil)))
    (pss_one (ps_ret pe_non)), ?_⟩
  refine ⟨_, rfl, a, _, rfl, SqL.of ha, ?_⟩
  refine for_it (walk_enum (K := K) (a := a) (xs := [V.ref o1, V.ref o0])) (fun i σ H' => Same H H' ∧ ∃ v v', σ = [some (.ref a), v, v']) ⟨Same.refl H, none, none, rfl⟩ (fun i σ H' _ h => SqL.of (h.1 _ _ ha)) ?_ ?_
  · rintro i x σ H2 H3 hi ⟨s2, v, v', rfl⟩ ⟨T, y, z, rfl, hT, rfl, hy, hz⟩
    refine ⟨T, [y, z], rfl, SqT.of upd_same, rfl, y, [z], rfl, z, [], rfl, rfl, ?_⟩
    have s3 := s2.trans (new_same hT (.tup [y, z]))
    generalize upd H2 T (.tup [y, z]) = H3 at s3
    have hf : IsF K H3 z true := by
      match i, hi with
      | 0, _ => rw [← Option.some.inj hz]; exact k1.isF H3 rfl
      | 1, _ => rw [← Option.some.inj hz]; exact k0.isF H3 rfl
    exact ⟨_, rfl, z, true, rfl, hf, _, rfl, iteF ⟨s3, _, _, rfl⟩⟩
  · rintro σ H2 ⟨s2, v, v', rfl⟩
    exact q _ s2
theorem scCf : FnScope ["numbers", "at"] ["numbers"] (defScope (top 41)) := ⟨rfl, rfl, rfl, by decide +kernel, rfl, by decide +kernel, by decide +kernel⟩
theorem ok_cfrac (G : Fun K "check_fractions" "check_fractions" (top 41) f fd) (GF : FnOk P w K mg base CX0 3 fB fdB ["numbers"] (spWi o1 o0)) (bF : Binds K fdB ["numbers"] []) (kF : PySem.W.keepIn K (.ref fB) = true) (mF : mg "wrong_item" = some (.ref fB)) :
    FnOk P w K mg base CX0 4 f fd ["numbers"] (spWi o1 o0) := by
  refine G.ok scCf (fun vs H Q E h => ?_) (fun cdv A outer s H vs Q E hr h => ?_)
  · obtain ⟨a, rfl, _⟩ := h
    rfl
  obtain ⟨a, rfl, ha, q⟩ := h
  refine ⟨_, pss_cons (ps_set (i := 1) scCf.nd rfl (Or.inl rfl) (pe_call GF hr rfl mF kF bF .nil pass0 (pa_cons (pv 0) pa_nil)))
    (pss_one (ps_if (pt_cmpR op_notN (pv 1) pe_non (nomark _)) (pss_one ps_never) pss_nil)), ?_⟩
  exact ⟨_, rfl, a, rfl, ha, fun H1 s1 => ⟨_, rfl, rfl, _, rfl, iteF (q _ s1)⟩⟩
theorem ok_checked (G : Fun K "checked_numbers" "checked_numbers" (top 42) f fd) (mn : mg "len" = none) (ml : mg "list" = none)
    (GI : FnOk P w K mg base CX0 1 fI fdI ["value"] spIl) (bI : Binds K fdI ["value"] []) (kI : PySem.W.keepIn K (.ref fI) = true) (mI : mg "is_listing" = some (.ref fI))
    (GC : FnOk P w K mg base CX0 3 fC fdC ["order"] spCo) (bC : Binds K fdC ["order"] []) (kC : PySem.W.keepIn K (.ref fC) = true) (mC : mg "check_order" = some (.ref fC))
    (GF : FnOk P w K mg base CX0 4 fB fdB ["numbers"] (spWi o1 o0)) (bF : Binds K fdB ["numbers"] []) (kF : PySem.W.keepIn K (.ref fB) = true) (mF : mg "check_fractions" = some (.ref fB)) :
    FnOk P w K mg base CX0 5 f fd ["numbers", "further"] (spCn o1 o0) := by
  refine G.ok scCn (fun vs H Q E h => ?_) (fun cdv A outer s H vs Q E hr h => ?_)
  · obtain ⟨a, rfl, _⟩ := h
    rfl
  obtain ⟨a, rfl, ha, q⟩ := h
  have hr1 := hr.mono (show 1 ≤ 4 by decide)
  have hr3 := hr.mono (show 3 ≤ 4 by decide)
  refine ⟨_, pss_cons (ps_if (pt_not (pt_val (pe_call GI hr1 rfl mI kI bI .nil pass0 (pa_cons (pv 0) pa_nil)))) (pss_one ps_never) pss_nil)
    (pss_cons (ps_expr (pe_call GC hr3 rfl mC kC bC .nil pass0 (pa_cons (pe_op op_add (pe_callB call_len_seq rfl mn PySem.boot_len (pa_cons (pv 0) pa_nil)) (pv 1)) pa_nil)))
    (pss_cons (ps_expr (pe_call GF hr rfl mF kF bF .nil pass0 (pa_cons (pv 0) pa_nil)))
    (pss_one (ps_ret (pe_callTy call_list_of rfl ml (by decide +kernel) (pa_cons (pv 0) pa_nil)))))), ?_⟩
  refine ⟨_, rfl, a, _, rfl, ha, fun H1 s1 => ⟨_, rfl, iteF ?_⟩⟩
  have ha1 := s1 _ _ ha
  refine ⟨_, rfl, a, _, rfl, .inl (SqL.of ha1), _, rfl, _, _, rfl, rfl, _, rfl, (by show (2 : Int) ≤ ((2 : Nat) : Int) + 0; decide), (by show ((2 : Nat) : Int) + 0 ≤ (24 : Int); decide), ?_⟩
  refine ⟨_, rfl, a, rfl, ha1, fun H2 s2' => ?_⟩
  have s2 := s1.trans s2'
  exact ⟨_, rfl, a, _, rfl, .inl (SqL.of (s2 _ _ ha)), fun b nb => q _ b (s2.trans (new_same nb _)) (s2.free nb) upd_same⟩
abbrev nIz : List Str := ["numbers", "number"]
theorem scIz : FnScope nIz ["numbers"] (defScope (top 46)) := ⟨rfl, rfl, rfl, by decide +kernel, rfl, by decide +kernel, by decide +kernel⟩
theorem eqD_at {X : Cx} (K : PySem.W.Frag) (h : X.K = K) (hu : X.A.units + 64 < cLine) : OpR X (compareOp .Eq) (rEqD K) := by
  subst h
  exact op_eqD hu
theorem ok_iszero (G : Fun K "is_zero" "is_zero" (top 46) f fd) (k0 : KP K o0 0 1) (ma : mg "all" = none) (mZ : mg "ZERO" = some (.ref o0)) : FnOk P w K mg base CX0 1 f fd ["numbers"] (spIz o0) := by
  refine G.ok scIz (fun vs H Q E h => ?_) (fun cdv A outer s H vs Q E hr h => ?_)
  · obtain ⟨a, rfl, _⟩ := h
    rfl
  obtain ⟨a, rfl, ha, q⟩ := h
  refine ⟨_, pss_one (ps_ret (pe_callB (cr_all rfl) rfl ma (by decide +kernel) (pa_cons (pe_lc (own := [("number", 1)]) (g := gName 1) (tt := tYes) rfl scIz.nd (pi_list (pv 0)) (blkOk_by (N := nIz) (sc := defScope (top 46)) (by decide +kernel)) (fun _ _ _ _ _ => pg_name (i := 1) scIz.nd rfl (Or.inl rfl)) (fun _ _ _ _ _ => pts_nil)
        (fun _ _ _ _ _ => pe_cmpR (eqD_at K rfl hr.units) (pv 1) (C8.pe_gc (v := .ref o0) rfl ⟨_, mZ, rfl⟩) (nomark _))) pa_nil))), ?_⟩
  refine ⟨_, rfl, a, rfl, ⟨_, SqL.of ha⟩, fun D nD => ?_⟩
  refine lc_list (K := K) (a := a) (xs := [V.ref o0]) (fun i H2 => Same H H2 ∧ H2 D = some (.lst ((List.replicate i true).map V.bl))) ⟨new_same nD _, upd_same⟩ (fun i H' _ h => SqL.of (h.1 _ _ ha)) ?_ ?_
  · rintro i x H2 hx ⟨g, hD⟩
    have hi : i = 0 := by
      match i, hx with
      | 0, _ => rfl
      | _ + 1, h => simp at h
    subst hi
    obtain rfl : x = .ref o0 := (Option.some.inj hx).symm
    refine ⟨rfl, yesT ⟨_, rfl, _, _, k0.dp H2, k0.dp H2, rfl, rfl, ?_⟩⟩
    refine ⟨_, hD, by decide, fun e o h => by rw [upd_ne (ne_of_none h nD)]; exact g _ _ h, ?_⟩
    rw [upd_same]
    rfl
  · rintro H2 ⟨g, hD⟩
    exact ⟨D, [true], rfl, SqL.of hD, q _ g⟩
abbrev nLp : List Str := ["numbers", "first", "at", "number"]
theorem scLp : FnScope nLp ["numbers", "first"] (defScope (top 47)) := ⟨rfl, rfl, rfl, by decide +kernel, rfl, by decide +kernel, by decide +kernel⟩
theorem ok_least (G : Fun K "least_place" "least_place" (top 47) f fd) (k1 : KP K o1 1 1) (k0 : KP K o0 0 1) (me : mg "enumerate" = none) (mZ : mg "ZERO" = some (.ref o0)) : FnOk P w K mg base CX0 1 f fd ["numbers", "first"] (spLp o1 o0) := by
  refine G.ok scLp (fun vs H Q E h => ?_) (fun cdv A outer s H vs Q E hr h => ?_)
  · obtain ⟨a, rfl, _⟩ := h
    rfl
  obtain ⟨a, rfl, ha, q⟩ := h
  refine ⟨_, pss_cons (ps_for PassesOwn.never rfl (pi_enum rfl me (pa_cons (pv 0) pa_nil)) (pg_tup rfl (pgs_cons (pg_name (i := 2) scLp.nd rfl (Or.inl rfl)) (pgs_cons (pg_name (i := 3) scLp.nd rfl (Or.inl rfl)) pgs_nil)))
      (pss_one (ps_if (pt_cmpR (op_neD hr.units) (pv 3) (C8.pe_gc (v := .ref o0) rfl ⟨_, mZ, rfl⟩) (nomark _)) (pss_one (ps_ret (pe_op op_add (pv 1) (pv 2)))) pss_nil)))
    (pss_one (ps_ret pe_non)), ?_⟩
  refine ⟨_, rfl, a, _, rfl, SqL.of ha, ?_⟩
  refine for_it (walk_enum (K := K) (a := a) (xs := [V.ref o1, V.ref o0])) (fun i σ H' => i = 0 ∧ Same H H' ∧ σ = [some (.ref a), some (.int 1), none, none]) ⟨rfl, Same.refl H, rfl⟩ (fun i σ H' _ h => SqL.of (h.2.1 _ _ ha)) ?_ ?_
  · rintro i x σ H2 H3 hi ⟨rfl, s2, rfl⟩ ⟨T, y, z, rfl, hT, rfl, hy, hz⟩
    obtain rfl : y = .int 0 := (Option.some.inj hy).symm
    obtain rfl : z = .ref o1 := (Option.some.inj hz).symm
    refine ⟨T, [_, _], rfl, SqT.of upd_same, rfl, _, [_], rfl, _, [], rfl, rfl, ?_⟩
    have s3 := s2.trans (new_same hT (.tup [.int 0, .ref o1]))
    refine ⟨_, rfl, _, _, k1.dp _, k0.dp _, rfl, rfl, _, rfl, iteT ⟨_, rfl, _, rfl, 1, 0, rfl, rfl, q _ s3⟩⟩
  · rintro σ H2 ⟨h, _⟩
    cases h
abbrev nKo : List Str := ["numbers", "lead", "bent"]
theorem scKo : FnScope nKo ["numbers"] (defScope (top 68)) := ⟨rfl, rfl, rfl, by decide +kernel, rfl, by decide +kernel, by decide +kernel⟩
theorem ok_kind (G : Fun K "kind_of" "kind_of" (top 68) f fd) (k1 : KP K o1 1 1) (k0 : KP K o0 0 1) (mZ : mg "ZERO" = some (.ref o0)) (mO : mg "ONE" = some (.ref o1))
    (GZ : FnOk P w K mg base CX0 1 fZ fdZ ["numbers"] (spIz o0)) (bZ : Binds K fdZ ["numbers"] []) (kZ : PySem.W.keepIn K (.ref fZ) = true) (mI : mg "is_zero" = some (.ref fZ)) : FnOk P w K mg base CX0 2 f fd ["numbers"] (spKo o1 o0) := by
  refine G.ok scKo (fun vs H Q E h => ?_) (fun cdv A outer s H vs Q E hr h => ?_)
  · obtain ⟨a, rfl, _⟩ := h
    rfl
  obtain ⟨a, rfl, ha, q⟩ := h
  refine ⟨_, pss_cons (ps_set (i := 1) scKo.nd rfl (Or.inl rfl) (pe_ix ix_list (pv 0) pe_int (fun _ _ => rfl)))
    (pss_cons (ps_set (i := 2) scKo.nd rfl (Or.inl rfl) (pe_not (pe_call GZ hr rfl mI kZ bZ .nil pass0 (pa_cons (pe_slice sl_list (pv 0) (po_some pe_int) po_none) pa_nil))))
    (pss_cons (ps_if (pt_cmpR (op_eqD hr.units) (pv 1) (C8.pe_gc (v := .ref o0) rfl ⟨_, mZ, rfl⟩) (nomark _)) (pss_one ps_never) pss_nil)
    (pss_cons (ps_if (pt_cmpR (op_eqD hr.units) (pv 1) (C8.pe_gc (v := .ref o1) rfl ⟨_, mO, rfl⟩) (nomark _)) (pss_one (ps_ret (pe_ifExp (pt_val (pv 2)) pe_str pe_str))) pss_nil)
    (pss_one ps_never)))), ?_⟩
  refine ⟨_, rfl, a, _, 0, _, rfl, rfl, SqL.of ha, rfl, _, rfl, 1, rfl, a, _, rfl, SqL.of ha, fun b nb => ?_⟩
  have s1 := new_same nb (.lst (cutV [V.ref o1, V.ref o0] (some 1) none))
  refine ⟨b, rfl, upd_same, fun H2 s2 => ?_⟩
  have s2 := s1.trans s2
  refine ⟨_, rfl, _, rfl, _, _, k1.dp _, k0.dp _, rfl, rfl, _, rfl, iteF ?_⟩
  exact ⟨_, rfl, _, _, k1.dp _, k1.dp _, rfl, rfl, _, rfl, iteT ⟨_, rfl, _, rfl, iteF (q _ s2)⟩⟩
theorem scSn : FnScope ["order"] ["order"] (defScope (top 53)) := ⟨rfl, rfl, rfl, by decide +kernel, rfl, by decide +kernel, by decide +kernel⟩
theorem ok_stilln (G : Fun K "still_numbers" "still_numbers" (top 53) f fd) (mZ : mg "ZERO" = some (.ref o0)) (mO : mg "ONE" = some (.ref o1)) : FnOk P w K mg base CX0 1 f fd ["order"] (spSn o1 o0) := by
  refine G.ok scSn (fun vs H Q E h => ?_) (fun cdv A outer s H vs Q E hr h => ?_)
  · obtain ⟨rfl, _⟩ := h
    rfl
  obtain ⟨rfl, q⟩ := h
  refine ⟨_, pss_one (ps_ret (pe_op op_cat (pe_lst (pa_cons (C8.pe_gc (v := .ref o1) rfl ⟨_, mO, rfl⟩) pa_nil)) (pe_op op_rep (pe_lst (pa_cons (C8.pe_gc (v := .ref o0) rfl ⟨_, mZ, rfl⟩) pa_nil)) (pe_op op_sub (pv 0) pe_int)))), ?_⟩
  refine ⟨(by show 1 ≤ sizeLine; decide), fun a na => ⟨(by show 1 ≤ sizeLine; decide), fun b nb => ⟨_, rfl, 2, 1, rfl, rfl, b, _, _, rfl, rfl, upd_same, by decide, by decide, (by show 1 * 1 ≤ sizeLine; decide), fun c nc => ?_⟩⟩⟩
  refine ⟨a, c, _, _, rfl, rfl, new_same nc _ _ _ (new_same nb _ _ _ upd_same), upd_same, (by show 1 + 1 ≤ sizeLine; decide), fun d nd => ?_⟩
  refine q _ d ((new_same na _).trans ((new_same nb _).trans ((new_same nc _).trans (new_same nd _)))) ?_ ?_
  · exact (new_same na (.lst [V.ref o1])).free ((new_same nb _).free ((new_same nc _).free nd))
  · exact upd_same
def stN : List Str := ["_numbers", "order", "lead", "kind", "height", "flat", "strength"]
def spIn (C o1 o0 : Addr) : Sp := fun vs H Q _ => ∃ (x a dx : Addr), vs = [.ref x, .ref a] ∧ H x = some (.ins C dx []) ∧ H a = some (.lst [.ref o1, .ref o0]) ∧ ∀ H' fs, But x H H' → H' x = some (.ins C dx fs) → Q .non H'
abbrev nIn : List Str := ["self", "numbers"]
theorem scIn : FnScope nIn ["self", "numbers"] (defScope (inClass (top 69) 0)) := ⟨rfl, rfl, rfl, by decide +kernel, rfl, by decide +kernel, by decide +kernel⟩
abbrev F1 (b : Addr) : List (Str × V) := putF "_numbers" (.ref b) []
abbrev F2 (o1 o0 b : Addr) : List (Str × V) := putF "order" (.int (([V.ref o1, V.ref o0].length : Nat) : Int)) (F1 b)
abbrev F3 (o1 o0 b : Addr) : List (Str × V) := putF "lead" (.ref o1) (F2 o1 o0 b)
abbrev F4 (o1 o0 b : Addr) : List (Str × V) := putF "kind" (.str "still") (F3 o1 o0 b)
abbrev F5 (o1 o0 b : Addr) : List (Str × V) := putF "height" (.int 1) (F4 o1 o0 b)
abbrev F6 (o1 o0 b : Addr) : List (Str × V) := putF "flat" .non (F5 o1 o0 b)
abbrev F7 (o1 o0 b : Addr) : List (Str × V) := putF "strength" .non (F6 o1 o0 b)
theorem but_put {x : Addr} {H : Hp} {o : HO} : But x H (upd H x o) := fun b u n h => by rw [upd_ne n]; exact h
theorem ok_init {C fN fL fD : Addr} {fdN fdL fdD : FuncData} (G : Fun K "__init__" "Step.__init__" (inClass (top 69) 0) f fd) (c : Cls K C) (nA : ∀ n ∈ stN, NoAttr K C n) (mn : mg "len" = none)
    (GN : FnOk P w K mg base CX0 5 fN fdN ["numbers", "further"] (spCn o1 o0)) (bN : Binds K fdN ["numbers", "further"] []) (kN : PySem.W.keepIn K (.ref fN) = true) (mN : mg "checked_numbers" = some (.ref fN))
    (GD : FnOk P w K mg base CX0 2 fD fdD ["numbers"] (spKo o1 o0)) (bD : Binds K fdD ["numbers"] []) (kD : PySem.W.keepIn K (.ref fD) = true) (mD : mg "kind_of" = some (.ref fD))
    (GL : FnOk P w K mg base CX0 1 fL fdL ["numbers", "first"] (spLp o1 o0)) (bL : Binds K fdL ["numbers", "first"] []) (kL : PySem.W.keepIn K (.ref fL) = true) (mL : mg "least_place" = some (.ref fL)) :
    FnOk P w K mg base CX0 6 f fd ["self", "numbers"] (spIn C o1 o0) := by
  refine G.ok scIn (fun vs H Q E h => ?_) (fun cdv A outer s H vs Q E hr h => ?_)
  · obtain ⟨x, a, dx, rfl, _⟩ := h
    rfl
  obtain ⟨x, a, dx, rfl, hx, ha, q⟩ := h
  have hr1 := hr.mono (show 1 ≤ 5 by decide)
  have hr2 := hr.mono (show 2 ≤ 5 by decide)
  have n1 := nA "_numbers" (by simp [stN])
  have n2 := nA "order" (by simp [stN])
  have n3 := nA "lead" (by simp [stN])
  have n4 := nA "kind" (by simp [stN])
  have n5 := nA "height" (by simp [stN])
  have n6 := nA "flat" (by simp [stN])
  have n7 := nA "strength" (by simp [stN])
  refine ⟨_, pss_cons (ps_fld (pv 0) (pe_call GN hr rfl mN kN bN .nil pass0 (pa_cons (pv 1) (pa_cons pe_int pa_nil))) rfl)
    (pss_cons (ps_fld (pv 0) (pe_callB call_len_seq rfl mn PySem.boot_len (pa_cons (pv 1) pa_nil)) rfl)
    (pss_cons (ps_fld (pv 0) (pe_ix ix_list (pe_fld (pv 0) rfl) pe_int (fun _ _ => rfl)) rfl)
    (pss_cons (ps_fld (pv 0) (pe_call GD hr2 rfl mD kD bD .nil pass0 (pa_cons (pe_fld (pv 0) rfl) pa_nil)) rfl)
    (pss_cons (ps_fld (pv 0) (pe_call GL hr1 rfl mL kL bL .nil pass0 (pa_cons (pe_fld (pv 0) rfl) (pa_cons pe_int pa_nil))) rfl)
    (pss_cons (ps_fld (pv 0) pe_non rfl)
    (pss_cons (ps_fld (pv 0) pe_non rfl)
    (pss_cons (ps_if (pt_cmpR op_eq (pe_fld (pv 0) rfl) pe_str (nomark _)) (pss_cons ps_never (pss_one ps_never)) pss_nil)
    (pss_one (ps_if (pt_cmpR op_eq (pe_fld (pv 0) rfl) pe_str (nomark _)) (pss_one ps_never) pss_nil))))))))), ?_⟩
  have xa : a ≠ x := fun e => by rw [e, hx] at ha; cases ha
  refine ⟨_, rfl, a, rfl, ha, fun H1 b s1 nb hb => ?_⟩
  have hx1 := s1 _ _ hx
  have ha1 := s1 _ _ ha
  have xb : b ≠ x := fun e => by rw [e, hx] at nb; cases nb
  refine ⟨_, rfl, x, C, dx, _, rfl, hx1, c, n1, by decide, ?_⟩
  have st : ∀ (Hk : Hp) (fs' : List (Str × V)), But x H Hk → Hk b = some (.lst [.ref o1, .ref o0]) → But x H (upd Hk x (.ins C dx fs')) ∧ upd Hk x (.ins C dx fs') b = some (.lst [.ref o1, .ref o0]) ∧ upd Hk x (.ins C dx fs') x = some (.ins C dx fs') := fun Hk fs' u h => ⟨u.trans but_put, by rw [upd_ne xb]; exact h, upd_same⟩
  obtain ⟨u2, hb2, hx2⟩ := st H1 (F1 b) (But.same s1) hb
  have ha2 : upd H1 x (.ins C dx (F1 b)) a = some (.lst [.ref o1, .ref o0]) := by rw [upd_ne xa]; exact ha1
  generalize upd H1 x (.ins C dx (F1 b)) = H2 at u2 hb2 hx2 ha2
  refine ⟨_, rfl, a, _, rfl, .inl (SqL.of ha2), _, rfl, x, C, dx, _, rfl, hx2, c, n2, (by show 1 < 1000; decide), ?_⟩
  obtain ⟨u3, hb3, hx3⟩ := st H2 (F2 o1 o0 b) u2 hb2
  generalize upd H2 x (.ins C dx (F2 o1 o0 b)) = H3 at u3 hb3 hx3
  refine ⟨_, rfl, x, C, dx, _, _, rfl, hx3, c, n1, rfl, b, _, 0, _, rfl, rfl, SqL.of hb3, rfl, _, rfl, x, C, dx, _, rfl, hx3, c, n3, (by show 2 < 1000; decide), ?_⟩
  obtain ⟨u4, hb4, hx4⟩ := st H3 (F3 o1 o0 b) u3 hb3
  generalize upd H3 x (.ins C dx (F3 o1 o0 b)) = H4 at u4 hb4 hx4
  refine ⟨_, rfl, x, C, dx, _, _, rfl, hx4, c, n1, rfl, b, rfl, hb4, fun H5 s5 => ?_⟩
  have hx5 := s5 _ _ hx4
  refine ⟨_, rfl, x, C, dx, _, rfl, hx5, c, n4, (by show 3 < 1000; decide), ?_⟩
  obtain ⟨u6, hb6, hx6⟩ := st H5 (F4 o1 o0 b) (u4.trans (But.same s5)) (s5 _ _ hb4)
  generalize upd H5 x (.ins C dx (F4 o1 o0 b)) = H6 at u6 hb6 hx6
  refine ⟨_, rfl, x, C, dx, _, _, rfl, hx6, c, n1, rfl, b, rfl, hb6, fun H7 s7 => ?_⟩
  have hx7 := s7 _ _ hx6
  refine ⟨_, rfl, x, C, dx, _, rfl, hx7, c, n5, (by show 4 < 1000; decide), ?_⟩
  obtain ⟨u8, hb8, hx8⟩ := st H7 (F5 o1 o0 b) (u6.trans (But.same s7)) (s7 _ _ hb6)
  generalize upd H7 x (.ins C dx (F5 o1 o0 b)) = H8 at u8 hb8 hx8
  refine ⟨_, rfl, x, C, dx, _, rfl, hx8, c, n6, (by show 5 < 1000; decide), ?_⟩
  obtain ⟨u9, hb9, hx9⟩ := st H8 (F6 o1 o0 b) u8 hb8
  generalize upd H8 x (.ins C dx (F6 o1 o0 b)) = H9 at u9 hb9 hx9
  refine ⟨_, rfl, x, C, dx, _, rfl, hx9, c, n7, (by show 6 < 1000; decide), ?_⟩
  obtain ⟨u10, hb10, hx10⟩ := st H9 (F7 o1 o0 b) u9 hb9
  generalize upd H9 x (.ins C dx (F7 o1 o0 b)) = H10 at u10 hb10 hx10
  refine ⟨_, rfl, x, C, dx, _, _, rfl, hx10, c, n4, rfl, rfl, _, rfl, iteF ?_⟩
  exact ⟨_, rfl, x, C, dx, _, _, rfl, hx10, c, n4, rfl, rfl, _, rfl, iteF (q _ _ u10 hx10)⟩
def spSt (C : Addr) : Sp := fun vs H Q _ => vs = [.int 2] ∧ ∀ H' x dx fs, Same H H' → H x = none → H' x = some (.ins C dx fs) → Q (.ref x) H'
theorem scSt : FnScope ["order"] ["order"] (defScope (inClass (top 69) 1)) := ⟨rfl, rfl, rfl, by decide +kernel, rfl, by decide +kernel, by decide +kernel⟩
theorem ok_still {C fN : Addr} {fdN : FuncData} (G : Fun K "still" "Step.still" (inClass (top 69) 1) f fd) (M : Mk K C fI) (mS : mg "Step" = some (.ref C))
    (GI : FnOk P w K mg base CX0 6 fI fdI ["self", "numbers"] (spIn C o1 o0)) (bI : Binds K fdI ["self", "numbers"] [])
    (GC : FnOk P w K mg base CX0 3 fC fdC ["order"] spCo) (bC : Binds K fdC ["order"] []) (kC : PySem.W.keepIn K (.ref fC) = true) (mC : mg "check_order" = some (.ref fC))
    (GN : FnOk P w K mg base CX0 1 fN fdN ["order"] (spSn o1 o0)) (bN : Binds K fdN ["order"] []) (kN : PySem.W.keepIn K (.ref fN) = true) (mN : mg "still_numbers" = some (.ref fN)) :
    FnOk P w K mg base CX0 8 f fd ["order"] (spSt C) := by
  refine G.ok scSt (fun vs H Q E h => ?_) (fun cdv A outer s H vs Q E hr h => ?_)
  · obtain ⟨rfl, _⟩ := h
    rfl
  obtain ⟨rfl, q⟩ := h
  have hr1 := hr.mono (show 1 ≤ 7 by decide)
  have hr3 := hr.mono (show 3 ≤ 7 by decide)
  refine ⟨_, pss_cons (ps_expr (pe_call GC hr3 rfl mC kC bC .nil pass0 (pa_cons (pv 0) pa_nil)))
    (pss_one (ps_ret (pe_make M GI hr rfl mS bI .nil pass0 (pa_cons (pe_call GN hr1 rfl mN kN bN .nil pass0 (pa_cons (pv 0) pa_nil)) pa_nil)))), ?_⟩
  refine ⟨_, rfl, 2, rfl, by decide, by decide, _, rfl, rfl, fun H1 b s1 nb hb => ?_⟩
  intro x dx nx ndx ne
  have e1 : upd (upd H1 dx (.own x)) x (.ins C dx []) x = some (.ins C dx []) := upd_same
  have sm : Same H1 (upd (upd H1 dx (.own x)) x (.ins C dx [])) := (new_same ndx _).trans (new_same (by rw [upd_ne (Ne.symm ne)]; exact nx) _)
  refine ⟨x, b, dx, rfl, e1, sm _ _ hb, fun H' fs u hx => ⟨rfl, q H' x dx fs ?_ (s1.free nx) hx⟩⟩
  intro e o he
  have h1 := s1 _ _ he
  exact u e o (fun z => by rw [z, nx] at h1; cases h1) (sm _ _ h1)
end
end Kr
end
section
set_option maxHeartbeats 4000000
namespace Kr
open PySem PySem.Spec PyProof.Rows L2 RZ SX
theorem FrN.s {H0 H : Hp} {n : Nat} {v : V} (h : FrN H0 H n v) (hn : n ≤ 10 ^ 60) : ∃ (t : Addr) (x : Int) (y : Nat), v = .ref t ∧ FrS H t x y := by
  obtain ⟨a, u, l, rfl, _, h1, h2, h3, h4, h5⟩ := h
  refine ⟨a, u, l.toNat, rfl, ?_, by omega, by omega, by omega, ?_⟩
  · rw [h1, show ((l.toNat : Nat) : Int) = l by omega]
  · rw [show l.toNat = l.natAbs by omega]
    exact h5
theorem FrS.same {H H' : Hp} {t : Addr} {x : Int} {y : Nat} (h : FrS H t x y) (s : Same H H') : FrS H' t x y := ⟨s _ _ h.1, h.2⟩
theorem FrS.but {H H' : Hp} {B p t : Addr} {x : Int} {y : Nat} (h : FrS H t x y) (b : Bag H B p) (u : But B H H') : FrS H' t x y := ⟨u _ _ (b.tup h.1) h.1, h.2⟩
theorem FrS.tw {H0 H : Hp} {v : V} {t : Addr} {x : Int} {y : Nat} (h : FrS H t x y) (o : OutV H0 H v (some (x, (y : Int)))) : Tw (Trk H) (Trk H) 1 H v (.ref t) := by
  obtain ⟨t', rfl, n, h'⟩ := o
  exact .inr ⟨t', t, _, _, rfl, rfl, (by show 2 ≤ 60; decide), ⟨_, h'⟩, ⟨_, h.1⟩, .cons ⟨rfl, rfl⟩ (.cons ⟨rfl, rfl⟩ .nil), .inr ⟨h', h.1⟩⟩
/-- no str -/
def NoS (K : PySem.W.Frag) (H : Hp) (v : V) : Prop := ∃ T, TyX K H v T ∧ PySem.W.kitOne K T (.type "str") = some false
theorem kb_ns : kitB "NoneType" "str" = some false ∧ kitB "bool" "str" = some false ∧ kitB "int" "str" = some false ∧ kitB "tuple" "str" = some false ∧ kitB "list" "str" = some false := by decide +kernel
/-- what stands of the class Step -/
structure StC (K : PySem.W.Frag) (C : Addr) : Prop where
  c : Cls K C
  ha : PySem.W.findIn K (.ref C) "__class__" = some (some (.builtin "object.__class__"))
  hn : PySem.W.specialIn K (.builtin "object.__class__") "__get__" = some (some (.builtin "getset_descriptor.__get__"))
  htk : PySem.W.takesIn K (.builtin "object.__class__") = some true
  hm : PySem.W.mroIn K C (.type "object") = some true
  ks : PySem.W.kitOne K (.ref C) (.type "str") = some false
def spLaw (K : PySem.W.Frag) : Sp := fun vs H Q _ => ∃ (a : Addr) (ns : List Int), vs = [.ref a] ∧ SqL K H a (ns.map V.int) ∧ ∀ H', Q (.bl true) H'
abbrev nLaw : List Str := ["_law_script", "_law_bag_here", "_law_lap", "_law_a", "_law_turn", "_law_word", "_law_thing"]
section
variable {P : Program} {w : World} {K : PySem.W.Frag} {mg : Str → Option Value} {base : Heap} {f fG fD fO fB fW fN fT fX fK fR fL fY fS C pS : Addr} {fd fdG fdD fdO fdB fdW fdN fdT fdX fdK fdR fdL fdY fdS : FuncData}
theorem scLaw : FnScope nLaw ["_law_script"] (defScope (top 89)) := ⟨rfl, rfl, rfl, by decide +kernel, rfl, by decide +kernel, by decide +kernel⟩
theorem ok_law (F : Fun K "law" "law" (top 89) f fd) (mr : mg "range" = none)
    (GG : FnOk P w K mg base CX0 1 fG fdG ["_law_script"] (spBag K)) (bG : Binds K fdG ["_law_script"] []) (kG : PySem.W.keepIn K (.ref fG) = true) (mG : mg "_law_bag" = some (.ref fG))
    (GD : FnOk P w K mg base CX0 1 fD fdD ["_law_bag_here", "_law_limit"] spDraw) (bD : Binds K fdD ["_law_bag_here", "_law_limit"] []) (kD : PySem.W.keepIn K (.ref fD) = true) (mD : mg "_law_draw" = some (.ref fD))
    (GO : FnOk P w K mg base CX0 2 fO fdO ["_law_bag_here", "_law_things"] spOfL) (bO : Binds K fdO ["_law_bag_here", "_law_things"] []) (kO : PySem.W.keepIn K (.ref fO) = true) (mO : mg "_law_of" = some (.ref fO))
    (GB : FnOk P w K mg base CX0 5 fB fdB ["_law_bag_here"] spRS) (bB : Binds K fdB ["_law_bag_here"] []) (kB : PySem.W.keepIn K (.ref fB) = true) (mB : mg "_law_root_so" = some (.ref fB))
    (GW : FnOk P w K mg base CX0 4 fW fdW ["_law_bag_here"] spWide) (bW : Binds K fdW ["_law_bag_here"] []) (kW : PySem.W.keepIn K (.ref fW) = true) (mW : mg "_law_wide" = some (.ref fW))
    (GN : FnOk P w K mg base CX0 3 fN fdN ["_law_bag_here"] spNum) (bN : Binds K fdN ["_law_bag_here"] []) (kN : PySem.W.keepIn K (.ref fN) = true) (mN : mg "_law_number" = some (.ref fN))
    (GT : FnOk P w K mg base CX0 1 fT fdT ["value"] spTxt) (bT : Binds K fdT ["value"] []) (bT2 : KBn K fdT ["value"] 0 ["value"] revB revA) (kT : PySem.W.keepIn K (.ref fT) = true) (mT : mg "fraction_text" = some (.ref fT))
    (GX : FnOk P w K mg base CX0 1 fX fdX ["_law_a"] spTxt) (bX : Binds K fdX ["_law_a"] []) (kX : PySem.W.keepIn K (.ref fX) = true) (mX : mg "_law_written" = some (.ref fX))
    (GK : FnOk P w K mg base CX0 3 fK fdK ["_law_told", "_law_due"] (spLike 2)) (bK : Binds K fdK ["_law_told", "_law_due"] []) (kK : PySem.W.keepIn K (.ref fK) = true) (mK : mg "_law_like" = some (.ref fK))
    (GR : FnOk P w K mg base CX0 3 fR fdR ["text"] (spRead K)) (bR : Binds K fdR ["text"] []) (bR2 : KBn K fdR ["text"] 0 ["text"] revB revA) (kR : PySem.W.keepIn K (.ref fR) = true) (mR : mg "read_fraction" = some (.ref fR))
    (GL : FnOk P w K mg base CX0 2 fL fdL ["_law_thing"] (spRead K)) (bL : Binds K fdL ["_law_thing"] []) (kL : PySem.W.keepIn K (.ref fL) = true) (mL : mg "_law_read" = some (.ref fL))
    (GY : FnOk P w K mg base CX0 3 fY fdY ["_law_bag_here", "_law_a"] spText) (bY : Binds K fdY ["_law_bag_here", "_law_a"] []) (kY : PySem.W.keepIn K (.ref fY) = true) (mY : mg "_law_text" = some (.ref fY))
    (GS : FnOk P w K mg base CX0 8 fS fdS ["order"] (spSt C)) (bS : Binds K fdS ["order"] []) (mS : mg "Step" = some (.ref C)) (rS : ClX.CRead K C (.type "type")) (cS : CSta K C (.type "type") "still" pS fS) (sC : StC K C) :
    FnOk P w K mg base CX0 9 f fd ["_law_script"] (spLaw K) := by
  refine F.ok scLaw (fun vs H Q E h => ?_) (fun cdv A outer s H vs Q E hr h => ?_)
  · obtain ⟨a, ns, rfl, _⟩ := h
    rfl
  obtain ⟨sa, ns, rfl, hs, q⟩ := h
  have hr1 := hr.mono (show 1 ≤ 8 by decide)
  have hr2 := hr.mono (show 2 ≤ 8 by decide)
  have hr3 := hr.mono (show 3 ≤ 8 by decide)
  have hr4 := hr.mono (show 4 ≤ 8 by decide)
  have hr5 := hr.mono (show 5 ≤ 8 by decide)
  refine ⟨_, pss_cons (ps_set (i := 1) scLaw.nd rfl (Or.inl rfl) (pe_call GG hr1 rfl mG kG bG .nil pass0 (pa_cons (pv 0) pa_nil)))
    (pss_cons (ps_for PassesOwn.never rfl (pi_range1 rfl mr (pa_cons pe_int pa_nil)) (pg_name (i := 2) scLaw.nd rfl (Or.inl rfl))
      (pss_cons (ps_if (pt_not (pt_val (pe_call GB hr5 rfl mB kB bB .nil pass0 (pa_cons (pv 1) pa_nil)))) (pss_one (ps_ret pe_bl)) pss_nil)
      (C8.pss_cut (ps_set (i := 3) scLaw.nd rfl (Or.inl rfl) (pe_ifExp (pt_cmpR op_gt (pe_call GD hr1 rfl mD kD bD .nil pass0 (pa_cons (pv 1) (pa_cons pe_int pa_nil))) pe_int (nomark _)) (pe_call GW hr4 rfl mW kW bW .nil pass0 (pa_cons (pv 1) pa_nil)) (pe_call GN hr3 rfl mN kN bN .nil pass0 (pa_cons (pv 1) pa_nil))))
      (C8.pss_cut (ps_if (pt_not (pt_val (pe_call GK hr3 rfl mK kK bK .nil pass0 (pa_cons (pe_lst (pa_cons (pe_call GT hr1 rfl mT kT bT .nil pass0 (pa_cons (pv 3) pa_nil)) (pa_cons (pe_callR GT hr1 rfl mT kT bT2 pass0 (pk_cons (pv 3) pk_nil)) pa_nil))) (pa_cons (pe_lst (pa_cons (pe_call GX hr1 rfl mX kX bX .nil pass0 (pa_cons (pv 3) pa_nil)) (pa_cons (pe_call GX hr1 rfl mX kX bX .nil pass0 (pa_cons (pv 3) pa_nil)) pa_nil))) pa_nil))))) (pss_one (ps_ret pe_bl)) pss_nil)
      (C8.pss_cut (ps_if (pt_not (pt_val (pe_call GK hr3 rfl mK kK bK .nil pass0 (pa_cons (pe_call GR hr3 rfl mR kR bR .nil pass0 (pa_cons (pe_call GX hr1 rfl mX kX bX .nil pass0 (pa_cons (pv 3) pa_nil)) pa_nil)) (pa_cons (pv 3) pa_nil))))) (pss_one (ps_ret pe_bl)) pss_nil)
      (C8.pss_cut (ps_for PassesOwn.never rfl (pi_range1 rfl mr (pa_cons pe_int pa_nil)) (pg_name (i := 4) scLaw.nd rfl (Or.inl rfl))
        (pss_cons (ps_set (i := 5) scLaw.nd rfl (Or.inl rfl) (pe_call GY hr3 rfl mY kY bY .nil pass0 (pa_cons (pv 1) (pa_cons (pv 3) pa_nil))))
        (pss_one (ps_if (pt_not (pt_val (pe_call GK hr3 rfl mK kK bK .nil pass0 (pa_cons (pe_lst (pa_cons (pe_call GR hr3 rfl mR kR bR .nil pass0 (pa_cons (pv 5) pa_nil)) (pa_cons (pe_callR GR hr3 rfl mR kR bR2 pass0 (pk_cons (pv 5) pk_nil)) pa_nil))) (pa_cons (pe_lst (pa_cons (pe_call GL hr2 rfl mL kL bL .nil pass0 (pa_cons (pv 5) pa_nil)) (pa_cons (pe_call GL hr2 rfl mL kL bL .nil pass0 (pa_cons (pv 5) pa_nil)) pa_nil))) pa_nil))))) (pss_one (ps_ret pe_bl)) pss_nil))))
      (C8.pss_cut (ps_set (i := 6) scLaw.nd rfl (Or.inl rfl) (pe_call GO hr2 rfl mO kO bO .nil pass0 (pa_cons (pv 1) (pa_cons (pe_lst (pa_cons pe_non (pa_cons pe_bl (pa_cons pe_bl (pa_cons pe_int (pa_cons pe_int (pa_cons (pv 3) (pa_cons (pe_lst (pa_cons pe_str pa_nil)) (pa_cons (pe_tup (pa_cons pe_str pa_nil)) (pa_cons (pe_lst pa_nil) (pa_cons (pe_static (C8.pe_gc (v := .ref C) rfl ⟨_, mS, rfl⟩) rS cS GS hr bS pass0 (pa_cons pe_int pa_nil)) (pa_cons (pe_tup (pa_cons pe_int (pa_cons pe_int pa_nil))) pa_nil)))))))))))) pa_nil))))
      (pss_one (ps_if (pt_cmpR op_notN (pe_call GR hr3 rfl mR kR bR .nil pass0 (pa_cons (pv 6) pa_nil)) pe_non (nomark _)) (pss_one (ps_ret pe_bl)) pss_nil)))))))))
    (pss_one (ps_ret pe_bl))), ?_⟩
  refine ⟨_, rfl, sa, ns, rfl, hs, fun H0 B p s0 nB b0 => ⟨4, rfl, by decide, by decide, for_range (lo := 0) (n := Int.toNat 4) (fun i σ H' => ∃ v2 v3 v4 v5 v6 : Option V, σ = [some (.ref sa), some (.ref B), v2, v3, v4, v5, v6] ∧ Bag H' B p) ⟨none, none, none, none, none, rfl, b0⟩ ?_ ?_⟩⟩
  · rintro i σ H1 hi ⟨v2, v3, v4, v5, v6, rfl, b1⟩
    refine ⟨_, rfl, B, p, rfl, b1, fun H2 b2 u2 => ⟨_, rfl, iteF ?_⟩⟩
    refine ⟨fun σ' H' => ∃ (t : Addr) (x : Int) (y : Nat) (v2 : Option V), σ' = [some (.ref sa), some (.ref B), v2, some (.ref t), v4, v5, v6] ∧ Bag H' B p ∧ FrS H' t x y, ?_, ?_⟩
    · refine ⟨_, rfl, B, p, 3, rfl, by decide, by decide, b2, fun H3 c b3 u3 _ _ => ⟨c, 0, rfl, rfl, _, rfl, ite2 (fun _ => ?_) (fun _ => ?_)⟩⟩
      · refine ⟨_, rfl, B, p, rfl, b3, fun H4 v b4 u4 hv => ?_⟩
        obtain ⟨t, x, y, rfl, hf⟩ := hv.s (Nat.le_refl _)
        exact ⟨t, x, y, _, rfl, b4, hf⟩
      · refine ⟨_, rfl, B, p, rfl, b3, fun H4 v b4 u4 hv => ?_⟩
        obtain ⟨t, x, y, rfl, hf⟩ := hv.s (by decide +kernel)
        exact ⟨t, x, y, _, rfl, b4, hf⟩
    rintro σ' H3 ⟨t, x, y, v2', rfl, b3, hf⟩
    refine ⟨fun σ' H' => σ' = [some (.ref sa), some (.ref B), v2', some (.ref t), v4, v5, v6] ∧ Bag H' B p ∧ FrS H' t x y, ?_, ?_⟩
    · obtain ⟨ht, hx, hy, y0, hg⟩ := id hf
      refine ⟨_, rfl, t, x, y, rfl, ht, hx, hy, _, rfl, rfl, t, x, y, rfl, ht, hx, hy, (by show 2 ≤ sizeLine; decide), fun d nd => ?_⟩
      have sd := new_same nd (.lst [V.str (S (wrL x y)), V.str (S (wrL x y))])
      refine ⟨_, rfl, t, x, y, rfl, sd _ _ ht, hx, hy, _, rfl, t, x, y, rfl, sd _ _ ht, hx, hy, (by show 2 ≤ sizeLine; decide), fun e ne => ?_⟩
      have se := new_same ne (.lst [V.str (S (wrL x y)), V.str (S (wrL x y))])
      refine ⟨.ref d, .ref e, _, _, rfl, tw_lists (se _ _ upd_same) upd_same (by show 2 ≤ 60; decide) (.cons (Tw.flat rfl) (.cons (Tw.flat rfl) .nil)), fun H4 s4 => ⟨_, rfl, iteF ⟨rfl, ?_, ?_⟩⟩⟩
      · exact b3.same (sd.trans (se.trans s4))
      · exact hf.same (sd.trans (se.trans s4))
    rintro σ' H4 ⟨rfl, b4, hf⟩
    refine ⟨fun σ' H' => σ' = [some (.ref sa), some (.ref B), v2', some (.ref t), v4, v5, v6] ∧ Bag H' B p ∧ FrS H' t x y, ?_, ?_⟩
    · obtain ⟨ht, hx, hy, y0, hg⟩ := id hf
      refine ⟨_, rfl, t, x, y, rfl, ht, hx, hy, .inl ⟨wrL x y, _, rfl, Nat.le_trans (wr_len hx hy) (by decide), wr_read hx hy y0 hg, fun H5 v s5 ov => ?_⟩⟩
      refine ⟨_, rfl, v, .ref t, _, _, rfl, Tw.succ ((hf.same s5).tw ov), fun H6 s6 => ⟨_, rfl, iteF ⟨rfl, b4.same (s5.trans s6), hf.same (s5.trans s6)⟩⟩⟩
    rintro σ' H5 ⟨rfl, b5, hf⟩
    refine ⟨fun σ' H' => ∃ v4 v5 : Option V, σ' = [some (.ref sa), some (.ref B), v2', some (.ref t), v4, v5, v6] ∧ Bag H' B p ∧ FrS H' t x y, ?_, ?_⟩
    · refine ⟨4, rfl, by decide, by decide, for_range (lo := 0) (n := Int.toNat 4) (fun i σ H' => ∃ v4 v5 : Option V, σ = [some (.ref sa), some (.ref B), v2', some (.ref t), v4, v5, v6] ∧ Bag H' B p ∧ FrS H' t x y) ⟨_, _, rfl, b5, hf⟩ ?_ ?_⟩
      · rintro j σ H6 hj ⟨w4, w5, rfl, b6, hf⟩
        refine ⟨_, rfl, _, rfl, B, p, t, x, y, rfl, b6, hf, fun H7 z b7 u7 hz => ?_⟩
        have hf := hf.but b6 u7
        obtain ⟨l, rfl⟩ : ∃ l, z = S l := ⟨_, (S_tl z).symm⟩
        rw [S_len] at hz
        obtain ⟨o, ho⟩ := rdS_ex l
        refine ⟨_, rfl, .inl ⟨l, o, rfl, hz, ho, fun H8 r1 s8 o1 => ?_⟩⟩
        refine ⟨_, rfl, rfl, .inl ⟨l, o, rfl, hz, ho, fun H9 r2 s9 o2 => ?_⟩⟩
        refine ⟨(by show 2 ≤ sizeLine; decide), fun d nd => ?_⟩
        have sd := new_same nd (.lst [r1, r2])
        have hd : upd H9 d (.lst [r1, r2]) d = some (.lst [r1, r2]) := upd_same
        generalize upd H9 d (.lst [r1, r2]) = H10 at sd hd
        refine ⟨_, rfl, .inl ⟨l, o, rfl, hz, ho, fun H11 r3 s11 o3 => ?_⟩⟩
        refine ⟨_, rfl, .inl ⟨l, o, rfl, hz, ho, fun H12 r4 s12 o4 => ?_⟩⟩
        refine ⟨(by show 2 ≤ sizeLine; decide), fun e ne => ?_⟩
        have se := new_same ne (.lst [r3, r4])
        have he : upd H12 e (.lst [r3, r4]) e = some (.lst [r3, r4]) := upd_same
        generalize upd H12 e (.lst [r3, r4]) = H13 at se he
        have z1 := s9.trans (sd.trans (s11.trans (s12.trans se)))
        have z2 := sd.trans (s11.trans (s12.trans se))
        have z3 := s12.trans se
        have hd := s11.trans z3 _ _ hd
        refine ⟨.ref d, .ref e, _, _, rfl, tw_lists hd he (by show 2 ≤ 60; decide) (.cons ((o1.same z1).tw (o3.same z3)) (.cons ((o2.same z2).tw (o4.same se)) .nil)), fun H14 s14 => ?_⟩
        exact ⟨_, rfl, iteF ⟨_, _, rfl, b7.same (s8.trans (z1.trans s14)), hf.same (s8.trans (z1.trans s14))⟩⟩
      · rintro σ H6 ⟨w4, w5, rfl, b6, hf⟩
        exact ⟨w4, w5, rfl, b6, hf⟩
    rintro σ' H6 ⟨w4, w5, rfl, b6, hf⟩
    refine ⟨fun σ' H' => ∃ z : V, σ' = [some (.ref sa), some (.ref B), v2', some (.ref t), w4, w5, some z] ∧ Bag H' B p ∧ NoS K H' z, ?_, ?_⟩
    · refine ⟨_, rfl, _, rfl, (by show 1 ≤ sizeLine; decide), fun a1 n1 => ⟨(by show 1 ≤ sizeLine; decide), fun a2 n2 => ⟨(by show 0 ≤ sizeLine; decide), fun a3 n3 => ⟨rfl, rfl, fun H7 xi dx fs s7 nx hxi => ⟨(by show 2 ≤ sizeLine; decide), fun a4 n4 => ⟨(by show 11 ≤ sizeLine; decide), fun g ng => ?_⟩⟩⟩⟩⟩⟩
      have m1 := new_same n1 (.lst [V.str "1"])
      have e1 : upd H6 a1 (.lst [V.str "1"]) a1 = some (.lst [V.str "1"]) := upd_same
      have m2 := new_same n2 (.tup [V.str "1/2"])
      have e2 : upd (upd H6 a1 (.lst [V.str "1"])) a2 (.tup [V.str "1/2"]) a2 = some (.tup [V.str "1/2"]) := upd_same
      have m3 := new_same n3 (.lst [])
      have e3 : upd (upd (upd H6 a1 (.lst [V.str "1"])) a2 (.tup [V.str "1/2"])) a3 (.lst []) a3 = some (.lst []) := upd_same
      have m4 := new_same n4 (.tup [V.int 1, V.int 2])
      have e4 : upd H7 a4 (.tup [V.int 1, V.int 2]) a4 = some (.tup [V.int 1, V.int 2]) := upd_same
      have b7 := b6.same (m1.trans (m2.trans (m3.trans s7)))
      have b8 := b7.same m4
      have o1 := (b6.at n1).1
      have o2 := ((b6.same m1).at n2).1
      have o3 := ((b6.same (m1.trans m2)).at n3).1
      have ox := ((b6.same (m1.trans (m2.trans m3))).at nx).1
      have o4 := (b7.at n4).1
      have f8 := hf.same (m1.trans (m2.trans (m3.trans (s7.trans m4))))
      have e1 := (m2.trans (m3.trans (s7.trans m4))) _ _ e1
      have e2 := (m3.trans (s7.trans m4)) _ _ e2
      have e3 := (s7.trans m4) _ _ e3
      have ex := m4 _ _ hxi
      refine ⟨B, p, g, _, rfl, upd_same, (b8.at ng).1, (by show 0 < 11; decide), (by show 11 ≤ 1000; decide), b8.put ng, fun H10 v b10 u10 hv => ⟨v, rfl, b10, ?_⟩⟩
      have u10 := (But.new (B := B) ng).trans u10
      obtain ⟨ft, _⟩ := f8.but b8 u10
      simp only [List.mem_cons, List.not_mem_nil, or_false] at hv
      rcases hv with rfl | rfl | rfl | rfl | rfl | rfl | rfl | rfl | rfl | rfl | rfl
      · exact ⟨_, .base .non, kit_ty kb_ns.1⟩
      · exact ⟨_, .base (.bl _), kit_ty kb_ns.2.1⟩
      · exact ⟨_, .base (.bl _), kit_ty kb_ns.2.1⟩
      · exact ⟨_, .base (.int _), kit_ty kb_ns.2.2.1⟩
      · exact ⟨_, .base (.int _), kit_ty kb_ns.2.2.1⟩
      · exact ⟨_, .base (.tup ft), kit_ty kb_ns.2.2.2.1⟩
      · exact ⟨_, .base (.lst (u10 _ _ o1 e1)), kit_ty kb_ns.2.2.2.2⟩
      · exact ⟨_, .base (.tup (u10 _ _ o2 e2)), kit_ty kb_ns.2.2.2.1⟩
      · exact ⟨_, .base (.lst (u10 _ _ o3 e3)), kit_ty kb_ns.2.2.2.2⟩
      · exact ⟨_, .base (.ins (u10 _ _ ox ex) sC.c sC.ha sC.hn sC.htk sC.hm), sC.ks⟩
      · exact ⟨_, .base (.tup (u10 _ _ o4 e4)), kit_ty kb_ns.2.2.2.1⟩
    rintro σ' H7 ⟨z, rfl, b7, T, ty, k⟩
    exact ⟨_, rfl, .inr ⟨z, T, rfl, ty, k, rfl, _, rfl, iteF ⟨_, _, _, _, _, rfl, b7⟩⟩⟩
  · rintro σ H1 ⟨v2, v3, v4, v5, v6, rfl, b1⟩
    exact q H1
end
end Kr
end
section
set_option maxHeartbeats 4000000
namespace Kr
open PySem PySem.Spec PyProof.Rows L2
/-- a def of the module: its name, its place in the text, its address -/
structure LD where
  nm : Str
  ix : Nat
  f : Addr
def ldT : List LD := [
  ⟨"is_whole", 20, 237⟩,
  ⟨"is_between", 21, 244⟩,
  ⟨"is_fraction", 22, 251⟩,
  ⟨"raised", 27, 286⟩,
  ⟨"whole_root", 28, 293⟩,
  ⟨"root_of", 29, 300⟩,
  ⟨"fraction_text", 30, 307⟩,
  ⟨"is_digits", 31, 312⟩,
  ⟨"read_fraction", 32, 319⟩,
  ⟨"is_listing", 36, 326⟩,
  ⟨"check_order", 37, 333⟩,
  ⟨"checked_numbers", 42, 368⟩,
  ⟨"is_zero", 46, 387⟩,
  ⟨"least_place", 47, 394⟩,
  ⟨"still_numbers", 53, 428⟩,
  ⟨"kind_of", 68, 513⟩,
  ⟨"_law_bag", 71, 659⟩,
  ⟨"_law_draw", 72, 666⟩,
  ⟨"_law_of", 73, 673⟩,
  ⟨"_law_like", 74, 678⟩,
  ⟨"_law_low", 75, 685⟩,
  ⟨"_law_neg", 76, 692⟩,
  ⟨"_law_number", 77, 699⟩,
  ⟨"_law_big", 78, 706⟩,
  ⟨"_law_wide", 79, 713⟩,
  ⟨"_law_raised", 80, 720⟩,
  ⟨"_law_floor", 81, 727⟩,
  ⟨"_law_double", 82, 734⟩,
  ⟨"_law_root", 83, 741⟩,
  ⟨"_law_root_so", 84, 748⟩,
  ⟨"_law_digits", 85, 753⟩,
  ⟨"_law_read", 86, 758⟩,
  ⟨"_law_written", 87, 765⟩,
  ⟨"_law_text", 88, 772⟩,
  ⟨"law", 89, 779⟩,
  ⟨"wrong_item", 40, 354⟩,
  ⟨"check_fractions", 41, 361⟩
]
abbrev stA : Addr := 648
abbrev inA : Addr := 527
abbrev seA : Addr := 534
abbrev srA : Addr := 536
abbrev zeA : Addr := 228
abbrev onA : Addr := 229
def freeN : List Str := ["isinstance", "len", "list", "tuple", "int", "range", "all", "zip", "bool", "str", "abs", "enumerate"]
def ldD (d : LD) : He5.DefA := { at_ := fun _ => d.f, name := d.nm, qual := d.nm, params := defArgs (top d.ix), body := defBody (top d.ix), scope := defScope (top d.ix) }
def inD : He5.DefA := { at_ := fun _ => inA, name := "__init__", qual := "Step.__init__", params := defArgs (inClass (top 69) 0), body := defBody (inClass (top 69) 0), scope := defScope (inClass (top 69) 0) }
def seD : He5.DefA := { at_ := fun _ => seA, name := "still", qual := "Step.still", params := defArgs (inClass (top 69) 1), body := defBody (inClass (top 69) 1), scope := defScope (inClass (top 69) 1) }
def fnT : List He5.DefA := inD :: seD :: ldT.map ldD
def kpB (K : PySem.W.Frag) (a : Addr) (x y : Int) : Bool := match K.lookup a with
  | some ⟨.type c, _, .seq its _, _⟩ => decide (c = "tuple") && (decide (its.size ≤ sizeLine) && He.relAll [.int x, .int y] its.toList)
  | _ => false
theorem kpB_ok {K : PySem.W.Frag} {a : Addr} {x y : Int} (h : kpB K a x y = true) : KP K a x y := by
  unfold kpB at h
  split at h
  · rename_i c d its n sl q
    obtain ⟨h1, h⟩ := He.ba h
    obtain ⟨h2, h3⟩ := He.ba h
    exact ⟨_, its, n, q, congrArg Value.type (of_decide_eq_true h1), rfl, of_decide_eq_true h2, He.relAll_ok h3⟩
  · cases h
/-- the looks -/
def faT : List (PySem.W.Frag → Bool) := [
  fun K => ldT.all fun d => He.eqO (PySem.W.nsIn K mainGlobals d.nm) (some (some (.ref d.f))),
  fun K => freeN.all fun x => He.eqO (PySem.W.nsIn K mainGlobals x) (some none),
  fun K => He.eqO (PySem.W.nsIn K mainGlobals "gcd") (some (some (.builtin "math.gcd"))),
  fun K => He.eqO (PySem.W.nsIn K mainGlobals "Step") (some (some (.ref stA))),
  fun K => He.eqO (PySem.W.nsIn K mainGlobals "ZERO") (some (some (.ref zeA))),
  fun K => He.eqO (PySem.W.nsIn K mainGlobals "ONE") (some (some (.ref onA))),
  (He.Fa.int "MOST_DIGITS" 60).ok,
  (He.Fa.int "LOWEST_ORDER" 2).ok,
  (He.Fa.int "HIGHEST_ORDER" 24).ok,
  (He.Fa.str "DIGITS" "0123456789").ok,
  fun K => kpB K zeA 0 1,
  fun K => kpB K onA 1 1,
  fun K => PySem.W.plainGet K stA Str.empty,
  fun K => PySem.W.hasDictIn K stA,
  fun K => PySem.W.plainOver K stA,
  fun K => He.eqO (PySem.W.findIn K (.ref stA) "__setattr__") (some (some (.builtin "object.__setattr__"))),
  fun K => stN.all fun x => He.eqO (PySem.W.findIn K (.ref stA) x) (some none),
  fun K => PySem.W.makesIn K stA,
  fun K => He.eqO (PySem.W.findIn K (.ref stA) "__init__") (some (some (.ref inA))),
  fun K => PySem.W.isFn K (.ref inA),
  fun K => PySem.W.keepIn K (.ref stA),
  fun K => He5.wrapB K stA "staticmethod" "staticmethod.__get__" "still",
  fun K => decide (He.ma K stA "still" = srA) && decide (He5.wf K stA "staticmethod" "still" = seA),
  fun K => PySem.W.readsIn K stA (.type "type"),
  fun K => He.eqO (PySem.W.specialIn K (.ref stA) "__getattribute__") (some (some (.builtin "type.__getattribute__"))),
  fun K => He.eqO (PySem.W.findIn K (.ref stA) "__class__") (some (some (.builtin "object.__class__"))),
  fun K => He.eqO (PySem.W.specialIn K (.builtin "object.__class__") "__get__") (some (some (.builtin "getset_descriptor.__get__"))),
  fun K => decide (PySem.W.takesIn K (.builtin "object.__class__") = some true),
  fun K => decide (PySem.W.mroIn K stA (.type "object") = some true),
  fun K => decide (PySem.W.kitOne K (.ref stA) (.type "str") = some false)]
abbrev ObV : Type := Bool × List He5.FnW
def obK (K : PySem.W.Frag) : ObV := ((faT.all fun f => f K) && fnT.all fun d => d.ok K, fnT.map fun d => He5.fnA K (d.at_ K))
def valR : ObV := (true, fnT.map He5.DefA.val)
def adr : List Addr := [mainGlobals, cStatics, stA, 647, inA, 526, seA, 533, srA, 535, zeA, onA] ++ ldT.flatMap fun d => [d.f, d.f - 1]
def obR (g : Addr → Option Obj) : ObV := obK (He.frG g adr)
def SaysR (K : PySem.W.Frag) : Prop := obK K = valR
def hookR : PySem.W.Hook where
  α := ObV
  obs := fun s => obR s.heap.get?
  val := fun _ => valR
  says := fun _ h => ∃ K : PySem.W.Frag, K.In h ∧ SaysR K
  of := fun _ _ e => ⟨_, He.frG_in, e⟩
  keeps := fun _ _ _ ⟨K, hK, c⟩ k => ⟨K, PySem.W.Frag.In.keeps hK k, c⟩
section
variable {K : PySem.W.Frag}
theorem SaysR.fact (c : SaysR K) (i : Nat) {f : PySem.W.Frag → Bool} (h : faT[i]? = some f := by rfl) : f K = true :=
  List.all_eq_true.mp (He.ba (show ((faT.all fun f => f K) && fnT.all fun d => d.ok K) = true from congrArg (fun z : ObV => z.1) c)).1 f (List.mem_of_getElem? h)
theorem SaysR.def_ (c : SaysR K) (i : Nat) {d : He5.DefA} (h : fnT[i]? = some d) : ∃ fd, L2.FunD K d.name d.qual d.params d.body d.scope (d.dvs K) (d.kws K) (d.at_ K) fd := by
  have c2 := (He.ba (show ((faT.all fun f => f K) && fnT.all fun d => d.ok K) = true from congrArg (fun z : ObV => z.1) c)).2
  have e : fnT.map (fun d => He5.fnA K (d.at_ K)) = fnT.map He5.DefA.val := congrArg (fun z : ObV => z.2) c
  have e2 : (fnT.map fun d => He5.fnA K (d.at_ K))[i]? = (fnT.map He5.DefA.val)[i]? := by rw [e]
  rw [List.getElem?_map, List.getElem?_map, h] at e2
  exact He5.DefA.funD (Option.some.inj e2) (List.all_eq_true.mp c2 d (List.mem_of_getElem? h))
theorem fun_ld (c : SaysR K) (i : Nat) {d : LD} (h : ldT[i]? = some d) : ∃ fd, Fun K d.nm d.nm (top d.ix) d.f fd := by
  obtain ⟨fd, F⟩ := c.def_ (i + 2) (d := ldD d) (by show (ldT.map ldD)[i]? = _; rw [List.getElem?_map, h]; rfl)
  exact ⟨fd, He5.fun_of F⟩
theorem fun_in (c : SaysR K) : ∃ fd, Fun K "__init__" "Step.__init__" (inClass (top 69) 0) inA fd := by
  obtain ⟨fd, F⟩ := c.def_ 0 rfl
  exact ⟨fd, He5.fun_of F⟩
theorem fun_se (c : SaysR K) : ∃ fd, Fun K "still" "Step.still" (inClass (top 69) 1) seA fd := by
  obtain ⟨fd, F⟩ := c.def_ 1 rfl
  exact ⟨fd, He5.fun_of F⟩
section
variable {h : Heap} {mg : Str → Option Value}
theorem mg_ld (X : K.In h) (G : h.Ns mainGlobals mg) (c : SaysR K) {d : LD} (hd : d ∈ ldT) : mg d.nm = some (.ref d.f) := PySem.W.mg_of X G (He.eqO_ok (List.all_eq_true.mp (c.fact 0) d hd))
theorem mg_free (X : K.In h) (G : h.Ns mainGlobals mg) (c : SaysR K) {x : Str} (hx : x ∈ freeN) : mg x = none := PySem.W.mg_none_of X G (He.eqO_ok (List.all_eq_true.mp (c.fact 1) x hx))
theorem mg_at (X : K.In h) (G : h.Ns mainGlobals mg) {x : Str} {v : Value} (e : He.eqO (PySem.W.nsIn K mainGlobals x) (some (some v)) = true) : mg x = some v := PySem.W.mg_of X G (He.eqO_ok e)
theorem at_ld (X : K.In h) (G : h.Ns mainGlobals mg) (c : SaysR K) {d : LD} (i : Nat) (e : ldT[i]? = some d) : (∃ fd, Fun K d.nm d.nm (top d.ix) d.f fd) ∧ mg d.nm = some (.ref d.f) := ⟨fun_ld c i e, mg_ld X G c (List.mem_of_getElem? e)⟩
end
theorem stC_of (c : SaysR K) : Cls K stA ∧ (∀ n ∈ stN, NoAttr K stA n) ∧ Mk K stA inA ∧ ClX.CRead K stA (.type "type") ∧
    PySem.W.findIn K (.ref stA) "__class__" = some (some (.builtin "object.__class__")) ∧ PySem.W.specialIn K (.builtin "object.__class__") "__get__" = some (some (.builtin "getset_descriptor.__get__")) ∧
    PySem.W.takesIn K (.builtin "object.__class__") = some true ∧ PySem.W.mroIn K stA (.type "object") = some true ∧ PySem.W.kitOne K (.ref stA) (.type "str") = some false :=
  ⟨⟨c.fact 12, c.fact 13, c.fact 14, He.eqO_ok (c.fact 15)⟩, fun n hn => He.eqO_ok (List.all_eq_true.mp (c.fact 16) n hn), ⟨c.fact 17, He.eqO_ok (c.fact 18), c.fact 19, c.fact 20⟩, ⟨c.fact 23, He.eqO_ok (c.fact 24)⟩,
    He.eqO_ok (c.fact 25), He.eqO_ok (c.fact 26), of_decide_eq_true (c.fact 27), of_decide_eq_true (c.fact 28), of_decide_eq_true (c.fact 29)⟩
theorem sta_of (c : SaysR K) (hk : PySem.W.keepIn K (.ref seA) = true) : CSta K stA (.type "type") "still" srA seA := by
  obtain ⟨h1, h2⟩ := He5.wrapB_ok (c.fact 21)
  obtain ⟨k1, k2⟩ := He.ba (c.fact 22)
  rw [of_decide_eq_true k1] at h1 h2
  rw [of_decide_eq_true k2] at h2
  exact ⟨h1, h2, hk⟩
end
end Kr
end
section
set_option maxHeartbeats 0
namespace Kr
open PySem PySem.Spec PyProof.Rows L2
abbrev R : PySem.W.OpenRow := PySem.W.OpenLaw.row PySem.Challenge.rw_creepclocks_k02_roots_and_texts_of_fract
def names0 : List PySem.Str := ["_wall", "CreepError", "InvalidFraction", "InvalidOrder", "UnlikeOrders", "InvalidPlace", "InvalidPower", "CantTurn", "NotSlow", "NoAnswer", "DividedByZero", "ZERO", "ONE", "MINUS_ONE", "DIGITS", "MOST_DIGITS", "MOST_POWER", "is_whole", "is_between", "is_fraction"]
def names1 : List PySem.Str := ["ratio", "difference_of", "product_of", "quotient_of", "raised", "whole_root", "root_of", "fraction_text", "is_digits", "read_fraction", "LOWEST_ORDER", "HIGHEST_ORDER", "is_listing", "check_order", "check_orders", "check_place", "wrong_item", "check_fractions", "checked_numbers", "check_slow"]
def names2 : List PySem.Str := ["check_turnable", "is_zero", "least_place", "differences_of", "dot", "mixed", "over_one_lower", "multiplied", "still_numbers", "table_lines", "put_behind", "solved", "turned_back", "done_times", "differences", "binomials", "binomial_power", "letter_text", "term_text", "term_words"]
def names3 : List PySem.Str := ["numbers_text", "kind_of", "Step", "_law_bag", "_law_draw", "_law_of", "_law_like", "_law_low", "_law_neg", "_law_number", "_law_big", "_law_wide", "_law_raised", "_law_floor", "_law_double", "_law_root", "_law_root_so", "_law_digits", "_law_read", "_law_written"]
def names4 : List PySem.Str := ["_law_text"]
def names : List PySem.Str := names0 ++ names1 ++ names2 ++ names3 ++ names4
abbrev hk : PySem.W.Hook := hookR
def ob (s : PySem.W.SharedT) : ObV := obR (HandSHeadRun.getT s)
theorem ob_eq (s : PySem.W.SharedT) : ob s = hk.obs s.abs := by
  have e : HandSHeadRun.getT s = s.abs.heap.get? := funext fun a => HandSHeadRun.getT_eq s a
  unfold ob
  rw [e]
  rfl
noncomputable abbrev endI (w : World) := HandSHeadRun.wholeF (fun p => HandSHeadRun.stepQ (HandSHeadRun.denQ HandSHeadRun.tabQ) p w) HandSHeadRun.fenceQ 20000 R.prog
abbrev qv := PySem.W.view R.prog [0, 89]
theorem run1 (w : World) : (endI w).map (fun x => (HandSHeadRun.looksF R.prog x.1.heap x.2.abs, ob x.2)) = some (true, valR) := by
  kernel_rfl
theorem run2 (w : World) : (endI w).map (fun x => HandSHeadRun.seenQ qv names (importedModules R.prog.main.body) (fun s => PySem.W.xlAt qv [] s && PySem.W.recOk R.toRowW.records s) x.2.abs) = some (PySem.W.openGood qv names) := by
  kernel_rfl
theorem run (w : World) : HandSHeadRun.RunEqI R qv hk ob 20000 names w := by
  obtain ⟨x, e1, e2⟩ := Option.map_eq_some_iff.mp (run1 w)
  have e3 := run2 w
  show (endI w).map _ = _
  rw [e1] at e3 ⊢
  have e4 := Option.some.inj e3
  have e5 := (Prod.mk.inj e2).1
  have e6 := (Prod.mk.inj e2).2
  show some (HandSHeadRun.looksF R.prog x.1.heap x.2.abs, HandSHeadRun.seenQ qv names (importedModules R.prog.main.body) (fun s => PySem.W.xlAt qv [] s && PySem.W.recOk R.toRowW.records s) x.2.abs, ob x.2) = _
  rw [e5, e6]
  exact congrArg some (congrArg (Prod.mk true) (congrArg (fun z => (z, valR)) e4))
end Kr
end
section
set_option maxHeartbeats 4000000
namespace Kr
open PySem PySem.Spec PyProof.Rows L2
section
variable {P : Program} {w : World} {K : PySem.W.Frag} {mg : Str → Option Value} {h : Heap}
theorem facts {f : Addr} (X : K.In h) (G : h.Ns mainGlobals mg) (hfa : mg ("law" : Str) = some (.ref f)) (c : SaysR K) :
    ∃ fd : FuncData, (∀ (s : Shared) (v : Value), BindsTo s fd ⟨[v], []⟩ [("_law_script", v)]) ∧ ∀ base : Heap, K.In base → base.Ns mainGlobals mg → FnOk P w K mg base CX0 9 f fd ["_law_script"] (spLaw K) := by
  have mf : ∀ x ∈ freeN, mg x = none := fun x hx => mg_free X G c hx
  have mn := mf "len" (by decide)
  have mI := mf "isinstance" (by decide)
  have ml := mf "list" (by decide)
  have mt := mf "tuple" (by decide)
  have mi := mf "int" (by decide)
  have mr := mf "range" (by decide)
  have ma := mf "all" (by decide)
  have mz := mf "zip" (by decide)
  have mb := mf "bool" (by decide)
  have ms := mf "str" (by decide)
  have mabs := mf "abs" (by decide)
  have men := mf "enumerate" (by decide)
  have mG : mg "gcd" = some (.builtin "math.gcd") := mg_at X G (c.fact 2)
  have mS : mg "Step" = some (.ref stA) := mg_at X G (c.fact 3)
  have mZ : mg "ZERO" = some (.ref zeA) := mg_at X G (c.fact 4)
  have mO : mg "ONE" = some (.ref onA) := mg_at X G (c.fact 5)
  have mM : ∃ u, mg "MOST_DIGITS" = some u ∧ RelV (.int 60) u := let ⟨t, e⟩ := He.int_ok X G (c.fact 6); ⟨_, e, t, rfl⟩
  have mLO : ∃ u, mg "LOWEST_ORDER" = some u ∧ RelV (.int 2) u := let ⟨t, e⟩ := He.int_ok X G (c.fact 7); ⟨_, e, t, rfl⟩
  have mHO : ∃ u, mg "HIGHEST_ORDER" = some u ∧ RelV (.int 24) u := let ⟨t, e⟩ := He.int_ok X G (c.fact 8); ⟨_, e, t, rfl⟩
  have mDG : ∃ u, mg "DIGITS" = some u ∧ RelV (.str (SX.S [48, 49, 50, 51, 52, 53, 54, 55, 56, 57])) u := let ⟨t, e⟩ := He.str_ok X G (c.fact 9); ⟨_, e, t, rfl⟩
  have k0 : KP K zeA 0 1 := kpB_ok (c.fact 10)
  have k1 : KP K onA 1 1 := kpB_ok (c.fact 11)
  obtain ⟨cl, nA, Mk, cR, h1, h2, h3, h4, h5⟩ := stC_of c
  obtain ⟨⟨d0, F0⟩, g0⟩ := at_ld X G c 0 rfl
  obtain ⟨⟨d1, F1⟩, g1⟩ := at_ld X G c 1 rfl
  obtain ⟨⟨d2, F2⟩, g2⟩ := at_ld X G c 2 rfl
  obtain ⟨⟨d3, F3⟩, g3⟩ := at_ld X G c 3 rfl
  obtain ⟨⟨d4, F4⟩, g4⟩ := at_ld X G c 4 rfl
  obtain ⟨⟨d5, F5⟩, g5⟩ := at_ld X G c 5 rfl
  obtain ⟨⟨d6, F6⟩, g6⟩ := at_ld X G c 6 rfl
  obtain ⟨⟨d7, F7⟩, g7⟩ := at_ld X G c 7 rfl
  obtain ⟨⟨d8, F8⟩, g8⟩ := at_ld X G c 8 rfl
  obtain ⟨⟨d9, F9⟩, g9⟩ := at_ld X G c 9 rfl
  obtain ⟨⟨d10, F10⟩, g10⟩ := at_ld X G c 10 rfl
  obtain ⟨⟨d11, F11⟩, g11⟩ := at_ld X G c 11 rfl
  obtain ⟨⟨d12, F12⟩, g12⟩ := at_ld X G c 12 rfl
  obtain ⟨⟨d13, F13⟩, g13⟩ := at_ld X G c 13 rfl
  obtain ⟨⟨d14, F14⟩, g14⟩ := at_ld X G c 14 rfl
  obtain ⟨⟨d15, F15⟩, g15⟩ := at_ld X G c 15 rfl
  obtain ⟨⟨d16, F16⟩, g16⟩ := at_ld X G c 16 rfl
  obtain ⟨⟨d17, F17⟩, g17⟩ := at_ld X G c 17 rfl
  obtain ⟨⟨d18, F18⟩, g18⟩ := at_ld X G c 18 rfl
  obtain ⟨⟨d19, F19⟩, g19⟩ := at_ld X G c 19 rfl
  obtain ⟨⟨d20, F20⟩, g20⟩ := at_ld X G c 20 rfl
  obtain ⟨⟨d21, F21⟩, g21⟩ := at_ld X G c 21 rfl
  obtain ⟨⟨d22, F22⟩, g22⟩ := at_ld X G c 22 rfl
  obtain ⟨⟨d23, F23⟩, g23⟩ := at_ld X G c 23 rfl
  obtain ⟨⟨d24, F24⟩, g24⟩ := at_ld X G c 24 rfl
  obtain ⟨⟨d25, F25⟩, g25⟩ := at_ld X G c 25 rfl
  obtain ⟨⟨d26, F26⟩, g26⟩ := at_ld X G c 26 rfl
  obtain ⟨⟨d27, F27⟩, g27⟩ := at_ld X G c 27 rfl
  obtain ⟨⟨d28, F28⟩, g28⟩ := at_ld X G c 28 rfl
  obtain ⟨⟨d29, F29⟩, g29⟩ := at_ld X G c 29 rfl
  obtain ⟨⟨d30, F30⟩, g30⟩ := at_ld X G c 30 rfl
  obtain ⟨⟨d31, F31⟩, g31⟩ := at_ld X G c 31 rfl
  obtain ⟨⟨d32, F32⟩, g32⟩ := at_ld X G c 32 rfl
  obtain ⟨⟨d33, F33⟩, g33⟩ := at_ld X G c 33 rfl
  obtain ⟨⟨fd, F⟩, mg0⟩ := at_ld X G c 34 rfl
  obtain ⟨⟨d35, F35⟩, g35⟩ := at_ld X G c 35 rfl
  obtain ⟨⟨d36, F36⟩, g36⟩ := at_ld X G c 36 rfl
  obtain ⟨dIn, FIn⟩ := fun_in c
  obtain ⟨dSe, FSe⟩ := fun_se c
  have cS := sta_of c FSe.kp
  have b0 : Binds K d0 ["value"] [] := F0.binds fun _ _ _ _ _ _ us hl => match us, hl with | [_], _ => rfl
  have b1 : Binds K d1 ["value", "low", "high"] [] := F1.binds fun _ _ _ _ _ _ us hl => match us, hl with | [_, _, _], _ => rfl
  have b2 : Binds K d2 ["value"] [] := F2.binds fun _ _ _ _ _ _ us hl => match us, hl with | [_], _ => rfl
  have b3 : Binds K d3 ["base", "n"] [] := F3.binds fun _ _ _ _ _ _ us hl => match us, hl with | [_, _], _ => rfl
  have b4 : Binds K d4 ["value", "n"] [] := F4.binds fun _ _ _ _ _ _ us hl => match us, hl with | [_, _], _ => rfl
  have b5 : Binds K d5 ["value", "n"] [] := F5.binds fun _ _ _ _ _ _ us hl => match us, hl with | [_, _], _ => rfl
  have b6 : Binds K d6 ["value"] [] := F6.binds fun _ _ _ _ _ _ us hl => match us, hl with | [_], _ => rfl
  have b7 : Binds K d7 ["text"] [] := F7.binds fun _ _ _ _ _ _ us hl => match us, hl with | [_], _ => rfl
  have b8 : Binds K d8 ["text"] [] := F8.binds fun _ _ _ _ _ _ us hl => match us, hl with | [_], _ => rfl
  have b9 : Binds K d9 ["value"] [] := F9.binds fun _ _ _ _ _ _ us hl => match us, hl with | [_], _ => rfl
  have b10 : Binds K d10 ["order"] [] := F10.binds fun _ _ _ _ _ _ us hl => match us, hl with | [_], _ => rfl
  have b11 : Binds K d11 ["numbers", "further"] [] := F11.binds fun _ _ _ _ _ _ us hl => match us, hl with | [_, _], _ => rfl
  have b12 : Binds K d12 ["numbers"] [] := F12.binds fun _ _ _ _ _ _ us hl => match us, hl with | [_], _ => rfl
  have b13 : Binds K d13 ["numbers", "first"] [] := F13.binds fun _ _ _ _ _ _ us hl => match us, hl with | [_, _], _ => rfl
  have b14 : Binds K d14 ["order"] [] := F14.binds fun _ _ _ _ _ _ us hl => match us, hl with | [_], _ => rfl
  have b15 : Binds K d15 ["numbers"] [] := F15.binds fun _ _ _ _ _ _ us hl => match us, hl with | [_], _ => rfl
  have b16 : Binds K d16 ["_law_script"] [] := F16.binds fun _ _ _ _ _ _ us hl => match us, hl with | [_], _ => rfl
  have b17 : Binds K d17 ["_law_bag_here", "_law_limit"] [] := F17.binds fun _ _ _ _ _ _ us hl => match us, hl with | [_, _], _ => rfl
  have b18 : Binds K d18 ["_law_bag_here", "_law_things"] [] := F18.binds fun _ _ _ _ _ _ us hl => match us, hl with | [_, _], _ => rfl
  have b19 : Binds K d19 ["_law_told", "_law_due"] [] := F19.binds fun _ _ _ _ _ _ us hl => match us, hl with | [_, _], _ => rfl
  have b20 : Binds K d20 ["_law_p", "_law_q"] [] := F20.binds fun _ _ _ _ _ _ us hl => match us, hl with | [_, _], _ => rfl
  have b21 : Binds K d21 ["_law_a"] [] := F21.binds fun _ _ _ _ _ _ us hl => match us, hl with | [_], _ => rfl
  have b22 : Binds K d22 ["_law_bag_here"] [] := F22.binds fun _ _ _ _ _ _ us hl => match us, hl with | [_], _ => rfl
  have b23 : Binds K d23 ["_law_bag_here"] [] := F23.binds fun _ _ _ _ _ _ us hl => match us, hl with | [_], _ => rfl
  have b24 : Binds K d24 ["_law_bag_here"] [] := F24.binds fun _ _ _ _ _ _ us hl => match us, hl with | [_], _ => rfl
  have b25 : Binds K d25 ["_law_a", "_law_k"] [] := F25.binds fun _ _ _ _ _ _ us hl => match us, hl with | [_, _], _ => rfl
  have b26 : Binds K d26 ["_law_p", "_law_k"] [] := F26.binds fun _ _ _ _ _ _ us hl => match us, hl with | [_, _], _ => rfl
  have b27 : Binds K d27 ["_law_k"] [] := F27.binds fun _ _ _ _ _ _ us hl => match us, hl with | [_], _ => rfl
  have b28 : Binds K d28 ["_law_a", "_law_k"] [] := F28.binds fun _ _ _ _ _ _ us hl => match us, hl with | [_, _], _ => rfl
  have b29 : Binds K d29 ["_law_bag_here"] [] := F29.binds fun _ _ _ _ _ _ us hl => match us, hl with | [_], _ => rfl
  have b30 : Binds K d30 ["_law_word"] [] := F30.binds fun _ _ _ _ _ _ us hl => match us, hl with | [_], _ => rfl
  have b31 : Binds K d31 ["_law_thing"] [] := F31.binds fun _ _ _ _ _ _ us hl => match us, hl with | [_], _ => rfl
  have b32 : Binds K d32 ["_law_a"] [] := F32.binds fun _ _ _ _ _ _ us hl => match us, hl with | [_], _ => rfl
  have b35 : Binds K d35 ["numbers"] [] := F35.binds fun _ _ _ _ _ _ us hl => match us, hl with | [_], _ => rfl
  have b36 : Binds K d36 ["numbers"] [] := F36.binds fun _ _ _ _ _ _ us hl => match us, hl with | [_], _ => rfl
  have b33 : Binds K d33 ["_law_bag_here", "_law_a"] [] := F33.binds fun _ _ _ _ _ _ us hl => match us, hl with | [_, _], _ => rfl
  have bIn : Binds K dIn ["self", "numbers"] [] := FIn.binds fun _ _ _ _ _ _ us hl => match us, hl with | [_, _], _ => rfl
  have bSe : Binds K dSe ["order"] [] := FSe.binds fun _ _ _ _ _ _ us hl => match us, hl with | [_], _ => rfl
  have e : f = 779 := Value.ref.inj (Option.some.inj (hfa.symm.trans mg0))
  subst e
  have b : Binds K fd ["_law_script"] [] := F.binds fun _ _ _ _ _ _ us hl => match us, hl with | [_], _ => rfl
  refine ⟨fd, fun s v => ?_, fun base _ _ => ?_⟩
  · obtain ⟨oc, od, kV, doc, pm, an, cdv, ct, osl, e, lk, hcd⟩ := F.ex
    rw [e]
    exact .of_eq rfl
  have G0 : FnOk P w K mg base CX0 1 _ _ _ (spWhole K) := ok_whole F0 mI mi mb
  have G1 : FnOk P w K mg base CX0 2 _ _ _ spBt := ok_between F1 G0 b0 F0.kp g0
  have G2 : FnOk P w K mg base CX0 2 _ _ _ (spIsF K) := ok_isf F2 mI mt mn mG G0 b0 F0.kp g0
  have G3 : FnOk P w K mg base CX0 1 _ _ _ spRaised := ok_raised F3 mr
  have G4 : FnOk P w K mg base CX0 2 _ _ _ spWR := ok_wroot F4 G3 b3 F3.kp g3
  have G5 : FnOk P w K mg base CX0 3 _ _ _ spRoot := ok_root F5 mabs G4 b4 F4.kp g4
  have G6 : FnOk P w K mg base CX0 1 _ _ _ spTxt := ok_text F6 ms
  have G7 : FnOk P w K mg base CX0 1 _ _ _ spDig := ok_isdig F7 mn ma mM mDG
  have G8 : FnOk P w K mg base CX0 3 _ _ _ (spRead K) := ok_read F8 mI ms mi G7 b7 F7.kp g7 G2 b2 F2.kp g2
  have G9 : FnOk P w K mg base CX0 1 _ _ _ spIl := ok_listing F9 mI ml mt
  have G10 : FnOk P w K mg base CX0 3 _ _ _ spCo := ok_corder F10 G1 b1 F1.kp g1 mLO mHO
  have GWi : FnOk P w K mg base CX0 3 _ _ _ (spWi onA zeA) := ok_wrong F35 k1 k0 men G2 b2 F2.kp g2
  have GCf : FnOk P w K mg base CX0 4 _ _ _ (spWi onA zeA) := ok_cfrac F36 GWi b35 F35.kp g35
  have G11 : FnOk P w K mg base CX0 5 _ _ _ (spCn onA zeA) := ok_checked F11 mn ml G9 b9 F9.kp g9 G10 b10 F10.kp g10 GCf b36 F36.kp g36
  have G12 : FnOk P w K mg base CX0 1 _ _ _ (spIz zeA) := ok_iszero F12 k0 ma mZ
  have G13 : FnOk P w K mg base CX0 1 _ _ _ (spLp onA zeA) := ok_least F13 k1 k0 men mZ
  have G14 : FnOk P w K mg base CX0 1 _ _ _ (spSn onA zeA) := ok_stilln F14 mZ mO
  have G15 : FnOk P w K mg base CX0 2 _ _ _ (spKo onA zeA) := ok_kind F15 k1 k0 mZ mO G12 b12 F12.kp g12
  have GIn : FnOk P w K mg base CX0 6 _ _ _ (spIn stA onA zeA) := ok_init FIn cl nA mn G11 b11 F11.kp g11 G15 b15 F15.kp g15 G13 b13 F13.kp g13
  have GSe : FnOk P w K mg base CX0 8 _ _ _ (spSt stA) := ok_still FSe Mk mS GIn bIn G10 b10 F10.kp g10 G14 b14 F14.kp g14
  have G17 : FnOk P w K mg base CX0 1 _ _ _ spDraw := ok_draw F17 mn mi
  have G16 : FnOk P w K mg base CX0 1 _ _ _ (spBag K) := ok_bag F16 ml mi
  have GoL : FnOk P w K mg base CX0 2 _ _ _ spOfL := ok_ofL F18 G17 b17 F17.kp g17 mn
  have GoS : FnOk P w K mg base CX0 2 _ _ _ spOfS := ok_ofS F18 G17 b17 F17.kp g17 mn
  have L0 : FnOk P w K mg base CX0 1 _ _ _ (spLike 0) := ok_like F19 b19 g19 (fun n' e => by cases e) mI ml mt mb ms mi mn mz ma
  have L1 : FnOk P w K mg base CX0 2 _ _ _ (spLike 1) := ok_like F19 b19 g19 (fun n' e => by cases e; exact L0) mI ml mt mb ms mi mn mz ma
  have L2' : FnOk P w K mg base CX0 3 _ _ _ (spLike 2) := ok_like F19 b19 g19 (fun n' e => by cases e; exact L1) mI ml mt mb ms mi mn mz ma
  have G20 : FnOk P w K mg base CX0 1 _ _ _ spLow := ok_low F20 mabs mi
  have G21 : FnOk P w K mg base CX0 1 _ _ _ spNeg := ok_neg F21
  have G22 : FnOk P w K mg base CX0 3 _ _ _ spNum := ok_num G17 b17 F17.kp g17 GoL b18 F18.kp g18 G20 b20 F20.kp g20 F22
  have G23 : FnOk P w K mg base CX0 3 _ _ _ spBig := ok_big G17 b17 F17.kp g17 GoL b18 F18.kp g18 F23 mr
  have G24 : FnOk P w K mg base CX0 4 _ _ _ spWide := ok_wide G17 b17 F17.kp g17 GoL b18 F18.kp g18 G20 b20 F20.kp g20 F24 G23 b23 F23.kp g23
  have G25 : FnOk P w K mg base CX0 1 _ _ _ spLR := ok_lraised F25 mr
  have G27 : FnOk P w K mg base CX0 1 _ _ _ spDbl := ok_double F27 mr
  have G26 : FnOk P w K mg base CX0 2 _ _ _ spFloor := ok_floor F26 mr G27 b27 F27.kp g27 G25 b25 F25.kp g25
  have G28 : FnOk P w K mg base CX0 3 _ _ _ spLRoot := ok_lroot F28 mabs mi G26 b26 F26.kp g26 G25 b25 F25.kp g25
  have G29 : FnOk P w K mg base CX0 5 _ _ _ spRS := ok_rootso F29 mabs mi G17 b17 F17.kp g17 GoL b18 F18.kp g18 G20 b20 F20.kp g20 G23 b23 F23.kp g23 G24 b24 F24.kp g24 G22 b22 F22.kp g22 G25 b25 F25.kp g25 G26 b26 F26.kp g26 G21 b21 F21.kp g21 G28 b28 F28.kp g28 G5 b5 (kb_root F5) F5.kp g5 L2' b19 F19.kp g19
  have G30 : FnOk P w K mg base CX0 1 _ _ _ spDig := ok_ldig F30 mn ma
  have G31 : FnOk P w K mg base CX0 2 _ _ _ (spRead K) := ok_lread F31 mI ms mi mn ma G30 b30 F30.kp g30 G20 b20 F20.kp g20
  have G32 : FnOk P w K mg base CX0 1 _ _ _ spTxt := ok_written F32 ms mabs
  have G33 : FnOk P w K mg base CX0 3 _ _ _ spText := ok_ltext F33 mn G17 b17 F17.kp g17 GoL GoS b18 F18.kp g18 G32 b32 F32.kp g32
  exact ok_law F mr G16 b16 F16.kp g16 G17 b17 F17.kp g17 GoL b18 F18.kp g18 G29 b29 F29.kp g29 G24 b24 F24.kp g24 G22 b22 F22.kp g22 G6 b6 (kb_text F6) F6.kp g6 G32 b32 F32.kp g32 L2' b19 F19.kp g19 G8 b8 (kb_read F8) F8.kp g8 G31 b31 F31.kp g31 G33 b33 F33.kp g33 GSe bSe mS cR cS ⟨cl, h1, h2, h3, h4, h5⟩
end
end Kr
end
section
set_option maxHeartbeats 0
open PySem PySem.W PySem.Calls PyProof.Rows
theorem PySem.Challenge.cw_creepclocks_k02_roots_and_texts_of_fract_holds : PySem.Challenge.rw_creepclocks_k02_roots_and_texts_of_fract.Holds := by
  w_on; o_law
  refine HandSHeadRun.head_imp (r := OpenLaw.row PySem.Challenge.rw_creepclocks_k02_roots_and_texts_of_fract) (q := view (OpenLaw.row PySem.Challenge.rw_creepclocks_k02_roots_and_texts_of_fract).prog [0, 89]) (H := Kr.hookR) (ob := Kr.ob) (M := 20000) (loose := Kr.names) (d := HandSHeadRun.topDef (OpenLaw.row PySem.Challenge.rw_creepclocks_k02_roots_and_texts_of_fract).prog 89) (kwd := []) Kr.ob_eq
    Kr.run (by kernel_rfl) (by kernel_rfl) (by kernel_rfl) (by rfl) (by first | assumption | decide +kernel) (by decide +kernel) ⟨rfl, rfl, rfl, rfl, rfl, by decide +kernel⟩ ?hw ?hc
  case hw => w_witness2
  case hc =>
    refine L2.walk_ofE (l := PySem.Challenge.rw_creepclocks_k02_roots_and_texts_of_fract) (n := 63) (k := 9) (x := "_law_script") (CX := L2.CX0) rfl (by decide) (by kernel_rfl) ⟨rfl, by decide, by decide⟩ ?F (fun _ _ _ _ z => z)
    intro w mg fa h Y G hmg0
    obtain ⟨K, KX, c⟩ := Y
    have hmg : mg ("law" : PySem.Str) = some (.ref fa) := by
      have e : (HandSHeadRun.topDef (OpenLaw.row PySem.Challenge.rw_creepclocks_k02_roots_and_texts_of_fract).prog 89).name = ("law" : PySem.Str) := by kernel_rfl
      rw [← e]
      exact hmg0
    obtain ⟨fd, hb, hF⟩ := Kr.facts (P := (PySem.Challenge.rw_creepclocks_k02_roots_and_texts_of_fract).prog) (w := w) KX G hmg c
    exact ⟨K, fd, Kr.spLaw K, KX, hb, fun H a ns hl _ hS => ⟨a, ns, rfl, hS, fun _ => rfl⟩, hF⟩
end
