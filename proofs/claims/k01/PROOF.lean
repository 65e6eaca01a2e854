import PyProof.Rows.All
import Wide.All
import OpenK.AllK
import Wide.FinOn
import HandS.Words
import HandS.WordsExc
import HandS.ForMost
import HandS.Zip
import HandS.Codes
import HandS.Walk
import HandS.Wide
import HandS.Gcd
import HandS.IsInst
import HandS.AnyAll
import HandS.ExcInit
import HandS.Defaults
import KE.KExcInit
import KE.KExcIs
import HandS.MakeKw
import HandS.Exc
import HandS.ExcIs
import HandS.ExcField
import HandS.TryMany
import HandS.HotCalls
import HandS.Lambda
import HandS.ExcInitHot
import HandS.ClsMeth
import HandS.HeadHook1
import HandS.HeadHook2
import HandS.HeadNt
import HandS.NestedK
import KE.KStateDown
import Lean
import HandS.Head0
import HandS.Head1
import HandS.Head2
import HandS.Head3
import HandS.HeadEnd
import HandS.HeadWalk
import PySem.Challenge.RW_creepclocks_k01_fractions_reckoned
set_option Elab.async false
set_option linter.all false
set_option maxRecDepth 100000
section
set_option maxHeartbeats 4000000
namespace Kq
open PySem PySem.Spec PyProof.Rows L2
def top (i : Nat) : Stmt := PySem.Challenge.pw_creepclocks_k01_fractions_reckoned.main.body.getD i (.Pass ⟨0, 0, 0, 0⟩)
end Kq
end
section
set_option maxHeartbeats 4000000
namespace Kq
open PySem PySem.Spec PyProof.Rows L2
/-! ### the bag -/
def bagL (p : Addr) (i r sd c : Int) : List V := [.ref p, .int i, .int r, .int sd, .int c]
structure Bag (H : Hp) (B p : Addr) : Prop where
  ex : ∃ (ns : List Int) (i r sd c : Int), H B = some (.lst (bagL p i r sd c)) ∧ H p = some (.lst (ns.map V.int)) ∧ p ≠ B ∧ 0 ≤ i ∧ 0 ≤ r ∧ 0 ≤ sd ∧ sd < 2147483629
/-- all but the bag stands -/
def But (B : Addr) (H H' : Hp) : Prop := ∀ b o, b ≠ B → H b = some o → H' b = some o
theorem But.refl {B : Addr} {H : Hp} : But B H H := fun _ _ _ h => h
theorem But.trans {B : Addr} {H H1 H2 : Hp} (a : But B H H1) (b : But B H1 H2) : But B H H2 := fun x o n h => b x o n (a x o n h)
theorem But.new {B : Addr} {H : Hp} {p : Addr} {o : HO} (h : H p = none) : But B H (upd H p o) := fun b u _ q => by rw [upd_ne (ne_of_none q h)]; exact q
theorem But.same {B : Addr} {H H' : Hp} (h : Same H H') : But B H H' := fun b o _ q => h b o q
theorem Bag.same {H H' : Hp} {B p : Addr} (b : Bag H B p) (h : Same H H') : Bag H' B p := by
  obtain ⟨ns, i, r, sd, c, h1, h2, h3⟩ := b.ex
  exact ⟨ns, i, r, sd, c, h _ _ h1, h _ _ h2, h3⟩
def spDraw : Sp := fun vs H Q _ => ∃ (B p : Addr) (L : Int), vs = [.ref B, .int L] ∧ 0 < L ∧ L < 1073741824 ∧ Bag H B p ∧
  ∀ H' k, Bag H' B p → But B H H' → 0 ≤ k → k < L → Q (.int k) H'
section
variable {P : Program} {w : World} {K : PySem.W.Frag} {mg : Str → Option Value} {base : Heap} {f : Addr} {fd : FuncData}
theorem scDraw : FnScope ["_law_bag_here", "_law_limit", "_law_item", "_law_digit"] ["_law_bag_here", "_law_limit"] (defScope (top 76)) := ⟨rfl, rfl, rfl, by decide +kernel, rfl, by decide +kernel, by decide +kernel⟩
theorem ok_draw (F : Fun K "_law_draw" "_law_draw" (top 76) f fd) (ml : mg "len" = none) (mi : mg "int" = none) : FnOk P w K mg base CX0 1 f fd ["_law_bag_here", "_law_limit"] spDraw := by
  refine F.ok scDraw (fun vs H Q E h => ?_) (fun cdv A outer s H vs Q E hr h => ?_)
  · obtain ⟨B, p, L, rfl, _⟩ := h
    rfl
  obtain ⟨B, p, L, rfl, l1, l2, hb, q⟩ := h
  obtain ⟨ns, i, r, sd, c, hB, hp, np, i0, r0, s0, s1⟩ := hb.ex
  refine ⟨_, pss_cons (ps_asg (pe_op op_add (pe_ix ix_list (pv 0) pe_int (fun _ _ => rfl)) pe_int) (pg_sub (pv 0) pe_int set_list))
    (C8.pss_cut (ps_if (PW.pt (pw_and (pt_cmpR op_eq (pe_ix ix_list (pv 0) pe_int (fun _ _ => rfl)) pe_int (nomark _)) (pw_and1 (pt_cmpR op_lt (pe_ix ix_list (pv 0) pe_int (fun _ _ => rfl)) (pe_callB call_len_seq rfl ml PySem.boot_len (pa_cons (pe_ix ix_list (pv 0) pe_int (fun _ _ => rfl)) pa_nil)) (nomark _)))))
        (pss_cons (ps_set (i := 2) scDraw.nd rfl (Or.inl rfl) (pe_ix ix_list (pe_ix ix_list (pv 0) pe_int (fun _ _ => rfl)) (pe_ix ix_list (pv 0) pe_int (fun _ _ => rfl)) (fun _ _ => rfl)))
        (pss_cons (ps_asg (pe_op op_add (pe_ix ix_list (pv 0) pe_int (fun _ _ => rfl)) pe_int) (pg_sub (pv 0) pe_int set_list))
        (pss_one (ps_if (pt_cmpR op_ge (pv 2) (pe_op op_pow pe_int pe_int) (nomark _))
          (pss_one (ps_asg (pv 2) (pg_sub (pv 0) pe_int set_list)))
          (pss_one (ps_asg (pe_op op_mod (pe_callTy call_int1 rfl mi (by decide +kernel) (pa_cons (pe_op op_add (pe_op op_add (pe_op op_mul (pe_ix ix_list (pv 0) pe_int (fun _ _ => rfl)) pe_int) (pe_op op_mul (pe_op op_mod (pe_callTy call_int1 rfl mi (by decide +kernel) (pa_cons (pv 2) pa_nil)) pe_int) pe_int)) pe_int) pa_nil)) pe_int) (pg_sub (pv 0) pe_int set_list)))))))
        pss_nil)
    (pss_cons (ps_if (pt_cmpR op_gt (pe_ix ix_list (pv 0) pe_int (fun _ _ => rfl)) pe_int (nomark _))
        (pss_cons (ps_set (i := 3) scDraw.nd rfl (Or.inl rfl) (pe_op op_mod (pe_callTy call_int1 rfl mi (by decide +kernel) (pa_cons (pe_ix ix_list (pv 0) pe_int (fun _ _ => rfl)) pa_nil)) (pv 1)))
        (pss_cons (ps_asg (pe_op op_fdiv (pe_ix ix_list (pv 0) pe_int (fun _ _ => rfl)) (pv 1)) (pg_sub (pv 0) pe_int set_list))
        (pss_one (ps_ret (pv 3)))))
        pss_nil)
    (pss_cons (ps_asg (pe_op op_mod (pe_callTy call_int1 rfl mi (by decide +kernel) (pa_cons (pe_op op_add (pe_op op_add (pe_op op_pow (pe_ix ix_list (pv 0) pe_int (fun _ _ => rfl)) pe_int) (pe_op op_mul (pe_ix ix_list (pv 0) pe_int (fun _ _ => rfl)) pe_int)) pe_int) pa_nil)) pe_int) (pg_sub (pv 0) pe_int set_list))
    (pss_one (ps_ret (pe_op op_mod (pe_callTy call_int1 rfl mi (by decide +kernel) (pa_cons (pe_op op_add (pe_op op_fdiv (pe_ix ix_list (pv 0) pe_int (fun _ _ => rfl)) pe_int) (pe_op op_mul (pe_op op_mod (pe_callTy call_int1 rfl mi (by decide +kernel) (pa_cons (pe_ix ix_list (pv 0) pe_int (fun _ _ => rfl)) pa_nil)) pe_int) pe_int)) pa_nil)) (pv 1))))))), ?_⟩
  refine ⟨_, rfl, B, _, 4, _, rfl, rfl, SqL.of hB, rfl, c, 1, rfl, rfl, _, rfl, B, _, 4, 4, rfl, rfl, hB, rfl, ?_⟩
  have e1 : (bagL p i r sd c).set 4 (.int (c + 1)) = bagL p i r sd (c + 1) := rfl
  have hB1 : (upd H B (.lst ((bagL p i r sd c).set 4 (.int (c + 1))))) B = some (.lst (bagL p i r sd (c + 1))) := upd_same
  have hp1 : (upd H B (.lst ((bagL p i r sd c).set 4 (.int (c + 1))))) p = some (.lst (ns.map V.int)) := by rw [upd_ne np]; exact hp
  have b1 : But B H (upd H B (.lst ((bagL p i r sd c).set 4 (.int (c + 1))))) := fun b o n z => by rw [upd_ne n]; exact z
  generalize upd H B (.lst ((bagL p i r sd c).set 4 (.int (c + 1)))) = H1 at hB1 hp1 b1 ⊢
  refine ⟨fun σ' H' => ∃ (i r sd : Int) (v w : Option V), σ' = [some (.ref B), some (.int L), v, w] ∧ H' B = some (.lst (bagL p i r sd (c + 1))) ∧ H' p = some (.lst (ns.map V.int)) ∧ But B H H' ∧ 0 ≤ i ∧ 0 ≤ r ∧ 0 ≤ sd ∧ sd < 2147483629, ?_, ?_⟩
  · refine ⟨_, rfl, B, _, 2, _, rfl, rfl, SqL.of hB1, rfl, rfl, _, rfl, ?_⟩
    refine ite2 (fun _ => ?_) (fun _ => iteF ⟨i, r, sd, none, none, rfl, hB1, hp1, b1, i0, r0, s0, s1⟩)
    refine ⟨_, rfl, B, _, 1, _, rfl, rfl, SqL.of hB1, rfl, _, rfl, B, _, 0, _, rfl, rfl, SqL.of hB1, rfl, p, _, rfl, .inl (SqL.of hp1), i, _, rfl, rfl, _, rfl, ?_⟩
    refine ite2 (fun c1 => ?_) (fun _ => ⟨i, r, sd, none, none, rfl, hB1, hp1, b1, i0, r0, s0, s1⟩)
    have c2 : i < (((ns.map V.int).length : Nat) : Int) := of_decide_eq_true c1
    rw [List.length_map] at c2
    have hz : (ns.map V.int)[i.toNat]? = some (.int (ns[i.toNat]'(by omega))) := by rw [List.getElem?_map, List.getElem?_eq_getElem (by omega)]; rfl
    generalize ns[i.toNat]'(by omega) = z at hz
    have ha : atI (ns.map V.int) i = some (.int z) := at_of (by omega) hz
    refine ⟨_, rfl, B, _, 0, _, rfl, rfl, SqL.of hB1, rfl, _, rfl, B, _, 1, _, rfl, rfl, SqL.of hB1, rfl, p, _, i, _, rfl, rfl, SqL.of hp1, ha, ?_⟩
    refine ⟨_, rfl, B, _, 1, _, rfl, rfl, SqL.of hB1, rfl, i, 1, rfl, rfl, _, rfl, B, _, 1, 1, rfl, rfl, hB1, rfl, ?_⟩
    have hB2 : (upd H1 B (.lst ((bagL p i r sd (c + 1)).set 1 (.int (i + 1))))) B = some (.lst (bagL p (i + 1) r sd (c + 1))) := upd_same
    have hp2 : (upd H1 B (.lst ((bagL p i r sd (c + 1)).set 1 (.int (i + 1))))) p = some (.lst (ns.map V.int)) := by rw [upd_ne np]; exact hp1
    have b2 : But B H (upd H1 B (.lst ((bagL p i r sd (c + 1)).set 1 (.int (i + 1))))) := b1.trans fun b o n z => by rw [upd_ne n]; exact z
    generalize upd H1 B (.lst ((bagL p i r sd (c + 1)).set 1 (.int (i + 1)))) = H2 at hB2 hp2 b2 ⊢
    refine ⟨_, rfl, 10, 18, rfl, rfl, ⟨by decide, by decide, by decide⟩, z, _, rfl, rfl, _, rfl, ?_⟩
    refine ite2 (fun c3 => ?_) (fun _ => ?_)
    · have c4 : (10 : Int) ^ (18 : Int).toNat ≤ z := of_decide_eq_true c3
      refine ⟨_, rfl, _, rfl, B, _, 2, 2, rfl, rfl, hB2, rfl, i + 1, z, sd, some (.int z), none, rfl, upd_same, by rw [upd_ne np]; exact hp2, b2.trans fun b o n z => by rw [upd_ne n]; exact z, by omega, ?_, s0, s1⟩
      exact Int.le_trans (by decide) c4
    · refine ⟨_, rfl, B, _, 3, _, rfl, rfl, SqL.of hB2, rfl, sd, 69621, rfl, rfl, .inr ⟨by decide, by decide⟩, _, rfl, .inl ⟨z, rfl, ?_⟩⟩
      refine ⟨z, 2147483549, rfl, rfl, (by show (0 : Int) < 2147483549; decide), _, 30103, rfl, rfl, .inr ⟨by decide, by decide⟩, _, _, rfl, rfl, _, 89, rfl, rfl, .inl ⟨_, rfl, ?_⟩⟩
      refine ⟨_, 2147483629, rfl, rfl, (by show (0 : Int) < 2147483629; decide), _, rfl, B, _, 3, 3, rfl, rfl, hB2, rfl, i + 1, r, _, some (.int z), none, rfl, upd_same, by rw [upd_ne np]; exact hp2, b2.trans fun b o n z => by rw [upd_ne n]; exact z, by omega, r0, Int.emod_nonneg _ (by decide), Int.emod_lt_of_pos _ (by decide)⟩
  · rintro σ' H' ⟨i, r, sd, v, w', rfl, hB2, hp2, b2, i0, r0, s0, s1⟩
    refine ⟨_, rfl, B, _, 2, _, rfl, rfl, SqL.of hB2, rfl, r, 0, rfl, rfl, _, rfl, ?_⟩
    refine ite2 (fun _ => ?_) (fun _ => ?_)
    · refine ⟨_, rfl, B, _, 2, _, rfl, rfl, SqL.of hB2, rfl, .inl ⟨r, rfl, _, rfl, r, L, rfl, rfl, l1, ?_⟩⟩
      refine ⟨_, rfl, B, _, 2, _, rfl, rfl, SqL.of hB2, rfl, _, rfl, r, L, rfl, rfl, ⟨l1, l2⟩, _, rfl, B, _, 2, 2, rfl, rfl, hB2, rfl, ?_⟩
      refine ⟨_, rfl, q _ _ ⟨ns, i, r / L, sd, c + 1, upd_same, by rw [upd_ne np]; exact hp2, np, i0, Int.ediv_nonneg r0 (by omega), s0, s1⟩ (b2.trans fun b o n z => by rw [upd_ne n]; exact z) (Int.emod_nonneg _ (by omega)) (Int.emod_lt_of_pos _ l1)⟩
    · refine ⟨_, rfl, B, _, 3, _, rfl, rfl, SqL.of hB2, rfl, sd, 3, rfl, rfl, ⟨by decide, by decide, by omega⟩, ?_⟩
      refine ⟨_, rfl, B, _, 4, _, rfl, rfl, SqL.of hB2, rfl, c + 1, 1299709, rfl, rfl, .inr ⟨by decide, by decide⟩, _, _, rfl, rfl, _, 60013, rfl, rfl, .inl ⟨_, rfl, _, 2147483629, rfl, rfl, (by show (0 : Int) < 2147483629; decide), _, rfl, B, _, 3, 3, rfl, rfl, hB2, rfl, ?_⟩⟩
      have v0 := Int.emod_nonneg (sd ^ Int.toNat 3 + (c + 1) * 1299709 + 60013) (show (2147483629 : Int) ≠ 0 by decide)
      have v1 := Int.emod_lt_of_pos (sd ^ Int.toNat 3 + (c + 1) * 1299709 + 60013) (show (0 : Int) < 2147483629 by decide)
      have hB3 : (upd H' B (.lst ((bagL p i r sd (c + 1)).set 3 (.int ((sd ^ Int.toNat 3 + (c + 1) * 1299709 + 60013) % 2147483629))))) B = some (.lst (bagL p i r ((sd ^ Int.toNat 3 + (c + 1) * 1299709 + 60013) % 2147483629) (c + 1))) := upd_same
      have hp3 : (upd H' B (.lst ((bagL p i r sd (c + 1)).set 3 (.int ((sd ^ Int.toNat 3 + (c + 1) * 1299709 + 60013) % 2147483629))))) p = some (.lst (ns.map V.int)) := by rw [upd_ne np]; exact hp2
      have b3 : But B H (upd H' B (.lst ((bagL p i r sd (c + 1)).set 3 (.int ((sd ^ Int.toNat 3 + (c + 1) * 1299709 + 60013) % 2147483629))))) := b2.trans fun b o n z => by rw [upd_ne n]; exact z
      refine ⟨_, rfl, B, _, 3, _, rfl, rfl, SqL.of hB3, rfl, _, 97, rfl, rfl, ⟨by decide, by decide⟩, _, rfl, B, _, 3, _, rfl, rfl, SqL.of hB3, rfl, .inl ⟨_, rfl, ?_⟩⟩
      refine ⟨_, 7901, rfl, rfl, (by show (0 : Int) < 7901; decide), _, 67, rfl, rfl, .inr ⟨by decide, by decide⟩, _, _, rfl, rfl, .inl ⟨_, rfl, _, rfl, _, L, rfl, rfl, l1, ?_⟩⟩
      exact q _ _ ⟨ns, i, r, _, c + 1, hB3, hp3, np, i0, r0, v0, v1⟩ b3 (Int.emod_nonneg _ (by omega)) (Int.emod_lt_of_pos _ l1)
end
end Kq
end
section
set_option maxHeartbeats 4000000
namespace Kq
open PySem PySem.Spec PyProof.Rows L2
theorem cut_map (ns : List Int) (lo hi : Option Int) : ∃ ms : List Int, cutV (ns.map V.int) lo hi = ms.map V.int := by
  unfold cutV
  rw [List.length_map, ← List.map_drop, ← List.map_take]
  exact ⟨_, rfl⟩
def spBag (K : PySem.W.Frag) : Sp := fun vs H Q _ => ∃ (a : Addr) (ns : List Int), vs = [.ref a] ∧ SqL K H a (ns.map V.int) ∧ ∀ H' B p, Same H H' → H B = none → Bag H' B p → Q (.ref B) H'
theorem new_same {H : Hp} {p : Addr} (h : H p = none) (o : HO) : Same H (upd H p o) := fun b u q => by rw [upd_ne (ne_of_none q h)]; exact q
section
variable {P : Program} {w : World} {K : PySem.W.Frag} {mg : Str → Option Value} {base : Heap} {f fD : Addr} {fd fdD : FuncData}
theorem scBag : FnScope ["_law_script", "_law_seed", "_law_item"] ["_law_script"] (defScope (top 75)) := ⟨rfl, rfl, rfl, by decide +kernel, rfl, by decide +kernel, by decide +kernel⟩
theorem ok_bag (F : Fun K "_law_bag" "_law_bag" (top 75) f fd) (ml : mg "list" = none) (mi : mg "int" = none) : FnOk P w K mg base CX0 1 f fd ["_law_script"] (spBag K) := by
  refine F.ok scBag (fun vs H Q E h => ?_) (fun cdv A outer s H vs Q E hr h => ?_)
  · obtain ⟨a, ns, rfl, _⟩ := h
    rfl
  obtain ⟨a, ns, rfl, hS, q⟩ := h
  obtain ⟨ms, hm⟩ := cut_map ns none (some 63)
  refine ⟨_, pss_cons (ps_set (i := 1) scBag.nd rfl (Or.inl rfl) pe_int)
    (pss_cons (ps_for PassesOwn.never rfl (pi_list (pe_slice sl_list (pv 0) po_none (po_some pe_int))) (pg_name (i := 2) scBag.nd rfl (Or.inl rfl))
      (pss_one (ps_set (i := 1) scBag.nd rfl (Or.inl rfl) (pe_op op_mod (pe_callTy call_int1 rfl mi (by decide +kernel) (pa_cons (pe_op op_add (pe_op op_add (pe_op op_mul (pv 1) pe_int) (pe_op op_mod (pe_callTy call_int1 rfl mi (by decide +kernel) (pa_cons (pv 2) pa_nil)) pe_int)) pe_int) pa_nil)) pe_int))))
    (pss_one (ps_ret (pe_lst (pa_cons (pe_callTy call_list_of rfl ml (by decide +kernel) (pa_cons (pe_slice sl_list (pv 0) po_none (po_some pe_int)) pa_nil)) (pa_cons pe_int (pa_cons pe_int (pa_cons (pv 1) (pa_cons pe_int pa_nil))))))))), ?_⟩
  refine ⟨_, rfl, 63, rfl, a, _, rfl, hS, fun p np => ⟨p, rfl, ⟨_, SqL.of upd_same⟩, for_list (K := K) (a := p) (xs := cutV (ns.map V.int) none (some 63))
    (fun i σ H' => ∃ (sd : Int) (v : Option V), σ = [some (.ref a), some (.int sd), v] ∧ 0 ≤ sd ∧ sd < 2147483629 ∧ H' = upd H p (.lst (cutV (ns.map V.int) none (some 63)))) ⟨13960, none, rfl, by decide, by decide, rfl⟩ (fun i σ H' _ h => ?_) ?_ ?_⟩⟩
  · obtain ⟨_, _, _, _, _, rfl⟩ := h
    exact SqL.of upd_same
  · rintro i y σ H' hy ⟨sd, v, rfl, s0, s1, rfl⟩
    obtain ⟨z, rfl⟩ : ∃ z, y = V.int z := by
      rw [hm, List.getElem?_map] at hy
      obtain ⟨z, _, e⟩ := Option.map_eq_some_iff.mp hy
      exact ⟨z, e.symm⟩
    refine ⟨_, rfl, sd, 48271, rfl, rfl, .inr ⟨by decide, by decide⟩, _, rfl, .inl ⟨z, rfl, z, 2147483587, rfl, rfl, (by show (0 : Int) < 2147483587; decide), _, _, rfl, rfl, _, 307, rfl, rfl, .inl ⟨_, rfl, _, 2147483629, rfl, rfl, (by show (0 : Int) < 2147483629; decide), ?_⟩⟩⟩
    exact ⟨_, _, rfl, Int.emod_nonneg _ (by decide), Int.emod_lt_of_pos _ (by decide), rfl⟩
  · rintro σ H' ⟨sd, v, rfl, s0, s1, rfl⟩
    have g1 : Same H (upd H p (.lst (cutV (ns.map V.int) none (some 63)))) := new_same np _
    generalize upd H p (.lst (cutV (ns.map V.int) none (some 63))) = H1 at g1
    refine ⟨_, rfl, 63, rfl, a, _, rfl, g1.seq hS, fun p2 np2 => ⟨p2, _, rfl, .inl (SqL.of upd_same), fun l nl => ?_⟩⟩
    have g2 := g1.trans (new_same np2 (.lst (cutV (ns.map V.int) none (some 63))))
    generalize upd H1 p2 (.lst (cutV (ns.map V.int) none (some 63))) = H2 at g2 nl
    have g3 := g2.trans (new_same nl (.lst (cutV (ns.map V.int) none (some 63))))
    have hl : (upd H2 l (.lst (cutV (ns.map V.int) none (some 63)))) l = some (.lst (ms.map V.int)) := by rw [upd_same, hm]
    generalize upd H2 l (.lst (cutV (ns.map V.int) none (some 63))) = H3 at g3 hl
    refine ⟨_, rfl, (by show 5 ≤ sizeLine; decide), fun B nB => q _ B l (g3.trans (new_same nB _)) (g3.free nB) ⟨ms, 0, 0, sd, 0, upd_same, ?_, ?_, by decide, by decide, s0, s1⟩⟩
    · rw [upd_ne (ne_of_none hl nB)]
      exact hl
    · exact ne_of_none hl nB
/-! ### one of several -/
def spOfL : Sp := fun vs H Q _ => ∃ (B p t : Addr) (xs : List V), vs = [.ref B, .ref t] ∧ H t = some (.lst xs) ∧ t ≠ B ∧ 0 < xs.length ∧ xs.length ≤ 1000 ∧ Bag H B p ∧ ∀ H' x, Bag H' B p → But B H H' → x ∈ xs → Q x H'
def spOfS : Sp := fun vs H Q _ => ∃ (B p : Addr) (z : Str), vs = [.ref B, .str z] ∧ 0 < z.length ∧ z.length ≤ 1000 ∧ Bag H B p ∧ ∀ H' c, Bag H' B p → But B H H' → Q (.str ⟨#[c]⟩) H'
theorem scOf : FnScope ["_law_bag_here", "_law_things"] ["_law_bag_here", "_law_things"] (defScope (top 77)) := ⟨rfl, rfl, rfl, by decide +kernel, rfl, by decide +kernel, by decide +kernel⟩
theorem at_in {xs : List V} {k : Int} (h0 : 0 ≤ k) (h1 : k < (xs.length : Int)) : ∃ x, atI xs k = some x ∧ x ∈ xs := by
  have hk : k.toNat < xs.length := by omega
  exact ⟨xs[k.toNat], at_of (by omega) (List.getElem?_eq_getElem hk), List.getElem_mem hk⟩
theorem ok_ofL (F : Fun K "_law_of" "_law_of" (top 77) f fd) (G : FnOk P w K mg base CX0 1 fD fdD ["_law_bag_here", "_law_limit"] spDraw) (bD : Binds K fdD ["_law_bag_here", "_law_limit"] []) (kD : PySem.W.keepIn K (.ref fD) = true) (mD : mg "_law_draw" = some (.ref fD)) (ml : mg "len" = none) :
    FnOk P w K mg base CX0 2 f fd ["_law_bag_here", "_law_things"] spOfL := by
  refine F.ok scOf (fun vs H Q E h => ?_) (fun cdv A outer s H vs Q E hr h => ?_)
  · obtain ⟨B, p, t, xs, rfl, _⟩ := h
    rfl
  obtain ⟨B, p, t, xs, rfl, ht, nt, l0, l1, hb, q⟩ := h
  refine ⟨_, pss_one (ps_ret (pe_ix ix_list (pv 1) (pe_call G hr rfl mD kD bD .nil pass0 (pa_cons (pv 0) (pa_cons (pe_callB call_len_seq rfl ml PySem.boot_len (pa_cons (pv 1) pa_nil)) pa_nil))) (fun _ _ => rfl))), ?_⟩
  refine ⟨_, rfl, _, rfl, _, rfl, t, _, rfl, .inl (SqL.of ht), B, p, _, rfl, by omega, by omega, hb, fun H' k b' u k0 k1 => ?_⟩
  obtain ⟨x, hx, hm⟩ := at_in k0 k1
  exact ⟨t, xs, k, x, rfl, rfl, SqL.of (u _ _ nt ht), hx, q H' x b' u hm⟩
theorem ok_ofS (F : Fun K "_law_of" "_law_of" (top 77) f fd) (G : FnOk P w K mg base CX0 1 fD fdD ["_law_bag_here", "_law_limit"] spDraw) (bD : Binds K fdD ["_law_bag_here", "_law_limit"] []) (kD : PySem.W.keepIn K (.ref fD) = true) (mD : mg "_law_draw" = some (.ref fD)) (ml : mg "len" = none) :
    FnOk P w K mg base CX0 2 f fd ["_law_bag_here", "_law_things"] spOfS := by
  refine F.ok scOf (fun vs H Q E h => ?_) (fun cdv A outer s H vs Q E hr h => ?_)
  · obtain ⟨B, p, z, rfl, _⟩ := h
    rfl
  obtain ⟨B, p, z, rfl, l0, l1, hb, q⟩ := h
  refine ⟨_, pss_one (ps_ret (pe_ix ix_str (pv 1) (pe_call G hr rfl mD kD bD .nil pass0 (pa_cons (pv 0) (pa_cons (pe_callB call_len_str rfl ml PySem.boot_len (pa_cons (pv 1) pa_nil)) pa_nil))) (fun _ _ => rfl))), ?_⟩
  have hz : z.length ≤ sizeLine := Nat.le_of_lt (small1000 l1)
  refine ⟨_, rfl, _, rfl, _, rfl, z, rfl, hz, B, p, _, rfl, by omega, by omega, hb, fun H' k b' u k0 k1 => ?_⟩
  have el : z.cps.toList.length = z.length := Array.length_toList
  have hk : k.toNat < z.cps.toList.length := by omega
  exact ⟨z, k, z.cps.toList[k.toNat], rfl, rfl, hz, by
    have e : atI z.cps.toList ((k.toNat : Nat) : Int) = some z.cps.toList[k.toNat] := atI_nat (List.getElem?_eq_getElem hk)
    rw [show ((k.toNat : Nat) : Int) = k by omega] at e
    exact e, q H' _ b' u⟩
end
end Kq
end
section
set_option maxHeartbeats 4000000
namespace Kq
open PySem PySem.Spec PyProof.Rows L2
/-- // by any divisor but 0, below 2 ^ 9000 -/
theorem op_fdivA {X : Cx} : OpR X (binaryOp .FloorDiv) (rI (fun _ j => j ≠ 0 ∧ j.natAbs.log2 < 9000) fun i j => .int (i.fdiv j)) := opI fun _ _ _ _ _ _ _ hc q => floordiv_int hc.1 q (.inl (PyProof.noPylong_of_log2 hc.2))
/-- the greatest common divisor, with the sign of q -/
def gS (p q : Int) : Int := if q < 0 then -((Nat.gcd p.natAbs q.natAbs : Nat) : Int) else ((Nat.gcd p.natAbs q.natAbs : Nat) : Int)
/-- p over q in lowest terms, above and below -/
def lowU (p q : Int) : Int := p.fdiv (gS p q)
def lowL (p q : Int) : Int := q.fdiv (gS p q)
theorem gS_ne {p q : Int} (h : q ≠ 0) : gS p q ≠ 0 := by
  have g : Nat.gcd p.natAbs q.natAbs ≠ 0 := fun e => h (Int.natAbs_eq_zero.mp (Nat.eq_zero_of_gcd_eq_zero_right e))
  unfold gS
  split <;> omega
theorem gS_abs (p q : Int) : (gS p q).natAbs = Nat.gcd p.natAbs q.natAbs := by
  unfold gS
  split <;> omega
theorem gS_le {p q : Int} (h : q ≠ 0) : (gS p q).natAbs ≤ q.natAbs := by
  rw [gS_abs]
  exact Nat.gcd_le_right _ (Nat.pos_of_ne_zero (fun e => h (Int.natAbs_eq_zero.mp e)))
theorem log_le {a b : Nat} (h : a ≤ b) : a.log2 ≤ b.log2 := by
  by_cases e : a = 0
  · subst e
    rw [Nat.log2_zero]
    omega
  · have := Nat.log2_self_le e
    exact (Nat.le_log2 (by omega)).mpr (Nat.le_trans this h)
theorem abs_nat (i : Int) : (if i < 0 then -i else i) = ((i.natAbs : Nat) : Int) := by
  split <;> omega
def spLow : Sp := fun vs H Q _ => ∃ p q : Int, vs = [.int p, .int q] ∧ q ≠ 0 ∧ q.natAbs.log2 < 9000 ∧ ∀ t, H t = none → Q (.ref t) (upd H t (.tup [.int (lowU p q), .int (lowL p q)]))
abbrev nLow : List Str := ["_law_p", "_law_q", "_law_a", "_law_b"]
section
variable {P : Program} {w : World} {K : PySem.W.Frag} {mg : Str → Option Value} {base : Heap} {f : Addr} {fd : FuncData}
theorem scLow : FnScope nLow ["_law_p", "_law_q"] (defScope (top 79)) := ⟨rfl, rfl, rfl, by decide +kernel, rfl, by decide +kernel, by decide +kernel⟩
theorem ok_low (F : Fun K "_law_low" "_law_low" (top 79) f fd) (ma : mg "abs" = none) (mi : mg "int" = none) : FnOk P w K mg base CX0 1 f fd ["_law_p", "_law_q"] spLow := by
  refine F.ok scLow (fun vs H Q E h => ?_) (fun cdv A outer s H vs Q E hr h => ?_)
  · obtain ⟨p, q, rfl, _⟩ := h
    rfl
  obtain ⟨p, q, rfl, hq, hl, qq⟩ := h
  refine ⟨_, pss_cons (ps_par (i := 2) (j := 3) rfl scLow.nd rfl rfl (by decide) rfl rfl (pa_cons (pe_callB call_abs rfl ma (by decide +kernel) (pa_cons (pv 0) pa_nil)) (pa_cons (pe_callB call_abs rfl ma (by decide +kernel) (pa_cons (pv 1) pa_nil)) pa_nil)) rfl)
    (pss_cons (ps_while PassesOwn.never (pt_cmpR op_gt (pv 3) pe_int (nomark _)) (pss_one (ps_par (i := 2) (j := 3) rfl scLow.nd rfl rfl (by decide) rfl rfl (pa_cons (pv 3) (pa_cons (pe_op op_mod (pe_callTy call_int1 rfl mi (by decide +kernel) (pa_cons (pv 2) pa_nil)) (pv 3)) pa_nil)) rfl)))
    (pss_cons (ps_if (pt_cmpR op_lt (pv 1) pe_int (nomark _)) (pss_one (ps_set (i := 2) scLow.nd rfl (Or.inl rfl) (pe_un un_neg (pv 2)))) pss_nil)
    (pss_one (ps_ret (pe_tup (pa_cons (pe_op op_fdivA (pv 0) (pv 2)) (pa_cons (pe_op op_fdivA (pv 1) (pv 2)) pa_nil))))))), ?_⟩
  refine ⟨_, rfl, p, rfl, _, rfl, q, rfl, _, _, rfl, ?_⟩
  rw [abs_nat, abs_nat]
  refine ⟨fun m σ H' => H' = H ∧ ∃ a b : Nat, σ = [some (.int p), some (.int q), some (.int a), some (.int b)] ∧ Nat.gcd a b = Nat.gcd p.natAbs q.natAbs ∧ b = m, ⟨_, rfl, _, _, rfl, rfl, rfl⟩, ?_⟩
  rintro m σ H' ⟨rfl, a, b, rfl, hg, rfl⟩
  refine ⟨_, rfl, b, 0, rfl, rfl, _, rfl, ite2 (fun c => ?_) (fun c => ?_)⟩
  · have hb : (0 : Int) < (b : Nat) := of_decide_eq_true c
    refine ⟨fun σ' H2 => H2 = H' ∧ σ' = [some (.int p), some (.int q), some (.int b), some (.int ((a % b : Nat) : Int))], ?_, ?_⟩
    · rintro σ' H2 ⟨rfl, rfl⟩
      exact ⟨a % b, Nat.mod_lt _ (by omega), rfl, b, a % b, rfl, by rw [← hg, Nat.gcd_comm a b, Nat.gcd_rec b a, Nat.gcd_comm], rfl⟩
    · exact ⟨_, rfl, _, rfl, .inl ⟨_, rfl, _, rfl, a, b, rfl, rfl, hb, _, _, rfl, rfl, rfl⟩⟩
  · have hb : ¬ (0 : Int) < (b : Nat) := of_decide_eq_false (Bool.eq_false_iff.mpr c)
    obtain rfl : b = 0 := by omega
    rw [Nat.gcd_zero_right] at hg
    subst hg
    have fin : ∀ g : Int, g = gS p q → (∀ t, H' t = none → Q (.ref t) (upd H' t (.tup [.int (p.fdiv g), .int (q.fdiv g)]))) ∧ g ≠ 0 ∧ g.natAbs.log2 < 9000 := by
      rintro g rfl
      exact ⟨qq, gS_ne hq, Nat.lt_of_le_of_lt (log_le (gS_le hq)) hl⟩
    refine ⟨_, rfl, q, 0, rfl, rfl, _, rfl, ite2 (fun c => ?_) (fun c => ?_)⟩
    · obtain ⟨q1, n0, l9⟩ := fin (-((Nat.gcd p.natAbs q.natAbs : Nat) : Int)) (by unfold gS; rw [if_pos (of_decide_eq_true c)])
      exact ⟨_, rfl, _, rfl, _, rfl, _, rfl, p, _, rfl, rfl, ⟨n0, l9⟩, _, rfl, _, rfl, q, _, rfl, rfl, ⟨n0, l9⟩, (by show 2 ≤ sizeLine; decide), q1⟩
    · obtain ⟨q1, n0, l9⟩ := fin ((Nat.gcd p.natAbs q.natAbs : Nat) : Int) (by unfold gS; rw [if_neg (of_decide_eq_false (Bool.eq_false_iff.mpr c))])
      exact ⟨_, rfl, _, rfl, p, _, rfl, rfl, ⟨n0, l9⟩, _, rfl, _, rfl, q, _, rfl, rfl, ⟨n0, l9⟩, (by show 2 ≤ sizeLine; decide), q1⟩
end
end Kq
end
section
set_option maxHeartbeats 4000000
namespace Kq
open PySem PySem.Spec PyProof.Rows L2
theorem lowU_one (x : Int) : lowU x 1 = x := by
  unfold lowU gS
  rw [if_neg (by decide), show Nat.gcd x.natAbs (1 : Int).natAbs = 1 from Nat.gcd_one_right _]
  simp
theorem lowL_one (x : Int) : lowL x 1 = 1 := by
  unfold lowL gS
  rw [if_neg (by decide), show Nat.gcd x.natAbs (1 : Int).natAbs = 1 from Nat.gcd_one_right _]
  rfl
/-- u over l stands at v, both below 2 ^ n -/
def Fr (H : Hp) (n : Nat) (v : V) (u l : Int) : Prop := ∃ a, v = .ref a ∧ H a = some (.tup [.int u, .int l]) ∧ u.natAbs < 2 ^ n ∧ l.natAbs < 2 ^ n ∧ l ≠ 0
theorem Fr.same {H H' : Hp} {n : Nat} {v : V} {u l : Int} (h : Fr H n v u l) (s : Same H H') : Fr H' n v u l := by
  obtain ⟨a, e, h1, h2⟩ := h
  exact ⟨a, e, s _ _ h1, h2⟩
/-- a new pair comes back -/
def Gives (H : Hp) (Q : VK) (u l : Int) : Prop := ∀ t H', Same H H' → H t = none → H' t = some (.tup [.int u, .int l]) → Q (.ref t) H'
theorem add_bd {x y : Int} {n : Nat} (hx : x.natAbs < 2 ^ n) (hy : y.natAbs < 2 ^ n) : (x + y).natAbs < 2 ^ (n + 1) := by
  have := Int.natAbs_add_le x y
  rw [Nat.pow_succ]
  omega
theorem log_bd {x : Int} {n : Nat} (h : x.natAbs < 2 ^ n) (h0 : 0 < n) : x.natAbs.log2 < n := PySem.Flt.log2_lt_of h0 h
def spAdd : Sp := fun vs H Q _ => ∃ (x y : V) (a b c d : Int), vs = [x, y] ∧ Fr H 1000 x a b ∧ Fr H 1000 y c d ∧ Gives H Q (lowU (a * d + c * b) (b * d)) (lowL (a * d + c * b) (b * d))
def spMul : Sp := fun vs H Q _ => ∃ (x y : V) (a b c d : Int), vs = [x, y] ∧ Fr H 1000 x a b ∧ Fr H 1000 y c d ∧ Gives H Q (lowU (a * c) (b * d)) (lowL (a * c) (b * d))
abbrev nAB : List Str := ["_law_a", "_law_b"]
section
variable {P : Program} {w : World} {K : PySem.W.Frag} {mg : Str → Option Value} {base : Heap} {f fL : Addr} {fd fdL : FuncData}
theorem scAdd : FnScope nAB ["_law_a", "_law_b"] (defScope (top 80)) := ⟨rfl, rfl, rfl, by decide +kernel, rfl, by decide +kernel, by decide +kernel⟩
theorem ok_add (F : Fun K "_law_add" "_law_add" (top 80) f fd) (G : FnOk P w K mg base CX0 1 fL fdL ["_law_p", "_law_q"] spLow) (bL : Binds K fdL ["_law_p", "_law_q"] []) (kL : PySem.W.keepIn K (.ref fL) = true) (mL : mg "_law_low" = some (.ref fL)) :
    FnOk P w K mg base CX0 2 f fd ["_law_a", "_law_b"] spAdd := by
  refine F.ok scAdd (fun vs H Q E h => ?_) (fun cdv A outer s H vs Q E hr h => ?_)
  · obtain ⟨x, y, a, b, c, d, rfl, _⟩ := h
    rfl
  obtain ⟨x, y, a, b, c, d, rfl, ⟨xa, rfl, hx, a1, b1, b0⟩, ⟨ya, rfl, hy, c1, d1, d0⟩, q⟩ := h
  have at2 : ∀ i : Nat, ∀ j : Str, True := fun _ _ => trivial
  refine ⟨_, pss_cons (ps_if (PW.pt (pw_and (pt_cmpR op_eq (pe_ix ix_tup (pv 0) pe_int (fun _ _ => rfl)) pe_int (nomark _)) (pw_and1 (pt_cmpR op_eq (pe_ix ix_tup (pv 1) pe_int (fun _ _ => rfl)) pe_int (nomark _)))))
      (pss_one (ps_ret (pe_tup (pa_cons (pe_op op_add (pe_ix ix_tup (pv 0) pe_int (fun _ _ => rfl)) (pe_ix ix_tup (pv 1) pe_int (fun _ _ => rfl))) (pa_cons pe_int pa_nil))))) pss_nil)
    (pss_one (ps_ret (pe_call G hr rfl mL kL bL .nil pass0 (pa_cons (pe_op op_add (pe_op op_mulW (pe_ix ix_tup (pv 0) pe_int (fun _ _ => rfl)) (pe_ix ix_tup (pv 1) pe_int (fun _ _ => rfl))) (pe_op op_mulW (pe_ix ix_tup (pv 1) pe_int (fun _ _ => rfl)) (pe_ix ix_tup (pv 0) pe_int (fun _ _ => rfl))))
      (pa_cons (pe_op op_mulW (pe_ix ix_tup (pv 0) pe_int (fun _ _ => rfl)) (pe_ix ix_tup (pv 1) pe_int (fun _ _ => rfl))) pa_nil))))), ?_⟩
  have sx := SqT.of (K := K) hx
  have sy := SqT.of (K := K) hy
  have low : ∃ p q : Int, [V.int (a * d + c * b), V.int (b * d)] = [.int p, .int q] ∧ q ≠ 0 ∧ q.natAbs.log2 < 9000 ∧ ∀ t, H t = none → Q (.ref t) (upd H t (.tup [.int (lowU p q), .int (lowL p q)])) :=
    ⟨_, _, rfl, Int.mul_ne_zero b0 d0, Nat.lt_trans (log_bd (wide_lt b1 d1) (by decide)) (by decide), fun t nt => q t _ (new_same nt _) nt upd_same⟩
  have els : tRet (tCall spLow [] E0 (tCons (tOp (rI0 fun i j => .int (i + j)) (tOp (rI CMulW fun i j => .int (i * j)) (tOp (rIxT K) (tVar 0) (tC (.int 0))) (tOp (rIxT K) (tVar 1) (tC (.int 1)))) (tOp (rI CMulW fun i j => .int (i * j)) (tOp (rIxT K) (tVar 1) (tC (.int 0))) (tOp (rIxT K) (tVar 0) (tC (.int 1)))))
      (tCons (tOp (rI CMulW fun i j => .int (i * j)) (tOp (rIxT K) (tVar 0) (tC (.int 1))) (tOp (rIxT K) (tVar 1) (tC (.int 1)))) tNil))) { nx := fun _ H' => Q .non H', rt := Q } (L2.start nAB [.ref xa, .ref ya]) H :=
    ⟨_, rfl, xa, _, 0, _, rfl, rfl, sx, rfl, _, rfl, ya, _, 1, _, rfl, rfl, sy, rfl, a, d, rfl, rfl, wide_mul a1 d1 (by decide) (by decide) (by decide), _, rfl, ya, _, 0, _, rfl, rfl, sy, rfl, _, rfl, xa, _, 1, _, rfl, rfl, sx, rfl, c, b, rfl, rfl, wide_mul c1 b1 (by decide) (by decide) (by decide), _, _, rfl, rfl,
      _, rfl, xa, _, 1, _, rfl, rfl, sx, rfl, _, rfl, ya, _, 1, _, rfl, rfl, sy, rfl, b, d, rfl, rfl, wide_mul b1 d1 (by decide) (by decide) (by decide), low⟩
  refine ⟨_, rfl, xa, _, 1, _, rfl, rfl, sx, rfl, rfl, _, rfl, ite2 (fun e1 => ?_) (fun _ => iteF els)⟩
  refine ⟨_, rfl, ya, _, 1, _, rfl, rfl, sy, rfl, rfl, _, rfl, ite2 (fun e2 => ?_) (fun _ => els)⟩
  obtain rfl : b = 1 := V.int.inj (of_decide_eq_true e1)
  obtain rfl : d = 1 := V.int.inj (of_decide_eq_true e2)
  refine ⟨_, rfl, xa, _, 0, _, rfl, rfl, sx, rfl, _, rfl, ya, _, 0, _, rfl, rfl, sy, rfl, _, _, rfl, rfl, (by show 2 ≤ sizeLine; decide), fun t nt => q t _ (new_same nt _) nt ?_⟩
  rw [upd_same, show (1 : Int) * 1 = 1 from rfl, lowU_one, lowL_one, Int.mul_one, Int.mul_one]
end
end Kq
end
section
set_option maxHeartbeats 4000000
namespace Kq
open PySem PySem.Spec PyProof.Rows L2
section
variable {P : Program} {w : World} {K : PySem.W.Frag} {mg : Str → Option Value} {base : Heap} {f fL : Addr} {fd fdL : FuncData}
theorem scMul : FnScope nAB ["_law_a", "_law_b"] (defScope (top 81)) := ⟨rfl, rfl, rfl, by decide +kernel, rfl, by decide +kernel, by decide +kernel⟩
theorem ok_mul (F : Fun K "_law_mul" "_law_mul" (top 81) f fd) (G : FnOk P w K mg base CX0 1 fL fdL ["_law_p", "_law_q"] spLow) (bL : Binds K fdL ["_law_p", "_law_q"] []) (kL : PySem.W.keepIn K (.ref fL) = true) (mL : mg "_law_low" = some (.ref fL)) :
    FnOk P w K mg base CX0 2 f fd ["_law_a", "_law_b"] spMul := by
  refine F.ok scMul (fun vs H Q E h => ?_) (fun cdv A outer s H vs Q E hr h => ?_)
  · obtain ⟨x, y, a, b, c, d, rfl, _⟩ := h
    rfl
  obtain ⟨x, y, a, b, c, d, rfl, ⟨xa, rfl, hx, a1, b1, b0⟩, ⟨ya, rfl, hy, c1, d1, d0⟩, q⟩ := h
  refine ⟨_, pss_cons (ps_if (PW.pt (pw_and (pt_cmpR op_eq (pe_ix ix_tup (pv 0) pe_int (fun _ _ => rfl)) pe_int (nomark _)) (pw_and1 (pt_cmpR op_eq (pe_ix ix_tup (pv 1) pe_int (fun _ _ => rfl)) pe_int (nomark _)))))
      (pss_one (ps_ret (pe_tup (pa_cons (pe_op op_mulW (pe_ix ix_tup (pv 0) pe_int (fun _ _ => rfl)) (pe_ix ix_tup (pv 1) pe_int (fun _ _ => rfl))) (pa_cons pe_int pa_nil))))) pss_nil)
    (pss_one (ps_ret (pe_call G hr rfl mL kL bL .nil pass0 (pa_cons (pe_op op_mulW (pe_ix ix_tup (pv 0) pe_int (fun _ _ => rfl)) (pe_ix ix_tup (pv 1) pe_int (fun _ _ => rfl)))
      (pa_cons (pe_op op_mulW (pe_ix ix_tup (pv 0) pe_int (fun _ _ => rfl)) (pe_ix ix_tup (pv 1) pe_int (fun _ _ => rfl))) pa_nil))))), ?_⟩
  have sx := SqT.of (K := K) hx
  have sy := SqT.of (K := K) hy
  have low : ∃ p q : Int, [V.int (a * c), V.int (b * d)] = [.int p, .int q] ∧ q ≠ 0 ∧ q.natAbs.log2 < 9000 ∧ ∀ t, H t = none → Q (.ref t) (upd H t (.tup [.int (lowU p q), .int (lowL p q)])) :=
    ⟨_, _, rfl, Int.mul_ne_zero b0 d0, Nat.lt_trans (log_bd (wide_lt b1 d1) (by decide)) (by decide), fun t nt => q t _ (new_same nt _) nt upd_same⟩
  have els : tRet (tCall spLow [] E0 (tCons (tOp (rI CMulW fun i j => .int (i * j)) (tOp (rIxT K) (tVar 0) (tC (.int 0))) (tOp (rIxT K) (tVar 1) (tC (.int 0))))
      (tCons (tOp (rI CMulW fun i j => .int (i * j)) (tOp (rIxT K) (tVar 0) (tC (.int 1))) (tOp (rIxT K) (tVar 1) (tC (.int 1)))) tNil))) { nx := fun _ H' => Q .non H', rt := Q } (L2.start nAB [.ref xa, .ref ya]) H :=
    ⟨_, rfl, xa, _, 0, _, rfl, rfl, sx, rfl, _, rfl, ya, _, 0, _, rfl, rfl, sy, rfl, a, c, rfl, rfl, wide_mul a1 c1 (by decide) (by decide) (by decide),
      _, rfl, xa, _, 1, _, rfl, rfl, sx, rfl, _, rfl, ya, _, 1, _, rfl, rfl, sy, rfl, b, d, rfl, rfl, wide_mul b1 d1 (by decide) (by decide) (by decide), low⟩
  refine ⟨_, rfl, xa, _, 1, _, rfl, rfl, sx, rfl, rfl, _, rfl, ite2 (fun e1 => ?_) (fun _ => iteF els)⟩
  refine ⟨_, rfl, ya, _, 1, _, rfl, rfl, sy, rfl, rfl, _, rfl, ite2 (fun e2 => ?_) (fun _ => els)⟩
  obtain rfl : b = 1 := V.int.inj (of_decide_eq_true e1)
  obtain rfl : d = 1 := V.int.inj (of_decide_eq_true e2)
  refine ⟨_, rfl, xa, _, 0, _, rfl, rfl, sx, rfl, _, rfl, ya, _, 0, _, rfl, rfl, sy, rfl, a, c, rfl, rfl, wide_mul a1 c1 (by decide) (by decide) (by decide), (by show 2 ≤ sizeLine; decide), fun t nt => q t _ (new_same nt _) nt ?_⟩
  rw [upd_same, show (1 : Int) * 1 = 1 from rfl, lowU_one, lowL_one]
def spNeg : Sp := fun vs H Q _ => ∃ (x : V) (a b : Int), vs = [x] ∧ Fr H 1000 x a b ∧ Gives H Q (-a) b
theorem scNeg : FnScope ["_law_a"] ["_law_a"] (defScope (top 82)) := ⟨rfl, rfl, rfl, by decide +kernel, rfl, by decide +kernel, by decide +kernel⟩
theorem ok_neg (F : Fun K "_law_neg" "_law_neg" (top 82) f fd) : FnOk P w K mg base CX0 1 f fd ["_law_a"] spNeg := by
  refine F.ok scNeg (fun vs H Q E h => ?_) (fun cdv A outer s H vs Q E hr h => ?_)
  · obtain ⟨x, a, b, rfl, _⟩ := h
    rfl
  obtain ⟨x, a, b, rfl, ⟨xa, rfl, hx, _⟩, q⟩ := h
  have sx := SqT.of (K := K) hx
  refine ⟨_, pss_one (ps_ret (pe_tup (pa_cons (pe_un un_neg (pe_ix ix_tup (pv 0) pe_int (fun _ _ => rfl))) (pa_cons (pe_ix ix_tup (pv 0) pe_int (fun _ _ => rfl)) pa_nil)))), ?_⟩
  exact ⟨_, rfl, xa, _, 0, _, rfl, rfl, sx, rfl, _, rfl, _, rfl, xa, _, 1, _, rfl, rfl, sx, rfl, (by show 2 ≤ sizeLine; decide), fun t nt => q t _ (new_same nt _) nt upd_same⟩
/-! ### the program: ratio, where nothing is refused -/
def spRatio : Sp := fun vs H Q _ => ∃ p q : Int, vs = [.int p, .int q] ∧ q ≠ 0 ∧ q.natAbs.log2 < 9000 ∧ Gives H Q (lowU p q) (lowL p q)
theorem scRatio : FnScope ["upper", "lower", "shared"] ["upper", "lower"] (defScope (top 22)) := ⟨rfl, rfl, rfl, by decide +kernel, rfl, by decide +kernel, by decide +kernel⟩
theorem ok_ratio (F : Fun K "ratio" "ratio" (top 22) f fd) (mG : mg "gcd" = some (.builtin "math.gcd")) : FnOk P w K mg base CX0 1 f fd ["upper", "lower"] spRatio := by
  refine F.ok scRatio (fun vs H Q E h => ?_) (fun cdv A outer s H vs Q E hr h => ?_)
  · obtain ⟨p, q, rfl, _⟩ := h
    rfl
  obtain ⟨p, q, rfl, hq, hl, qq⟩ := h
  refine ⟨_, pss_cons (ps_if (pt_cmpR op_eq (pv 1) pe_int (nomark _)) (pss_one ps_never) pss_nil)
    (pss_cons (ps_set (i := 2) scRatio.nd rfl (Or.inl rfl) (pe_callBfun cr_gcd rfl mG (pa_cons (pv 0) (pa_cons (pv 1) pa_nil))))
    (pss_cons (ps_if (pt_cmpR op_lt (pv 1) pe_int (nomark _)) (pss_one (ps_set (i := 2) scRatio.nd rfl (Or.inl rfl) (pe_un un_neg (pv 2)))) pss_nil)
    (pss_one (ps_ret (pe_tup (pa_cons (pe_op op_fdivA (pv 0) (pv 2)) (pa_cons (pe_op op_fdivA (pv 1) (pv 2)) pa_nil))))))), ?_⟩
  have fin : ∀ g : Int, g = gS p q → (∀ t, H t = none → Q (.ref t) (upd H t (.tup [.int (p.fdiv g), .int (q.fdiv g)]))) ∧ g ≠ 0 ∧ g.natAbs.log2 < 9000 := by
    rintro g rfl
    exact ⟨fun t nt => qq t _ (new_same nt _) nt upd_same, gS_ne hq, Nat.lt_of_le_of_lt (log_le (gS_le hq)) hl⟩
  refine ⟨_, rfl, rfl, _, rfl, ?_⟩
  rw [decide_eq_false (fun e => hq (V.int.inj e))]
  refine iteF ⟨_, rfl, _, rfl, p, q, rfl, ?_⟩
  refine ⟨_, rfl, q, 0, rfl, rfl, _, rfl, ite2 (fun c => ?_) (fun c => ?_)⟩
  · obtain ⟨q1, n0, l9⟩ := fin (-((Nat.gcd p.natAbs q.natAbs : Nat) : Int)) (by unfold gS; rw [if_pos (of_decide_eq_true c)])
    exact ⟨_, rfl, _, rfl, _, rfl, _, rfl, p, _, rfl, rfl, ⟨n0, l9⟩, _, rfl, _, rfl, q, _, rfl, rfl, ⟨n0, l9⟩, (by show 2 ≤ sizeLine; decide), q1⟩
  · obtain ⟨q1, n0, l9⟩ := fin ((Nat.gcd p.natAbs q.natAbs : Nat) : Int) (by unfold gS; rw [if_neg (of_decide_eq_false (Bool.eq_false_iff.mpr c))])
    exact ⟨_, rfl, _, rfl, p, _, rfl, rfl, ⟨n0, l9⟩, _, rfl, _, rfl, q, _, rfl, rfl, ⟨n0, l9⟩, (by show 2 ≤ sizeLine; decide), q1⟩
end
end Kq
end
section
set_option maxHeartbeats 4000000
namespace Kq
open PySem PySem.Spec PyProof.Rows L2
/-- of two fractions: what goes into ratio -/
def spTwo (up lo : Int → Int → Int → Int → Int) : Sp := fun vs H Q _ => ∃ (x y : V) (a b c d : Int), vs = [x, y] ∧ Fr H 1000 x a b ∧ Fr H 1000 y c d ∧ lo a b c d ≠ 0 ∧ Gives H Q (lowU (up a b c d) (lo a b c d)) (lowL (up a b c d) (lo a b c d))
def spBelow : Sp := fun vs H Q _ => ∃ (x y : V) (a b c d : Int), vs = [x, y] ∧ Fr H 1000 x a b ∧ Fr H 1000 y c d ∧ Q (.bl (decide (a * d < c * b))) H
abbrev nOO : List Str := ["one", "other"]
section
variable {P : Program} {w : World} {K : PySem.W.Frag} {mg : Str → Option Value} {base : Heap} {f fL : Addr} {fd fdL : FuncData}
theorem scSum : FnScope nOO ["one", "other"] (defScope (top 23)) := ⟨rfl, rfl, rfl, by decide +kernel, rfl, by decide +kernel, by decide +kernel⟩
theorem scDif : FnScope nOO ["one", "other"] (defScope (top 24)) := ⟨rfl, rfl, rfl, by decide +kernel, rfl, by decide +kernel, by decide +kernel⟩
theorem scPro : FnScope nOO ["one", "other"] (defScope (top 25)) := ⟨rfl, rfl, rfl, by decide +kernel, rfl, by decide +kernel, by decide +kernel⟩
theorem scQuo : FnScope nOO ["one", "other"] (defScope (top 26)) := ⟨rfl, rfl, rfl, by decide +kernel, rfl, by decide +kernel, by decide +kernel⟩
theorem scBel : FnScope nOO ["one", "other"] (defScope (top 30)) := ⟨rfl, rfl, rfl, by decide +kernel, rfl, by decide +kernel, by decide +kernel⟩
section
variable (G : FnOk P w K mg base CX0 1 fL fdL ["upper", "lower"] spRatio) (bL : Binds K fdL ["upper", "lower"] []) (kL : PySem.W.keepIn K (.ref fL) = true) (mL : mg "ratio" = some (.ref fL))
include G bL kL mL
theorem ok_sum (F : Fun K "sum_of" "sum_of" (top 23) f fd) : FnOk P w K mg base CX0 2 f fd ["one", "other"] (spTwo (fun a b c d => a * d + c * b) (fun _ b _ d => b * d)) := by
  refine F.ok scSum (fun vs H Q E h => ?_) (fun cdv A outer s H vs Q E hr h => ?_)
  · obtain ⟨x, y, a, b, c, d, rfl, _⟩ := h
    rfl
  obtain ⟨x, y, a, b, c, d, rfl, ⟨xa, rfl, hx, a1, b1, b0⟩, ⟨ya, rfl, hy, c1, d1, d0⟩, n0, q⟩ := h
  have sx := SqT.of (K := K) hx
  have sy := SqT.of (K := K) hy
  refine ⟨_, pss_one (ps_ret (pe_call G hr rfl mL kL bL .nil pass0 (pa_cons (pe_op op_add (pe_op op_mulW (pe_ix ix_tup (pv 0) pe_int (fun _ _ => rfl)) (pe_ix ix_tup (pv 1) pe_int (fun _ _ => rfl))) (pe_op op_mulW (pe_ix ix_tup (pv 1) pe_int (fun _ _ => rfl)) (pe_ix ix_tup (pv 0) pe_int (fun _ _ => rfl))))
      (pa_cons (pe_op op_mulW (pe_ix ix_tup (pv 0) pe_int (fun _ _ => rfl)) (pe_ix ix_tup (pv 1) pe_int (fun _ _ => rfl))) pa_nil)))), ?_⟩
  exact ⟨_, rfl, xa, _, 0, _, rfl, rfl, sx, rfl, _, rfl, ya, _, 1, _, rfl, rfl, sy, rfl, a, d, rfl, rfl, wide_mul a1 d1 (by decide) (by decide) (by decide), _, rfl, ya, _, 0, _, rfl, rfl, sy, rfl, _, rfl, xa, _, 1, _, rfl, rfl, sx, rfl, c, b, rfl, rfl, wide_mul c1 b1 (by decide) (by decide) (by decide), _, _, rfl, rfl,
      _, rfl, xa, _, 1, _, rfl, rfl, sx, rfl, _, rfl, ya, _, 1, _, rfl, rfl, sy, rfl, b, d, rfl, rfl, wide_mul b1 d1 (by decide) (by decide) (by decide), _, _, rfl, n0, Nat.lt_trans (log_bd (wide_lt b1 d1) (by decide)) (by decide), q⟩
theorem ok_dif (F : Fun K "difference_of" "difference_of" (top 24) f fd) : FnOk P w K mg base CX0 2 f fd ["one", "other"] (spTwo (fun a b c d => a * d - c * b) (fun _ b _ d => b * d)) := by
  refine F.ok scDif (fun vs H Q E h => ?_) (fun cdv A outer s H vs Q E hr h => ?_)
  · obtain ⟨x, y, a, b, c, d, rfl, _⟩ := h
    rfl
  obtain ⟨x, y, a, b, c, d, rfl, ⟨xa, rfl, hx, a1, b1, b0⟩, ⟨ya, rfl, hy, c1, d1, d0⟩, n0, q⟩ := h
  have sx := SqT.of (K := K) hx
  have sy := SqT.of (K := K) hy
  refine ⟨_, pss_one (ps_ret (pe_call G hr rfl mL kL bL .nil pass0 (pa_cons (pe_op op_sub (pe_op op_mulW (pe_ix ix_tup (pv 0) pe_int (fun _ _ => rfl)) (pe_ix ix_tup (pv 1) pe_int (fun _ _ => rfl))) (pe_op op_mulW (pe_ix ix_tup (pv 1) pe_int (fun _ _ => rfl)) (pe_ix ix_tup (pv 0) pe_int (fun _ _ => rfl))))
      (pa_cons (pe_op op_mulW (pe_ix ix_tup (pv 0) pe_int (fun _ _ => rfl)) (pe_ix ix_tup (pv 1) pe_int (fun _ _ => rfl))) pa_nil)))), ?_⟩
  exact ⟨_, rfl, xa, _, 0, _, rfl, rfl, sx, rfl, _, rfl, ya, _, 1, _, rfl, rfl, sy, rfl, a, d, rfl, rfl, wide_mul a1 d1 (by decide) (by decide) (by decide), _, rfl, ya, _, 0, _, rfl, rfl, sy, rfl, _, rfl, xa, _, 1, _, rfl, rfl, sx, rfl, c, b, rfl, rfl, wide_mul c1 b1 (by decide) (by decide) (by decide), _, _, rfl, rfl,
      _, rfl, xa, _, 1, _, rfl, rfl, sx, rfl, _, rfl, ya, _, 1, _, rfl, rfl, sy, rfl, b, d, rfl, rfl, wide_mul b1 d1 (by decide) (by decide) (by decide), _, _, rfl, n0, Nat.lt_trans (log_bd (wide_lt b1 d1) (by decide)) (by decide), q⟩
theorem ok_pro (F : Fun K "product_of" "product_of" (top 25) f fd) : FnOk P w K mg base CX0 2 f fd ["one", "other"] (spTwo (fun a _ c _ => a * c) (fun _ b _ d => b * d)) := by
  refine F.ok scPro (fun vs H Q E h => ?_) (fun cdv A outer s H vs Q E hr h => ?_)
  · obtain ⟨x, y, a, b, c, d, rfl, _⟩ := h
    rfl
  obtain ⟨x, y, a, b, c, d, rfl, ⟨xa, rfl, hx, a1, b1, b0⟩, ⟨ya, rfl, hy, c1, d1, d0⟩, n0, q⟩ := h
  have sx := SqT.of (K := K) hx
  have sy := SqT.of (K := K) hy
  refine ⟨_, pss_one (ps_ret (pe_call G hr rfl mL kL bL .nil pass0 (pa_cons (pe_op op_mulW (pe_ix ix_tup (pv 0) pe_int (fun _ _ => rfl)) (pe_ix ix_tup (pv 1) pe_int (fun _ _ => rfl)))
      (pa_cons (pe_op op_mulW (pe_ix ix_tup (pv 0) pe_int (fun _ _ => rfl)) (pe_ix ix_tup (pv 1) pe_int (fun _ _ => rfl))) pa_nil)))), ?_⟩
  exact ⟨_, rfl, xa, _, 0, _, rfl, rfl, sx, rfl, _, rfl, ya, _, 0, _, rfl, rfl, sy, rfl, a, c, rfl, rfl, wide_mul a1 c1 (by decide) (by decide) (by decide),
      _, rfl, xa, _, 1, _, rfl, rfl, sx, rfl, _, rfl, ya, _, 1, _, rfl, rfl, sy, rfl, b, d, rfl, rfl, wide_mul b1 d1 (by decide) (by decide) (by decide), _, _, rfl, n0, Nat.lt_trans (log_bd (wide_lt b1 d1) (by decide)) (by decide), q⟩
theorem ok_quo (F : Fun K "quotient_of" "quotient_of" (top 26) f fd) : FnOk P w K mg base CX0 2 f fd ["one", "other"] (spTwo (fun a _ _ d => a * d) (fun _ b c _ => b * c)) := by
  refine F.ok scQuo (fun vs H Q E h => ?_) (fun cdv A outer s H vs Q E hr h => ?_)
  · obtain ⟨x, y, a, b, c, d, rfl, _⟩ := h
    rfl
  obtain ⟨x, y, a, b, c, d, rfl, ⟨xa, rfl, hx, a1, b1, b0⟩, ⟨ya, rfl, hy, c1, d1, d0⟩, n0, q⟩ := h
  have sx := SqT.of (K := K) hx
  have sy := SqT.of (K := K) hy
  refine ⟨_, pss_one (ps_ret (pe_call G hr rfl mL kL bL .nil pass0 (pa_cons (pe_op op_mulW (pe_ix ix_tup (pv 0) pe_int (fun _ _ => rfl)) (pe_ix ix_tup (pv 1) pe_int (fun _ _ => rfl)))
      (pa_cons (pe_op op_mulW (pe_ix ix_tup (pv 0) pe_int (fun _ _ => rfl)) (pe_ix ix_tup (pv 1) pe_int (fun _ _ => rfl))) pa_nil)))), ?_⟩
  exact ⟨_, rfl, xa, _, 0, _, rfl, rfl, sx, rfl, _, rfl, ya, _, 1, _, rfl, rfl, sy, rfl, a, d, rfl, rfl, wide_mul a1 d1 (by decide) (by decide) (by decide),
      _, rfl, xa, _, 1, _, rfl, rfl, sx, rfl, _, rfl, ya, _, 0, _, rfl, rfl, sy, rfl, b, c, rfl, rfl, wide_mul b1 c1 (by decide) (by decide) (by decide), _, _, rfl, n0, Nat.lt_trans (log_bd (wide_lt b1 c1) (by decide)) (by decide), q⟩
end
theorem ok_bel (F : Fun K "is_below" "is_below" (top 30) f fd) : FnOk P w K mg base CX0 1 f fd ["one", "other"] spBelow := by
  refine F.ok scBel (fun vs H Q E h => ?_) (fun cdv A outer s H vs Q E hr h => ?_)
  · obtain ⟨x, y, a, b, c, d, rfl, _⟩ := h
    rfl
  obtain ⟨x, y, a, b, c, d, rfl, ⟨xa, rfl, hx, a1, b1, b0⟩, ⟨ya, rfl, hy, c1, d1, d0⟩, q⟩ := h
  have sx := SqT.of (K := K) hx
  have sy := SqT.of (K := K) hy
  refine ⟨_, pss_one (ps_ret (pe_cmpR op_lt (pe_op op_mulW (pe_ix ix_tup (pv 0) pe_int (fun _ _ => rfl)) (pe_ix ix_tup (pv 1) pe_int (fun _ _ => rfl))) (pe_op op_mulW (pe_ix ix_tup (pv 1) pe_int (fun _ _ => rfl)) (pe_ix ix_tup (pv 0) pe_int (fun _ _ => rfl))) (nomark _))), ?_⟩
  exact ⟨_, rfl, xa, _, 0, _, rfl, rfl, sx, rfl, _, rfl, ya, _, 1, _, rfl, rfl, sy, rfl, a, d, rfl, rfl, wide_mul a1 d1 (by decide) (by decide) (by decide), _, rfl, ya, _, 0, _, rfl, rfl, sy, rfl, _, rfl, xa, _, 1, _, rfl, rfl, sx, rfl, c, b, rfl, rfl, wide_mul c1 b1 (by decide) (by decide) (by decide), _, _, rfl, rfl, q⟩
end
end Kq
end
section
set_option maxHeartbeats 4000000
namespace Kq
open PySem PySem.Spec PyProof.Rows L2
theorem But.free {B p a : Addr} {H H' : Hp} (u : But B H H') (b : Bag H' B p) (h : H' a = none) : H a = none := by
  obtain ⟨_, _, _, _, _, h1, _⟩ := b.ex
  cases e : H a with
  | none => rfl
  | some o =>
    have z := u a o (fun y => by rw [y, h1] at h; cases h) e
    rw [h] at z
    cases z
theorem Bag.put {H : Hp} {B p a : Addr} {o : HO} (b : Bag H B p) (h : H a = none) : Bag (upd H a o) B p := b.same (new_same h o)
theorem Bag.at {H : Hp} {B p : Addr} (b : Bag H B p) {a : Addr} (h : H a = none) : a ≠ B ∧ a ≠ p := by
  obtain ⟨_, _, _, _, _, h1, h2, _⟩ := b.ex
  refine ⟨fun e => ?_, fun e => ?_⟩
  · rw [e, h1] at h
    cases h
  · rw [e, h2] at h
    cases h
/-- a new fraction in lowest terms, below 2 ^ n -/
def FrN (H0 H : Hp) (n : Nat) (v : V) : Prop := ∃ (a : Addr) (u l : Int), v = .ref a ∧ H0 a = none ∧ H a = some (.tup [.int u, .int l]) ∧ u.natAbs < 2 ^ n ∧ l.natAbs < 2 ^ n ∧ 0 < l ∧ Nat.gcd u.natAbs l.natAbs = 1
theorem low_ok {p q : Int} {n : Nat} (h : q ≠ 0) (hp : p.natAbs < 2 ^ n) (hq : q.natAbs < 2 ^ n) : (lowU p q).natAbs < 2 ^ n ∧ (lowL p q).natAbs < 2 ^ n ∧ 0 < lowL p q ∧ Nat.gcd (lowU p q).natAbs (lowL p q).natAbs = 1 := by
  have g0 : 0 < Nat.gcd p.natAbs q.natAbs := Nat.gcd_pos_of_pos_right _ (Nat.pos_of_ne_zero fun e => h (Int.natAbs_eq_zero.mp e))
  obtain ⟨a, ha⟩ : ((Nat.gcd p.natAbs q.natAbs : Nat) : Int) ∣ p := Int.ofNat_dvd_left.mpr (Nat.gcd_dvd_left _ _)
  obtain ⟨b, hb⟩ : ((Nat.gcd p.natAbs q.natAbs : Nat) : Int) ∣ q := Int.ofNat_dvd_left.mpr (Nat.gcd_dvd_right _ _)
  have gi : (0 : Int) < ((Nat.gcd p.natAbs q.natAbs : Nat) : Int) := by omega
  have key : ∃ s : Int, (s = 1 ∨ s = -1) ∧ gS p q = s * ((Nat.gcd p.natAbs q.natAbs : Nat) : Int) ∧ 0 < s * q := by
    unfold gS
    by_cases c : q < 0
    · exact ⟨-1, .inr rfl, by rw [if_pos c]; omega, by omega⟩
    · exact ⟨1, .inl rfl, by rw [if_neg c]; omega, by omega⟩
  obtain ⟨s, hs, hg, sq⟩ := key
  have dv : ∀ x y : Int, x = ((Nat.gcd p.natAbs q.natAbs : Nat) : Int) * y → x.fdiv (gS p q) = s * y := fun x y e => by
    rw [hg, e]
    have z : ((Nat.gcd p.natAbs q.natAbs : Nat) : Int) * y = s * ((Nat.gcd p.natAbs q.natAbs : Nat) : Int) * (s * y) := by
      rcases hs with rfl | rfl
      · simp
      · rw [Int.neg_one_mul, Int.neg_one_mul, Int.neg_mul_neg]
    rw [z]
    exact Int.mul_fdiv_cancel_left _ (by rcases hs with rfl | rfl <;> omega)
  have eU : lowU p q = s * a := dv _ _ ha
  have eL : lowL p q = s * b := dv _ _ hb
  have sa : ∀ x : Int, (s * x).natAbs = x.natAbs := fun x => by rcases hs with rfl | rfl <;> simp
  have na : p.natAbs = Nat.gcd p.natAbs q.natAbs * a.natAbs := by
    have := congrArg Int.natAbs ha
    rwa [Int.natAbs_mul, Int.natAbs_natCast] at this
  have nb : q.natAbs = Nat.gcd p.natAbs q.natAbs * b.natAbs := by
    have := congrArg Int.natAbs hb
    rwa [Int.natAbs_mul, Int.natAbs_natCast] at this
  rw [eU, eL, sa, sa]
  refine ⟨Nat.lt_of_le_of_lt ?_ hp, Nat.lt_of_le_of_lt ?_ hq, ?_, ?_⟩
  · rw [na]; exact Nat.le_mul_of_pos_left _ g0
  · rw [nb]; exact Nat.le_mul_of_pos_left _ g0
  · have z : 0 < ((Nat.gcd p.natAbs q.natAbs : Nat) : Int) * (s * b) := by
      rw [show ((Nat.gcd p.natAbs q.natAbs : Nat) : Int) * (s * b) = s * (((Nat.gcd p.natAbs q.natAbs : Nat) : Int) * b) by rw [Int.mul_left_comm], ← hb]
      exact sq
    rcases Int.lt_or_le 0 (s * b) with c | c
    · exact c
    · have m := Int.mul_le_mul_of_nonneg_left c (Int.le_of_lt gi)
      rw [Int.mul_zero] at m
      omega
  · have e := Nat.gcd_mul_left (Nat.gcd p.natAbs q.natAbs) a.natAbs b.natAbs
    rw [← na, ← nb] at e
    exact Nat.eq_of_mul_eq_mul_left g0 (by rw [Nat.mul_one]; exact e.symm)
end Kq
end
section
set_option maxHeartbeats 4000000
namespace Kq
open PySem PySem.Spec PyProof.Rows L2
def spNum : Sp := fun vs H Q _ => ∃ B p : Addr, vs = [.ref B] ∧ Bag H B p ∧ ∀ H' v, Bag H' B p → But B H H' → FrN H H' 40 v → Q v H'
def spBig : Sp := fun vs H Q _ => ∃ B p : Addr, vs = [.ref B] ∧ Bag H B p ∧ ∀ H' (n : Int), Bag H' B p → But B H H' → n.natAbs < 2 ^ 240 → Q (.int n) H'
def spWide : Sp := fun vs H Q _ => ∃ B p : Addr, vs = [.ref B] ∧ Bag H B p ∧ ∀ H' v, Bag H' B p → But B H H' → FrN H H' 240 v → Q v H'
abbrev nNum : List Str := ["_law_bag_here", "_law_pick", "_law_p"]
abbrev nBig : List Str := ["_law_bag_here", "_law_p", "_law_k"]
abbrev nWide : List Str := ["_law_bag_here", "_law_p", "_law_q"]
section
variable {P : Program} {w : World} {K : PySem.W.Frag} {mg : Str → Option Value} {base : Heap} {f fD fO fL fB : Addr} {fd fdD fdO fdL fdB : FuncData}
theorem scNum : FnScope nNum ["_law_bag_here"] (defScope (top 83)) := ⟨rfl, rfl, rfl, by decide +kernel, rfl, by decide +kernel, by decide +kernel⟩
theorem scBig : FnScope nBig ["_law_bag_here"] (defScope (top 84)) := ⟨rfl, rfl, rfl, by decide +kernel, rfl, by decide +kernel, by decide +kernel⟩
theorem scWide : FnScope nWide ["_law_bag_here"] (defScope (top 85)) := ⟨rfl, rfl, rfl, by decide +kernel, rfl, by decide +kernel, by decide +kernel⟩
section
variable (GD : FnOk P w K mg base CX0 1 fD fdD ["_law_bag_here", "_law_limit"] spDraw) (bD : Binds K fdD ["_law_bag_here", "_law_limit"] []) (kD : PySem.W.keepIn K (.ref fD) = true) (mD : mg "_law_draw" = some (.ref fD))
    (GO : FnOk P w K mg base CX0 2 fO fdO ["_law_bag_here", "_law_things"] spOfL) (bO : Binds K fdO ["_law_bag_here", "_law_things"] []) (kO : PySem.W.keepIn K (.ref fO) = true) (mO : mg "_law_of" = some (.ref fO))
include GD bD kD mD GO bO kO mO
theorem ok_big (F : Fun K "_law_big" "_law_big" (top 84) f fd) (mr : mg "range" = none) : FnOk P w K mg base CX0 3 f fd ["_law_bag_here"] spBig := by
  refine F.ok scBig (fun vs H Q E h => ?_) (fun cdv A outer s H vs Q E hr h => ?_)
  · obtain ⟨B, p, rfl, _⟩ := h
    rfl
  obtain ⟨B, p, rfl, hb, q⟩ := h
  have hr1 := hr.mono (show 1 ≤ 2 by decide)
  refine ⟨_, pss_cons (ps_set (i := 1) scBig.nd rfl (Or.inl rfl) (pe_call GD hr1 rfl mD kD bD .nil pass0 (pa_cons (pv 0) (pa_cons (pe_call GO hr rfl mO kO bO .nil pass0 (pa_cons (pv 0) (pa_cons (pe_lst (pa_cons pe_int (pa_cons pe_int (pa_cons pe_int (pa_cons pe_int (pa_cons pe_int (pa_cons pe_int pa_nil))))))) pa_nil))) pa_nil))))
    (pss_cons (ps_for PassesOwn.never rfl (pi_range1 rfl mr (pa_cons (pe_call GO hr rfl mO kO bO .nil pass0 (pa_cons (pv 0) (pa_cons (pe_lst (pa_cons pe_int (pa_cons pe_int (pa_cons pe_int (pa_cons pe_int (pa_cons pe_int (pa_cons pe_int (pa_cons pe_int pa_nil)))))))) pa_nil))) pa_nil)) (pg_name (i := 2) scBig.nd rfl (Or.inl rfl))
      (pss_one (ps_set (i := 1) scBig.nd rfl (Or.inl rfl) (pe_op op_add (pe_op op_mulW (pv 1) (pe_op op_pow pe_int pe_int)) (pe_call GD hr1 rfl mD kD bD .nil pass0 (pa_cons (pv 0) (pa_cons (pe_op op_pow pe_int pe_int) pa_nil)))))))
    (pss_one (ps_ret (pe_ifExp (pt_cmpR op_eq (pe_call GD hr1 rfl mD kD bD .nil pass0 (pa_cons (pv 0) (pa_cons pe_int pa_nil))) pe_int (nomark _)) (pe_un un_neg (pv 1)) (pv 1))))), ?_⟩
  refine ⟨_, rfl, _, rfl, (by show 6 ≤ sizeLine; decide), fun a na => ⟨B, p, a, _, rfl, upd_same, (hb.at na).1, (by show 0 < 6; decide), (by show 6 ≤ 1000; decide), hb.put na, fun H1 x b1 u1 hx => ?_⟩⟩
  have u1 : But B H H1 := (But.new na).trans u1
  obtain ⟨L, rfl, L0, L1⟩ : ∃ L : Int, x = .int L ∧ 0 < L ∧ L ≤ 10000 := by
    simp only [List.mem_cons, List.not_mem_nil, or_false] at hx
    rcases hx with rfl | rfl | rfl | rfl | rfl | rfl <;> exact ⟨_, rfl, by decide, by decide⟩
  refine ⟨B, p, L, rfl, L0, by omega, b1, fun H2 k b2 u2 k0 k1 => ?_⟩
  have u2 := u1.trans u2
  refine ⟨_, rfl, (by show 7 ≤ sizeLine; decide), fun a2 na2 => ⟨B, p, a2, _, rfl, upd_same, (b2.at na2).1, (by show 0 < 7; decide), (by show 7 ≤ 1000; decide), b2.put na2, fun H3 x b3 u3 hx => ?_⟩⟩
  have u3 : But B H H3 := u2.trans ((But.new na2).trans u3)
  obtain ⟨m, rfl, m1⟩ : ∃ m : Nat, x = .int (m : Nat) ∧ m ≤ 8 := by
    simp only [List.mem_cons, List.not_mem_nil, or_false] at hx
    rcases hx with rfl | rfl | rfl | rfl | rfl | rfl | rfl
    · exact ⟨0, rfl, by decide⟩
    · exact ⟨0, rfl, by decide⟩
    · exact ⟨0, rfl, by decide⟩
    · exact ⟨0, rfl, by decide⟩
    · exact ⟨1, rfl, by decide⟩
    · exact ⟨2, rfl, by decide⟩
    · exact ⟨8, rfl, by decide⟩
  refine ⟨(m : Nat), rfl, by omega, by omega, for_range (lo := 0) (n := ((m : Nat) : Int).toNat) (fun i σ H' => ∃ (n : Int) (v : Option V), σ = [some (.ref B), some (.int n), v] ∧ Bag H' B p ∧ But B H H' ∧ 0 ≤ n ∧ n < 2 ^ (14 + 24 * i)) ⟨k, _, rfl, b3, u3, k0, ?_⟩ ?_ ?_⟩
  · show k < 2 ^ 14
    omega
  · rintro i σ H' hi ⟨n, v, rfl, b', u', n0, n1⟩
    have hi8 : i < 8 := by rw [Int.toNat_natCast] at hi; omega
    have nn : n.natAbs < 2 ^ (14 + 24 * i) := by
      have z : ((2 : Int) ^ (14 + 24 * i)) = ((2 ^ (14 + 24 * i) : Nat) : Int) := by push_cast; rfl
      rw [z] at n1
      omega
    refine ⟨_, rfl, 10, 7, rfl, rfl, ⟨by decide, by decide, by decide⟩, n, _, rfl, rfl, wide_mul (b := 24) nn (by decide) (by omega) (by decide) (by omega), ?_⟩
    refine ⟨_, rfl, 10, 7, rfl, rfl, ⟨by decide, by decide, by decide⟩, B, p, 10000000, rfl, by decide, by decide, b', fun H4 d b4 u4 d0 d1 => ?_⟩
    refine ⟨_, _, rfl, rfl, n * 10 ^ Int.toNat 7 + d, _, rfl, b4, u'.trans u4, ?_, ?_⟩
    · have : 0 ≤ n * 10 ^ Int.toNat 7 := Int.mul_nonneg n0 (by decide)
      omega
    · have e : (2 : Int) ^ (14 + 24 * (i + 1)) = 2 ^ (14 + 24 * i) * 16777216 := by
        rw [show 14 + 24 * (i + 1) = 14 + 24 * i + 24 by omega, Int.pow_add]
        rfl
      rw [e, show (10 : Int) ^ Int.toNat 7 = 10000000 from rfl]
      generalize (2 : Int) ^ (14 + 24 * i) = z at n1
      omega
  · rintro σ H' ⟨n, v, rfl, b', u', n0, n1⟩
    have nn : n.natAbs < 2 ^ 240 := by
      have z : ((2 : Int) ^ (14 + 24 * ((m : Nat) : Int).toNat)) ≤ ((2 ^ 240 : Nat) : Int) := by
        rw [Int.toNat_natCast, show ((2 : Int) ^ (14 + 24 * m)) = ((2 ^ (14 + 24 * m) : Nat) : Int) by push_cast; rfl]
        exact Int.ofNat_le.mpr (Nat.pow_le_pow_right (by decide) (by omega))
      omega
    refine ⟨_, rfl, B, p, 2, rfl, by decide, by decide, b', fun H4 c b4 u4 c0 c1 => ?_⟩
    refine ⟨rfl, _, rfl, ite2 (fun _ => ?_) (fun _ => ?_)⟩
    · exact ⟨_, rfl, n, rfl, q H4 (-n) b4 (u'.trans u4) (by rw [Int.natAbs_neg]; exact nn)⟩
    · exact ⟨_, rfl, q H4 n b4 (u'.trans u4) nn⟩
end
end
end Kq
end
section
set_option maxHeartbeats 4000000
namespace Kq
open PySem PySem.Spec PyProof.Rows L2
section
variable {P : Program} {w : World} {K : PySem.W.Frag} {mg : Str → Option Value} {base : Heap} {f fD fO fL fB : Addr} {fd fdD fdO fdL fdB : FuncData}
section
variable (GD : FnOk P w K mg base CX0 1 fD fdD ["_law_bag_here", "_law_limit"] spDraw) (bD : Binds K fdD ["_law_bag_here", "_law_limit"] []) (kD : PySem.W.keepIn K (.ref fD) = true) (mD : mg "_law_draw" = some (.ref fD))
    (GO : FnOk P w K mg base CX0 2 fO fdO ["_law_bag_here", "_law_things"] spOfL) (bO : Binds K fdO ["_law_bag_here", "_law_things"] []) (kO : PySem.W.keepIn K (.ref fO) = true) (mO : mg "_law_of" = some (.ref fO))
    (GL : FnOk P w K mg base CX0 1 fL fdL ["_law_p", "_law_q"] spLow) (bL : Binds K fdL ["_law_p", "_law_q"] []) (kL : PySem.W.keepIn K (.ref fL) = true) (mL : mg "_law_low" = some (.ref fL))
include GD bD kD mD GO bO kO mO GL bL kL mL
theorem low_new {H H1 : Hp} {B p : Addr} {Q : VK} {a b : Int} {n : Nat} (h0 : 0 < n) (h9 : n ≤ 9000) (b1 : Bag H1 B p) (u1 : But B H H1) (hq : b ≠ 0) (ha : a.natAbs < 2 ^ n) (hb : b.natAbs < 2 ^ n) (q : ∀ H' v, Bag H' B p → But B H H' → FrN H H' n v → Q v H') :
    ∃ p q : Int, [V.int a, V.int b] = [.int p, .int q] ∧ q ≠ 0 ∧ q.natAbs.log2 < 9000 ∧ ∀ t, H1 t = none → Q (.ref t) (upd H1 t (.tup [.int (lowU p q), .int (lowL p q)])) := by
  obtain ⟨l1, l2, l3, l4⟩ := low_ok hq ha hb
  exact ⟨_, _, rfl, hq, Nat.lt_of_lt_of_le (log_bd hb h0) h9, fun t nt => q _ _ (b1.put nt) (u1.trans (But.new nt)) ⟨t, _, _, rfl, u1.free b1 nt, upd_same, l1, l2, l3, l4⟩⟩
theorem ok_num (F : Fun K "_law_number" "_law_number" (top 83) f fd) : FnOk P w K mg base CX0 3 f fd ["_law_bag_here"] spNum := by
  refine F.ok scNum (fun vs H Q E h => ?_) (fun cdv A outer s H vs Q E hr h => ?_)
  · obtain ⟨B, p, rfl, _⟩ := h
    rfl
  obtain ⟨B, p, rfl, hb, q⟩ := h
  have hr1 := hr.mono (show 1 ≤ 2 by decide)
  refine ⟨_, pss_cons (ps_set (i := 1) scNum.nd rfl (Or.inl rfl) (pe_call GD hr1 rfl mD kD bD .nil pass0 (pa_cons (pv 0) (pa_cons pe_int pa_nil))))
    (pss_cons (ps_if (pt_cmpR op_lt (pv 1) pe_int (nomark _)) (pss_one (ps_ret (pe_tup (pa_cons pe_int (pa_cons pe_int pa_nil))))) pss_nil)
    (pss_cons (ps_if (pt_cmpR op_lt (pv 1) pe_int (nomark _)) (pss_one (ps_ret (pe_tup (pa_cons pe_int (pa_cons pe_int pa_nil))))) pss_nil)
    (pss_cons (ps_set (i := 2) scNum.nd rfl (Or.inl rfl) (pe_op op_add pe_int (pe_call GD hr1 rfl mD kD bD .nil pass0 (pa_cons (pv 0) (pa_cons pe_int pa_nil)))))
    (C8.pss_cut (ps_if (pt_cmpR op_eq (pv 1) pe_int (nomark _)) (pss_one (ps_set (i := 2) scNum.nd rfl (Or.inl rfl) (pe_op op_add (pv 2) (pe_call GD hr1 rfl mD kD bD .nil pass0 (pa_cons (pv 0) (pa_cons (pe_call GO hr rfl mO kO bO .nil pass0 (pa_cons (pv 0) (pa_cons (pe_lst (pa_cons pe_int (pa_cons pe_int (pa_cons pe_int pa_nil)))) pa_nil))) pa_nil)))))) pss_nil)
    (C8.pss_cut (ps_if (pt_cmpR op_eq (pe_call GD hr1 rfl mD kD bD .nil pass0 (pa_cons (pv 0) (pa_cons pe_int pa_nil))) pe_int (nomark _)) (pss_one (ps_set (i := 2) scNum.nd rfl (Or.inl rfl) (pe_un un_neg (pv 2)))) pss_nil)
    (pss_one (ps_ret (pe_call GL hr1 rfl mL kL bL .nil pass0 (pa_cons (pv 2) (pa_cons (pe_call GO hr rfl mO kO bO .nil pass0 (pa_cons (pv 0) (pa_cons (pe_lst (pa_cons pe_int (pa_cons pe_int (pa_cons pe_int (pa_cons pe_int (pa_cons pe_int (pa_cons pe_int pa_nil))))))) pa_nil))) pa_nil)))))))))), ?_⟩
  refine ⟨_, rfl, B, p, 18, rfl, by decide, by decide, hb, fun H1 k b1 u1 k0 k1 => ?_⟩
  refine ⟨_, rfl, k, 6, rfl, rfl, _, rfl, ite2 (fun _ => ?_) (fun _ => ?_)⟩
  · exact ⟨(by show 2 ≤ sizeLine; decide), fun t nt => q _ _ (b1.put nt) (u1.trans (But.new nt)) ⟨t, 0, 1, rfl, u1.free b1 nt, upd_same, by decide, by decide, by decide, by decide⟩⟩
  refine ⟨_, rfl, k, 8, rfl, rfl, _, rfl, ite2 (fun _ => ?_) (fun _ => ?_)⟩
  · exact ⟨(by show 2 ≤ sizeLine; decide), fun t nt => q _ _ (b1.put nt) (u1.trans (But.new nt)) ⟨t, 1, 1, rfl, u1.free b1 nt, upd_same, by decide, by decide, by decide, by decide⟩⟩
  refine ⟨_, rfl, B, p, 9, rfl, by decide, by decide, b1, fun H2 d b2 u2 d0 d1 => ⟨1, d, rfl, rfl, ?_⟩⟩
  have u2 := u1.trans u2
  refine ⟨fun σ' H' => ∃ n : Int, σ' = [some (.ref B), some (.int k), some (.int n)] ∧ Bag H' B p ∧ But B H H' ∧ 0 ≤ n ∧ n < 1100000, ?_, ?_⟩
  · refine ⟨_, rfl, rfl, _, rfl, ite2 (fun _ => ?_) (fun _ => ⟨_, rfl, b2, u2, by omega, by omega⟩)⟩
    refine ⟨_, rfl, _, rfl, _, rfl, (by show 3 ≤ sizeLine; decide), fun a na => ⟨B, p, a, _, rfl, upd_same, (b2.at na).1, (by show 0 < 3; decide), (by show 3 ≤ 1000; decide), b2.put na, fun H3 x b3 u3 hx => ?_⟩⟩
    have u3 : But B H H3 := u2.trans ((But.new na).trans u3)
    obtain ⟨L, rfl, L0, L1⟩ : ∃ L : Int, x = .int L ∧ 0 < L ∧ L ≤ 1000000 := by
      simp only [List.mem_cons, List.not_mem_nil, or_false] at hx
      rcases hx with rfl | rfl | rfl <;> exact ⟨_, rfl, by decide, by decide⟩
    exact ⟨B, p, L, rfl, L0, by omega, b3, fun H4 e b4 u4 e0 e1 => ⟨_, _, rfl, rfl, _, rfl, b4, u3.trans u4, by omega, by omega⟩⟩
  rintro σ' H3 ⟨n, rfl, b3, u3, n0, n1⟩
  refine ⟨fun σ' H' => ∃ n : Int, σ' = [some (.ref B), some (.int k), some (.int n)] ∧ Bag H' B p ∧ But B H H' ∧ n.natAbs < 1100000, ?_, ?_⟩
  · refine ⟨_, rfl, B, p, 2, rfl, by decide, by decide, b3, fun H4 c b4 u4 c0 c1 => ⟨rfl, _, rfl, ite2 (fun _ => ?_) (fun _ => ⟨_, rfl, b4, u3.trans u4, by omega⟩)⟩⟩
    exact ⟨_, rfl, _, rfl, _, rfl, b4, u3.trans u4, by omega⟩
  rintro σ' H4 ⟨n, rfl, b4, u4, nn⟩
  refine ⟨_, rfl, _, rfl, (by show 6 ≤ sizeLine; decide), fun a na => ⟨B, p, a, _, rfl, upd_same, (b4.at na).1, (by show 0 < 6; decide), (by show 6 ≤ 1000; decide), b4.put na, fun H5 x b5 u5 hx => ?_⟩⟩
  have u5 : But B H H5 := u4.trans ((But.new na).trans u5)
  obtain ⟨L, rfl, L0, L1⟩ : ∃ L : Int, x = .int L ∧ 0 < L ∧ L ≤ 3 := by
    simp only [List.mem_cons, List.not_mem_nil, or_false] at hx
    rcases hx with rfl | rfl | rfl | rfl | rfl | rfl <;> exact ⟨_, rfl, by decide, by decide⟩
  exact low_new GD bD kD mD GO bO kO mO GL bL kL mL (by decide) (by decide) b5 u5 (by omega) (show n.natAbs < 2 ^ 40 by omega) (by omega) q
theorem ok_wide (F : Fun K "_law_wide" "_law_wide" (top 85) f fd) (GB : FnOk P w K mg base CX0 3 fB fdB ["_law_bag_here"] spBig) (bB : Binds K fdB ["_law_bag_here"] []) (kB : PySem.W.keepIn K (.ref fB) = true) (mB : mg "_law_big" = some (.ref fB)) :
    FnOk P w K mg base CX0 4 f fd ["_law_bag_here"] spWide := by
  refine F.ok scWide (fun vs H Q E h => ?_) (fun cdv A outer s H vs Q E hr h => ?_)
  · obtain ⟨B, p, rfl, _⟩ := h
    rfl
  obtain ⟨B, p, rfl, hb, q⟩ := h
  have hr1 := hr.mono (show 1 ≤ 3 by decide)
  refine ⟨_, pss_cons (ps_set (i := 1) scWide.nd rfl (Or.inl rfl) (pe_call GB hr rfl mB kB bB .nil pass0 (pa_cons (pv 0) pa_nil)))
    (C8.pss_cut (ps_set (i := 2) scWide.nd rfl (Or.inl rfl) (pe_ifExp (pt_cmpR op_gt (pe_call GD hr1 rfl mD kD bD .nil pass0 (pa_cons (pv 0) (pa_cons pe_int pa_nil))) pe_int (nomark _)) (pe_call GB hr rfl mB kB bB .nil pass0 (pa_cons (pv 0) pa_nil)) pe_int))
    (pss_one (ps_ret (pe_call GL hr1 rfl mL kL bL .nil pass0 (pa_cons (pv 1) (pa_cons (pe_ifExp (pt_cmpR op_ne (pv 2) pe_int (nomark _)) (pv 2) pe_int) pa_nil)))))), ?_⟩
  refine ⟨_, rfl, B, p, rfl, hb, fun H1 n b1 u1 hn => ?_⟩
  refine ⟨fun σ' H' => ∃ m : Int, σ' = [some (.ref B), some (.int n), some (.int m)] ∧ Bag H' B p ∧ But B H H' ∧ m.natAbs < 2 ^ 240, ?_, ?_⟩
  · refine ⟨_, rfl, B, p, 3, rfl, by decide, by decide, b1, fun H2 c b2 u2 c0 c1 => ⟨c, 0, rfl, rfl, _, rfl, ite2 (fun _ => ?_) (fun _ => ⟨_, rfl, b2, u1.trans u2, by decide⟩)⟩⟩
    exact ⟨_, rfl, B, p, rfl, b2, fun H3 m b3 u3 hm => ⟨_, rfl, b3, u1.trans (u2.trans u3), hm⟩⟩
  rintro σ' H2 ⟨m, rfl, b2, u2, hm⟩
  refine ⟨_, rfl, _, rfl, rfl, _, rfl, ite2 (fun c => ?_) (fun _ => ?_)⟩
  · have m0 : m ≠ 0 := fun e => by
      rw [e] at c
      exact absurd c (by decide)
    exact ⟨_, rfl, low_new GD bD kD mD GO bO kO mO GL bL kL mL (by decide) (by decide) b2 u2 m0 hn hm q⟩
  · exact low_new GD bD kD mD GO bO kO mO GL bL kL mL (by decide) (by decide) b2 u2 (by decide) hn (by decide) q
end
end
end Kq
end
section
set_option maxHeartbeats 4000000
namespace Kq
open PySem PySem.Spec PyProof.Rows L2 RZ
def Tw (G1 G2 : Addr → Prop) : Nat → Hp → V → V → Prop
  | 0, _, v, u => u = v ∧ flatV v = true
  | n + 1, H, v, u => (u = v ∧ flatV v = true) ∨ ∃ (a b : Addr) (xs ys : List V), v = .ref a ∧ u = .ref b ∧ xs.length ≤ 60 ∧ G1 a ∧ G2 b ∧ Paired (Tw G1 G2 n H) xs ys ∧
      ((H a = some (.lst xs) ∧ H b = some (.lst ys)) ∨ (H a = some (.tup xs) ∧ H b = some (.tup ys)))
theorem Tw.mono {G1 G2 F1 F2 : Addr → Prop} {H H' : Hp} (k1 : ∀ a o, G1 a → H a = some o → F1 a ∧ H' a = some o) (k2 : ∀ a o, G2 a → H a = some o → F2 a ∧ H' a = some o) : ∀ {n : Nat} {v u : V}, Tw G1 G2 n H v u → Tw F1 F2 n H' v u
  | 0, _, _, h => h
  | n + 1, v, u, h => by
    rcases h with h | ⟨a, b, xs, ys, e1, e2, l, n1, n2, p, q⟩
    · exact .inl h
    · rcases q with ⟨q1, q2⟩ | ⟨q1, q2⟩
      · exact .inr ⟨a, b, xs, ys, e1, e2, l, (k1 _ _ n1 q1).1, (k2 _ _ n2 q2).1, L2.Paired.mapP p fun _ _ z => Tw.mono k1 k2 z, .inl ⟨(k1 _ _ n1 q1).2, (k2 _ _ n2 q2).2⟩⟩
      · exact .inr ⟨a, b, xs, ys, e1, e2, l, (k1 _ _ n1 q1).1, (k2 _ _ n2 q2).1, L2.Paired.mapP p fun _ _ z => Tw.mono k1 k2 z, .inr ⟨(k1 _ _ n1 q1).2, (k2 _ _ n2 q2).2⟩⟩
theorem Tw.flat {G1 G2 : Addr → Prop} {H : Hp} {v : V} (h : flatV v = true) : ∀ {n : Nat}, Tw G1 G2 n H v v
  | 0 => ⟨rfl, h⟩
  | _ + 1 => .inl ⟨rfl, h⟩
theorem Tw.succ {G1 G2 : Addr → Prop} {H : Hp} : ∀ {n : Nat} {v u : V}, Tw G1 G2 n H v u → Tw G1 G2 (n + 1) H v u
  | 0, _, _, h => .inl h
  | n + 1, _, _, h => by
    rcases h with h | ⟨a, b, xs, ys, e1, e2, l, n1, n2, p, q⟩
    · exact .inl h
    · exact .inr ⟨a, b, xs, ys, e1, e2, l, n1, n2, L2.Paired.mapP p fun _ _ z => Tw.succ z, q⟩
def Trk (H : Hp) (a : Addr) : Prop := ∃ o, H a = some o
def New (H : Hp) (a : Addr) : Prop := H a = none
/-- what stands in H -/
theorem Tw.trk {G1 G2 : Addr → Prop} {H : Hp} {n : Nat} {v u : V} (h : Tw G1 G2 n H v u) : Tw (Trk H) (Trk H) n H v u := Tw.mono (fun a o _ e => ⟨⟨o, e⟩, e⟩) (fun a o _ e => ⟨⟨o, e⟩, e⟩) h
theorem Paired.snoc {α β : Type} {R : α → β → Prop} : ∀ {xs : List α} {ys : List β} {x : α} {y : β}, Paired R xs ys → R x y → Paired R (xs ++ [x]) (ys ++ [y])
  | _, _, _, _, .nil, h => .cons h .nil
  | _, _, _, _, .cons r t, h => .cons r (Paired.snoc t h)
theorem yesT {σ : L2.St} {H : Hp} {t e : Hp → Prop} (h : t H) : tYes σ H (fun b H3 => if b = true then t H3 else e H3) := by
  show (if true = true then t H else e H)
  rw [if_pos rfl]
  exact h
theorem rel_ty (n : String) : RelV (.ty n) (.type n) := rfl
theorem walk_zipT {K : PySem.W.Frag} {a b : Addr} {xs ys : List V} {n : Nat} (hn : n = min xs.length ys.length) : Walk (ItzT K a b) n (fun H => SqT K H a xs ∧ SqT K H b ys) (YPair (fun i => xs[i]?) (fun i => ys[i]?)) := by
  subst hn
  refine ⟨fun i H hi q => ⟨xs, ys, xs[i]'(by omega), ys[i]'(by omega), q.1, q.2, by simp [show i < xs.length by omega], by simp [show i < ys.length by omega]⟩, fun H q => ⟨xs, ys, q.1, q.2, by omega⟩, fun i H v H' hi q y => ?_⟩
  obtain ⟨T, x, z, h1, h2, h3, h4, h5⟩ := y
  exact ⟨T, x, z, h1, h2, h3, h4 xs q.1, h5 ys q.2⟩
def spLike (n : Nat) : Sp := fun vs H Q _ => ∃ (v u : V) (G1 G2 : Addr → Prop), vs = [v, u] ∧ Tw G1 G2 n H v u ∧ ∀ H', Same H H' → Q (.bl true) H'
def spCopied (n : Nat) : Sp := fun vs H Q _ => ∃ (v : V) (G : Addr → Prop), vs = [v] ∧ Tw G G n H v v ∧ ∀ H' u, Same H H' → Tw G (New H) n H' v u → Q u H'
/-- a flat value's type -/
def tyS : V → String
  | .non => "NoneType"
  | .bl _ => "bool"
  | .int _ => "int"
  | _ => "str"
theorem ty_flat {K : PySem.W.Frag} {H : Hp} {v : V} (h : flatV v = true) : TyX K H v (.type (tyS v)) := by
  cases v with
  | non => exact .base .non
  | bl b => exact .base (.bl b)
  | int i => exact .base (.int i)
  | str x => exact .base (.str x)
  | _ => cases h
theorem tyS_in : ∀ {v : V}, flatV v = true → tyS v ∈ ["NoneType", "bool", "int", "str"]
  | .non, _ => by simp [tyS]
  | .bl _, _ => by simp [tyS]
  | .int _, _ => by simp [tyS]
  | .str _, _ => by simp [tyS]
  | .byt _, h => by cases h
  | .flt _, h => by cases h
  | .ref _, h => by cases h
  | .ty _, h => by cases h
theorem Pr_get {α β : Type} {F : α → β → Prop} : ∀ {l1 : List α} {l2 : List β} {i : Nat} {x : α}, Paired F l1 l2 → l1[i]? = some x → ∃ y, l2[i]? = some y ∧ F x y
  | _, _, _, _, .nil, h => by simp at h
  | _, _, 0, x, .cons (b := b) r _, h => ⟨b, rfl, by
    have e := Option.some.inj (show some _ = some x from by simpa using h)
    rw [← e]
    exact r⟩
  | _, _, i + 1, x, .cons _ t, h => by
    obtain ⟨y, h1, h2⟩ := Pr_get (i := i) (x := x) t (by simpa using h)
    exact ⟨y, by simpa using h1, h2⟩
theorem kb_seq : ∀ s ∈ ["NoneType", "bool", "int", "str"], kitB s "list" = some false ∧ kitB s "tuple" = some false := by decide +kernel
theorem kb_flat : ∀ s ∈ ["NoneType", "bool", "int", "str"], (kitB s "bool").isSome ∧ (kitB s "str").isSome ∧ (kitB s "int").isSome := by decide +kernel
theorem kb_l : kitB "list" "list" = some true ∧ kitB "list" "tuple" = some false ∧ kitB "tuple" "list" = some false ∧ kitB "tuple" "tuple" = some true := by decide +kernel
theorem kit2 {K : PySem.W.Frag} {s : String} {a b r : Bool} (h1 : kitB s "list" = some a) (h2 : kitB s "tuple" = some b) (hr : r = (a || b)) : PySem.W.kitAny K (.type s) [.type "list", .type "tuple"] = some r := by
  subst hr
  refine kitAny_cons (kit_ty h1) (fun ha => ?_) (fun ha => by rw [ha]; rfl)
  subst ha
  refine kitAny_cons (kit_ty h2) (fun hb => by rw [hb]; exact kitAny_nil) (fun hb => by rw [hb]; rfl)
/-- a seq's type -/
inductive Sq2 (H : Hp) (a : Addr) (xs : List V) : String → Prop where
  | lst (h : H a = some (.lst xs)) : Sq2 H a xs "list"
  | tup (h : H a = some (.tup xs)) : Sq2 H a xs "tuple"
abbrev nLike : List Str := ["_law_told", "_law_due", "_law_a", "_law_b"]
abbrev nCop : List Str := ["_law_thing_here", "_law_part"]
end Kq
end
section
set_option maxHeartbeats 4000000
namespace Kq
open PySem PySem.Spec PyProof.Rows L2 RZ
section
variable {P : Program} {w : World} {K : PySem.W.Frag} {mg : Str → Option Value} {base : Heap} {f : Addr} {fd : FuncData}
theorem scLike : FnScope nLike ["_law_told", "_law_due"] (defScope (top 78)) := ⟨rfl, rfl, rfl, by decide +kernel, rfl, by decide +kernel, by decide +kernel⟩
theorem ok_like {n : Nat} (F : Fun K "_law_like" "_law_like" (top 78) f fd) (bL : Binds K fd ["_law_told", "_law_due"] []) (mL : mg "_law_like" = some (.ref f)) (G : ∀ n', n = n' + 1 → FnOk P w K mg base CX0 n f fd ["_law_told", "_law_due"] (spLike n'))
    (mI : mg "isinstance" = none) (ml : mg "list" = none) (mt : mg "tuple" = none) (mb : mg "bool" = none) (ms : mg "str" = none) (mi : mg "int" = none) (mn : mg "len" = none) (mz : mg "zip" = none) (ma : mg "all" = none) :
    FnOk P w K mg base CX0 (n + 1) f fd ["_law_told", "_law_due"] (spLike n) := by
  refine F.ok scLike (fun vs H Q E h => ?_) (fun cdv A outer s H vs Q E hr h => ?_)
  · obtain ⟨v, u, G1, G2, rfl, _⟩ := h
    rfl
  obtain ⟨v, u, G1, G2, rfl, tv, q⟩ := h
  have flat : flatV v = true → u = v → ∃ t, PSs (cxOf CX0 P w K mg base nLike "_law_like" (defScope (top 78)) f cdv A outer s H E).nox (defBody (top 78)) t ∧ t { nx := fun _ H' => Q .non H', rt := Q } (L2.start nLike [v, u]) H := fun hv hu => by
    subst hu
    obtain ⟨k1, k2⟩ := kb_seq _ (tyS_in hv)
    obtain ⟨k3, k4, k5⟩ := kb_flat _ (tyS_in hv)
    obtain ⟨x3, k3⟩ := Option.isSome_iff_exists.mp k3
    obtain ⟨x4, k4⟩ := Option.isSome_iff_exists.mp k4
    obtain ⟨x5, k5⟩ := Option.isSome_iff_exists.mp k5
    refine ⟨_, pss_cons (ps_if (pt_val (pe_callB call_isiT rfl mI (by decide +kernel) (pa_cons (pv 1) (pa_cons (pe_tup (pa_cons (pe_bltn rfl ml boot_list (rel_ty _)) (pa_cons (pe_bltn rfl mt boot_tuple (rel_ty _)) pa_nil))) pa_nil)))) (pss_cons ps_never (pss_one ps_never)) pss_nil)
      (pss_cons (ps_if (PW.pt (pw_or (pt_cmpR op_isN (pv 1) pe_non (nomark _)) (pw_or1 (pt_cmpR op_isN (pv 0) pe_non (nomark _))))) (pss_one (ps_ret (pe_and (pe_cmpR op_isN (pv 1) pe_non (nomark _)) (pe_one (pe_cmpR op_isN (pv 0) pe_non (nomark _)))))) pss_nil)
      (pss_cons (ps_if (PW.pt (pw_or (pt_val (pe_callB call_isiT rfl mI (by decide +kernel) (pa_cons (pv 0) (pa_cons (pe_tup (pa_cons (pe_bltn rfl ml boot_list (rel_ty _)) (pa_cons (pe_bltn rfl mt boot_tuple (rel_ty _)) pa_nil))) pa_nil))))
          (pw_or1 (pt_cmpR op_ne (pe_callB call_isi rfl mI (by decide +kernel) (pa_cons (pv 0) (pa_cons (pe_bltn rfl mb boot_bool (rel_ty _)) pa_nil))) (pe_callB call_isi rfl mI (by decide +kernel) (pa_cons (pv 1) (pa_cons (pe_bltn rfl mb boot_bool (rel_ty _)) pa_nil))) (nomark _))))) (pss_one ps_never) pss_nil)
      (pss_cons (ps_if (PW.pt (pw_or (pt_cmpR op_ne (pe_callB call_isi rfl mI (by decide +kernel) (pa_cons (pv 0) (pa_cons (pe_bltn rfl ms boot_str (rel_ty _)) pa_nil))) (pe_callB call_isi rfl mI (by decide +kernel) (pa_cons (pv 1) (pa_cons (pe_bltn rfl ms boot_str (rel_ty _)) pa_nil))) (nomark _))
          (pw_or1 (pt_cmpR op_ne (pe_callB call_isi rfl mI (by decide +kernel) (pa_cons (pv 0) (pa_cons (pe_bltn rfl mi boot_int (rel_ty _)) pa_nil))) (pe_callB call_isi rfl mI (by decide +kernel) (pa_cons (pv 1) (pa_cons (pe_bltn rfl mi boot_int (rel_ty _)) pa_nil))) (nomark _))))) (pss_one ps_never) pss_nil)
      (pss_one (ps_ret (pe_cmpR op_eq (pv 0) (pv 1) (nomark _))))))), ?_⟩
    refine ⟨_, rfl, (by show 2 ≤ sizeLine; decide), fun p np => ?_⟩
    have g1 := new_same np (.tup [.ty "list", .ty "tuple"])
    refine ⟨u, p, _, .type (tyS u), _, false, rfl, upd_same, .cons (.ty _) (.cons (.ty _) .nil), ty_flat hv, kit2 k1 k2 rfl, _, rfl, iteF ?_⟩
    generalize upd H p (.tup [.ty "list", .ty "tuple"]) = H1 at g1
    by_cases e : u = .non
    · subst e
      refine ⟨_, rfl, rfl, _, rfl, iteT ?_⟩
      refine iteT ⟨_, rfl, rfl, _, rfl, iteT ⟨_, rfl, rfl, q H1 g1⟩⟩
    · refine ⟨_, rfl, rfl, _, rfl, ?_⟩
      rw [decide_eq_false e]
      refine iteF ⟨_, rfl, rfl, _, rfl, ?_⟩
      rw [decide_eq_false e]
      refine iteF ?_
      refine ⟨_, rfl, (by show 2 ≤ sizeLine; decide), fun p2 np2 => ?_⟩
      have g2 := g1.trans (new_same np2 (.tup [.ty "list", .ty "tuple"]))
      refine ⟨u, p2, _, .type (tyS u), _, false, rfl, upd_same, .cons (.ty _) (.cons (.ty _) .nil), ty_flat hv, kit2 k1 k2 rfl, _, rfl, iteF ?_⟩
      generalize upd H1 p2 (.tup [.ty "list", .ty "tuple"]) = H2 at g2
      refine ⟨_, rfl, u, _, _, _, x3, rfl, .ty _, ty_flat hv, kit_ty k3, _, rfl, u, _, _, _, x3, rfl, .ty _, ty_flat hv, kit_ty k3, rfl, _, rfl, ?_⟩
      refine iteNS rfl ?_
      refine ⟨_, rfl, u, _, _, _, x4, rfl, .ty _, ty_flat hv, kit_ty k4, _, rfl, u, _, _, _, x4, rfl, .ty _, ty_flat hv, kit_ty k4, rfl, _, rfl, ?_⟩
      refine iteNS rfl ?_
      refine ⟨_, rfl, u, _, _, _, x5, rfl, .ty _, ty_flat hv, kit_ty k5, _, rfl, u, _, _, _, x5, rfl, .ty _, ty_flat hv, kit_ty k5, rfl, _, rfl, ?_⟩
      refine iteNS rfl ?_
      have hs : scal u u = true := by
        cases u <;> first | rfl | cases hv
      refine ⟨_, rfl, _, rfl, hs, ?_⟩
      rw [decide_eq_true rfl]
      exact q H2 g2
  cases n with
  | zero => exact flat (by rw [← tv.1]; exact (by rw [tv.1]; exact tv.2)) tv.1
  | succ n =>
    rcases tv with ⟨hu, hv⟩ | ⟨a, b, xs, ys, rfl, rfl, l, n1, n2, pr, hh⟩
    · exact flat hv hu
    have GL := G n rfl
    have le : xs.length = ys.length := pr.length
    have el : ∀ (i : Nat) (y z : V), xs[i]? = some y → ys[i]? = some z → ∀ H', Same H H' → Tw G1 G2 n H' y z := fun i y z hy hz H' g => by
      obtain ⟨z', h1, h2⟩ := Pr_get pr hy
      rw [hz] at h1
      rw [← Option.some.inj h1] at h2
      exact Tw.mono (fun c o h e => ⟨h, g _ _ e⟩) (fun c o h e => ⟨h, g _ _ e⟩) h2
    rcases hh with ⟨h1, h2⟩ | ⟨h1, h2⟩
    · refine ⟨_, pss_cons (ps_if (pt_val (pe_callB call_isiT rfl mI (by decide +kernel) (pa_cons (pv 1) (pa_cons (pe_tup (pa_cons (pe_bltn rfl ml boot_list (rel_ty _)) (pa_cons (pe_bltn rfl mt boot_tuple (rel_ty _)) pa_nil))) pa_nil))))
          (pss_cons (ps_if (PW.pt (pw_or (pt_cmpR op_ne (pe_callB call_isi rfl mI (by decide +kernel) (pa_cons (pv 0) (pa_cons (pe_bltn rfl ml boot_list (rel_ty _)) pa_nil))) (pe_callB call_isi rfl mI (by decide +kernel) (pa_cons (pv 1) (pa_cons (pe_bltn rfl ml boot_list (rel_ty _)) pa_nil))) (nomark _)) (pw_or1 (pt_cmpR op_ne (pe_callB call_isi rfl mI (by decide +kernel) (pa_cons (pv 0) (pa_cons (pe_bltn rfl mt boot_tuple (rel_ty _)) pa_nil))) (pe_callB call_isi rfl mI (by decide +kernel) (pa_cons (pv 1) (pa_cons (pe_bltn rfl mt boot_tuple (rel_ty _)) pa_nil))) (nomark _))))) (pss_one ps_never) pss_nil)
          (pss_one (ps_ret (pe_and (pe_cmpR op_eq (pe_callB call_len_seq rfl mn PySem.boot_len (pa_cons (pv 0) pa_nil)) (pe_callB call_len_seq rfl mn PySem.boot_len (pa_cons (pv 1) pa_nil)) (nomark _))
            (pe_one (pe_callB (cr_all rfl) rfl ma (by decide +kernel) (pa_cons (pe_lc (own := [("_law_a", 2), ("_law_b", 3)]) (g := gTup K 2 (gCons (gName 2) (gCons (gName 3) gNil))) (tt := tYes) rfl scLike.nd (pi_zipA rfl mz (pa_cons (pv 0) (pa_cons (pv 1) pa_nil))) (blkOk_by (N := nLike) (sc := defScope (top 78)) (by decide +kernel))
              (fun _ _ _ _ _ => pg_tup rfl (pgs_cons (pg_name (i := 2) scLike.nd rfl (Or.inl rfl)) (pgs_cons (pg_name (i := 3) scLike.nd rfl (Or.inl rfl)) pgs_nil))) (fun _ _ _ _ _ => pts_nil) (fun _ _ _ _ _ => pe_call GL hr rfl mL F.kp bL .nil pass0 (pa_cons (pv 2) (pa_cons (pv 3) pa_nil)))) pa_nil))))))) pss_nil)
        (pss_cons ps_never (pss_cons ps_never (pss_cons ps_never (pss_one ps_never)))), ?_⟩
      refine ⟨_, rfl, (by show 2 ≤ sizeLine; decide), fun p np => ?_⟩
      have g1 := new_same np (.tup [.ty "list", .ty "tuple"])
      refine ⟨.ref b, p, _, .type "list", _, true, rfl, upd_same, .cons (.ty _) (.cons (.ty _) .nil), .base (.lst (g1 _ _ h2)), kit2 kb_l.1 kb_l.2.1 rfl, _, rfl, ?_⟩
      refine iteT ?_
      generalize upd H p (.tup [.ty "list", .ty "tuple"]) = H1 at g1
      have ta : TyX K H1 (.ref a) (.type "list") := .base (.lst (g1 _ _ h1))
      have tb : TyX K H1 (.ref b) (.type "list") := .base (.lst (g1 _ _ h2))
      refine ⟨_, rfl, .ref a, _, _, _, _, rfl, .ty _, ta, kit_ty kb_l.1, _, rfl, .ref b, _, _, _, _, rfl, .ty _, tb, kit_ty kb_l.1, rfl, _, rfl, iteNS rfl ?_⟩
      refine ⟨_, rfl, .ref a, _, _, _, _, rfl, .ty _, ta, kit_ty kb_l.2.1, _, rfl, .ref b, _, _, _, _, rfl, .ty _, tb, kit_ty kb_l.2.1, rfl, _, rfl, iteNS rfl ?_⟩
      refine ⟨_, rfl, a, xs, rfl, .inl (SqL.of (g1 _ _ h1)), _, rfl, b, ys, rfl, .inl (SqL.of (g1 _ _ h2)), rfl, _, rfl, ?_⟩
      rw [decide_eq_true (show V.int (xs.length : Nat) = V.int (ys.length : Nat) by rw [le])]
      refine iteT ⟨_, rfl, _, rfl, a, b, xs, ys, rfl, .inl ⟨SqL.of (g1 _ _ h1), SqL.of (g1 _ _ h2), fun D nD => ?_⟩⟩
      refine lc_it (walk_zip (K := K) (a := a) (b := b) (xs := xs) (ys := ys) (n := xs.length) (by omega)) (fun i H' => Same H1 H' ∧ H' D = some (.lst ((List.replicate i true).map V.bl))) ⟨new_same nD _, upd_same⟩ (fun i H' _ h => ⟨SqL.of (h.1 _ _ (g1 _ _ h1)), SqL.of (h.1 _ _ (g1 _ _ h2))⟩) ?_ ?_
      · rintro i x H' H5 hi ⟨g, hD⟩ ⟨T, y, z, rfl, hT, rfl, hy, hz⟩
        refine ⟨T, [y, z], rfl, SqT.of upd_same, rfl, y, [z], rfl, z, [], rfl, rfl, ?_⟩
        refine ⟨rfl, ?_⟩
        refine yesT ?_
        have g5 : Same H1 (upd H' T (.tup [y, z])) := g.trans (new_same hT _)
        have tyz := el i y z hy hz _ (g1.trans g5)
        refine ⟨_, rfl, _, rfl, y, z, _, _, rfl, tyz, fun H6 g6 => ⟨(List.replicate i true).map V.bl, ?_, ?_, ?_, ?_⟩⟩
        · refine g6 _ _ ?_
          rw [upd_ne (ne_of_none hD hT)]
          exact hD
        · rw [List.length_map, List.length_replicate]
          exact small1000 (by omega)
        · exact fun c o h => by rw [upd_ne (ne_of_none h nD)]; exact g6 _ _ (g5 _ _ h)
        · rw [upd_same, List.replicate_succ', List.map_append]
          rfl
      · rintro H' ⟨g, hD⟩
        refine ⟨D, List.replicate xs.length true, rfl, SqL.of hD, ?_⟩
        have e : (List.replicate xs.length true).all id = true := by simp
        rw [e]
        exact q H' (g1.trans g)
    · refine ⟨_, pss_cons (ps_if (pt_val (pe_callB call_isiT rfl mI (by decide +kernel) (pa_cons (pv 1) (pa_cons (pe_tup (pa_cons (pe_bltn rfl ml boot_list (rel_ty _)) (pa_cons (pe_bltn rfl mt boot_tuple (rel_ty _)) pa_nil))) pa_nil))))
          (pss_cons (ps_if (PW.pt (pw_or (pt_cmpR op_ne (pe_callB call_isi rfl mI (by decide +kernel) (pa_cons (pv 0) (pa_cons (pe_bltn rfl ml boot_list (rel_ty _)) pa_nil))) (pe_callB call_isi rfl mI (by decide +kernel) (pa_cons (pv 1) (pa_cons (pe_bltn rfl ml boot_list (rel_ty _)) pa_nil))) (nomark _)) (pw_or1 (pt_cmpR op_ne (pe_callB call_isi rfl mI (by decide +kernel) (pa_cons (pv 0) (pa_cons (pe_bltn rfl mt boot_tuple (rel_ty _)) pa_nil))) (pe_callB call_isi rfl mI (by decide +kernel) (pa_cons (pv 1) (pa_cons (pe_bltn rfl mt boot_tuple (rel_ty _)) pa_nil))) (nomark _))))) (pss_one ps_never) pss_nil)
          (pss_one (ps_ret (pe_and (pe_cmpR op_eq (pe_callB call_len_seq rfl mn PySem.boot_len (pa_cons (pv 0) pa_nil)) (pe_callB call_len_seq rfl mn PySem.boot_len (pa_cons (pv 1) pa_nil)) (nomark _))
            (pe_one (pe_callB (cr_all rfl) rfl ma (by decide +kernel) (pa_cons (pe_lc (own := [("_law_a", 2), ("_law_b", 3)]) (g := gTup K 2 (gCons (gName 2) (gCons (gName 3) gNil))) (tt := tYes) rfl scLike.nd (pi_zipA rfl mz (pa_cons (pv 0) (pa_cons (pv 1) pa_nil))) (blkOk_by (N := nLike) (sc := defScope (top 78)) (by decide +kernel))
              (fun _ _ _ _ _ => pg_tup rfl (pgs_cons (pg_name (i := 2) scLike.nd rfl (Or.inl rfl)) (pgs_cons (pg_name (i := 3) scLike.nd rfl (Or.inl rfl)) pgs_nil))) (fun _ _ _ _ _ => pts_nil) (fun _ _ _ _ _ => pe_call GL hr rfl mL F.kp bL .nil pass0 (pa_cons (pv 2) (pa_cons (pv 3) pa_nil)))) pa_nil))))))) pss_nil)
        (pss_cons ps_never (pss_cons ps_never (pss_cons ps_never (pss_one ps_never)))), ?_⟩
      refine ⟨_, rfl, (by show 2 ≤ sizeLine; decide), fun p np => ?_⟩
      have g1 := new_same np (.tup [.ty "list", .ty "tuple"])
      refine ⟨.ref b, p, _, .type "tuple", _, true, rfl, upd_same, .cons (.ty _) (.cons (.ty _) .nil), .base (.tup (g1 _ _ h2)), kit2 kb_l.2.2.1 kb_l.2.2.2 rfl, _, rfl, ?_⟩
      refine iteT ?_
      generalize upd H p (.tup [.ty "list", .ty "tuple"]) = H1 at g1
      have ta : TyX K H1 (.ref a) (.type "tuple") := .base (.tup (g1 _ _ h1))
      have tb : TyX K H1 (.ref b) (.type "tuple") := .base (.tup (g1 _ _ h2))
      refine ⟨_, rfl, .ref a, _, _, _, _, rfl, .ty _, ta, kit_ty kb_l.2.2.1, _, rfl, .ref b, _, _, _, _, rfl, .ty _, tb, kit_ty kb_l.2.2.1, rfl, _, rfl, iteNS rfl ?_⟩
      refine ⟨_, rfl, .ref a, _, _, _, _, rfl, .ty _, ta, kit_ty kb_l.2.2.2, _, rfl, .ref b, _, _, _, _, rfl, .ty _, tb, kit_ty kb_l.2.2.2, rfl, _, rfl, iteNS rfl ?_⟩
      refine ⟨_, rfl, a, xs, rfl, .inr (SqT.of (g1 _ _ h1)), _, rfl, b, ys, rfl, .inr (SqT.of (g1 _ _ h2)), rfl, _, rfl, ?_⟩
      rw [decide_eq_true (show V.int (xs.length : Nat) = V.int (ys.length : Nat) by rw [le])]
      refine iteT ⟨_, rfl, _, rfl, a, b, xs, ys, rfl, .inr ⟨SqT.of (g1 _ _ h1), SqT.of (g1 _ _ h2), fun D nD => ?_⟩⟩
      refine lc_it (walk_zipT (K := K) (a := a) (b := b) (xs := xs) (ys := ys) (n := xs.length) (by omega)) (fun i H' => Same H1 H' ∧ H' D = some (.lst ((List.replicate i true).map V.bl))) ⟨new_same nD _, upd_same⟩ (fun i H' _ h => ⟨SqT.of (h.1 _ _ (g1 _ _ h1)), SqT.of (h.1 _ _ (g1 _ _ h2))⟩) ?_ ?_
      · rintro i x H' H5 hi ⟨g, hD⟩ ⟨T, y, z, rfl, hT, rfl, hy, hz⟩
        refine ⟨T, [y, z], rfl, SqT.of upd_same, rfl, y, [z], rfl, z, [], rfl, rfl, ?_⟩
        refine ⟨rfl, ?_⟩
        refine yesT ?_
        have g5 : Same H1 (upd H' T (.tup [y, z])) := g.trans (new_same hT _)
        have tyz := el i y z hy hz _ (g1.trans g5)
        refine ⟨_, rfl, _, rfl, y, z, _, _, rfl, tyz, fun H6 g6 => ⟨(List.replicate i true).map V.bl, ?_, ?_, ?_, ?_⟩⟩
        · refine g6 _ _ ?_
          rw [upd_ne (ne_of_none hD hT)]
          exact hD
        · rw [List.length_map, List.length_replicate]
          exact small1000 (by omega)
        · exact fun c o h => by rw [upd_ne (ne_of_none h nD)]; exact g6 _ _ (g5 _ _ h)
        · rw [upd_same, List.replicate_succ', List.map_append]
          rfl
      · rintro H' ⟨g, hD⟩
        refine ⟨D, List.replicate xs.length true, rfl, SqL.of hD, ?_⟩
        have e : (List.replicate xs.length true).all id = true := by simp
        rw [e]
        exact q H' (g1.trans g)
end
end Kq
end
section
set_option maxHeartbeats 4000000
namespace Kq
open PySem PySem.Spec PyProof.Rows L2
theorem pow_bd {x : Int} {n : Nat} (h : x.natAbs < 2 ^ n) : ∀ i : Nat, (x ^ i).natAbs < 2 ^ (n * i + 1)
  | 0 => by simp
  | i + 1 => by
    have z := wide_lt (pow_bd h i) h
    rw [Int.pow_succ, show n * (i + 1) + 1 = n * i + 1 + n by rw [Nat.mul_succ]; omega]
    exact z
def spRaised : Sp := fun vs H Q _ => ∃ (b : Int) (n : Nat), vs = [.int b, .int (n : Nat)] ∧ n ≤ 64 ∧ b.natAbs < 2 ^ 1000 ∧ Q (.int (b ^ n)) H
abbrev nRai : List Str := ["base", "n", "found", "_"]
def spLR : Sp := fun vs H Q _ => ∃ (x : V) (a b : Int) (n : Nat), vs = [x, .int (n : Nat)] ∧ n ≤ 64 ∧ Fr H 1000 x a b ∧ Gives H Q (a ^ n) (b ^ n)
abbrev nLR : List Str := ["_law_a", "_law_k", "_law_p", "_law_q", "_law_j"]
section
variable {P : Program} {w : World} {K : PySem.W.Frag} {mg : Str → Option Value} {base : Heap} {f : Addr} {fd : FuncData}
theorem scRai : FnScope nRai ["base", "n"] (defScope (top 28)) := ⟨rfl, rfl, rfl, by decide +kernel, rfl, by decide +kernel, by decide +kernel⟩
theorem ok_raised (F : Fun K "raised" "raised" (top 28) f fd) (mr : mg "range" = none) : FnOk P w K mg base CX0 1 f fd ["base", "n"] spRaised := by
  refine F.ok scRai (fun vs H Q E h => ?_) (fun cdv A outer s H vs Q E hr h => ?_)
  · obtain ⟨b, n, rfl, _⟩ := h
    rfl
  obtain ⟨b, n, rfl, hn, hb, q⟩ := h
  refine ⟨_, pss_cons (ps_set (i := 2) scRai.nd rfl (Or.inl rfl) pe_int)
    (pss_cons (ps_for PassesOwn.never rfl (pi_range1 rfl mr (pa_cons (pv 1) pa_nil)) (pg_name (i := 3) scRai.nd rfl (Or.inl rfl)) (pss_one (ps_set (i := 2) scRai.nd rfl (Or.inl rfl) (pe_op op_mulW (pv 2) (pv 0)))))
    (pss_one (ps_ret (pv 2)))), ?_⟩
  refine ⟨_, rfl, (n : Nat), rfl, by omega, by omega, for_range (lo := 0) (n := ((n : Nat) : Int).toNat) (fun i σ H' => H' = H ∧ ∃ v : Option V, σ = [some (.int b), some (.int (n : Nat)), some (.int (b ^ i)), v]) ⟨rfl, none, by rw [Int.pow_zero]; rfl⟩ ?_ ?_⟩
  · rintro i σ H' hi ⟨rfl, v, rfl⟩
    have hi2 : i < 64 := by rw [Int.toNat_natCast] at hi; omega
    refine ⟨_, rfl, _, rfl, _, _, rfl, rfl, wide_mul (pow_bd hb i) hb (by omega) (by decide) (by omega), rfl, some (.int (0 + (i : Nat))), ?_⟩
    rw [Int.pow_succ]
    rfl
  · rintro σ H' ⟨rfl, v, rfl⟩
    exact ⟨_, rfl, q⟩
theorem scLR : FnScope nLR ["_law_a", "_law_k"] (defScope (top 87)) := ⟨rfl, rfl, rfl, by decide +kernel, rfl, by decide +kernel, by decide +kernel⟩
theorem ok_lraised (F : Fun K "_law_raised" "_law_raised" (top 87) f fd) (mr : mg "range" = none) : FnOk P w K mg base CX0 1 f fd ["_law_a", "_law_k"] spLR := by
  refine F.ok scLR (fun vs H Q E h => ?_) (fun cdv A outer s H vs Q E hr h => ?_)
  · obtain ⟨x, a, b, n, rfl, _⟩ := h
    rfl
  obtain ⟨x, a, b, n, rfl, hn, ⟨xa, rfl, hx, ha, hb, _⟩, q⟩ := h
  have sx := SqT.of (K := K) hx
  refine ⟨_, pss_cons (ps_asg (pe_tup (pa_cons pe_int (pa_cons pe_int pa_nil))) (pg_tup rfl (pgs_cons (pg_name (i := 2) scLR.nd rfl (Or.inl rfl)) (pgs_cons (pg_name (i := 3) scLR.nd rfl (Or.inl rfl)) pgs_nil))))
    (pss_cons (ps_for PassesOwn.never rfl (pi_range1 rfl mr (pa_cons (pv 1) pa_nil)) (pg_name (i := 4) scLR.nd rfl (Or.inl rfl))
      (pss_one (ps_par (i := 2) (j := 3) rfl scLR.nd rfl rfl (by decide) rfl rfl (pa_cons (pe_op op_mulW (pv 2) (pe_ix ix_tup (pv 0) pe_int (fun _ _ => rfl))) (pa_cons (pe_op op_mulW (pv 3) (pe_ix ix_tup (pv 0) pe_int (fun _ _ => rfl))) pa_nil)) rfl)))
    (pss_one (ps_ret (pe_tup (pa_cons (pv 2) (pa_cons (pv 3) pa_nil)))))), ?_⟩
  refine ⟨(by show 2 ≤ sizeLine; decide), fun t0 n0 => ⟨t0, _, rfl, SqT.of upd_same, rfl, _, _, rfl, _, _, rfl, rfl, ?_⟩⟩
  have s0 := new_same n0 (.tup [.int 1, .int 1])
  generalize upd H t0 (.tup [.int 1, .int 1]) = H0 at s0
  have sx := SqT.of (K := K) (s0 _ _ hx)
  refine ⟨_, rfl, (n : Nat), rfl, by omega, by omega, for_range (lo := 0) (n := ((n : Nat) : Int).toNat) (fun i σ H' => H' = H0 ∧ ∃ v : Option V, σ = [some (.ref xa), some (.int (n : Nat)), some (.int (a ^ i)), some (.int (b ^ i)), v]) ⟨rfl, none, by rw [Int.pow_zero, Int.pow_zero]; rfl⟩ ?_ ?_⟩
  · rintro i σ H' hi ⟨rfl, v, rfl⟩
    have hi2 : i < 64 := by rw [Int.toNat_natCast] at hi; omega
    refine ⟨_, rfl, _, rfl, xa, _, 0, _, rfl, rfl, sx, rfl, _, _, rfl, rfl, wide_mul (pow_bd ha i) ha (by omega) (by decide) (by omega),
      _, rfl, _, rfl, xa, _, 1, _, rfl, rfl, sx, rfl, _, _, rfl, rfl, wide_mul (pow_bd hb i) hb (by omega) (by decide) (by omega), _, _, rfl, rfl, some (.int (0 + (i : Nat))), ?_⟩
    rw [Int.pow_succ, Int.pow_succ]
    rfl
  · rintro σ H' ⟨rfl, v, rfl⟩
    exact ⟨_, rfl, _, rfl, (by show 2 ≤ sizeLine; decide), fun t nt => q t _ (s0.trans (new_same nt _)) (s0.free nt) upd_same⟩
end
end Kq
end
section
set_option maxHeartbeats 4000000
namespace Kq
open PySem PySem.Spec PyProof.Rows L2 RZ
def WhV (K : PySem.W.Frag) (H : Hp) (v : V) (b : Bool) : Prop := ∀ H', Same H H' → ∃ (T : Value) (x y : Bool), TyX K H' v T ∧ PySem.W.kitOne K T (.type "int") = some x ∧ PySem.W.kitOne K T (.type "bool") = some y ∧ b = (x && !y)
def spWhole (K : PySem.W.Frag) : Sp := fun vs H Q _ => ∃ (v : V) (b : Bool), vs = [v] ∧ WhV K H v b ∧ Q (.bl b) H
/-- is v a fraction: r -/
def IsF (K : PySem.W.Frag) (H : Hp) (v : V) (r : Bool) : Prop :=
  (∃ T, TyX K H v T ∧ PySem.W.kitOne K T (.type "tuple") = some false ∧ r = false) ∨
  (∃ a xs, v = .ref a ∧ H a = some (.tup xs) ∧ xs.length ≠ 2 ∧ r = false) ∨
  (∃ a x y b1 b2, v = .ref a ∧ H a = some (.tup [x, y]) ∧ WhV K H x b1 ∧ WhV K H y b2 ∧ (((b1 && b2) = false ∧ r = false) ∨ ∃ u l : Int, b1 = true ∧ b2 = true ∧ x = .int u ∧ y = .int l ∧ r = (decide (1 ≤ l) && decide (Nat.gcd u.natAbs l.natAbs = 1))))
def spIsF (K : PySem.W.Frag) : Sp := fun vs H Q _ => ∃ (v : V) (r : Bool), vs = [v] ∧ IsF K H v r ∧ Q (.bl r) H
theorem kb_int : kitB "int" "int" = some true ∧ kitB "int" "bool" = some false := by decide +kernel
theorem wh_int {K : PySem.W.Frag} {H : Hp} (i : Int) : WhV K H (.int i) true := fun _ _ => ⟨.type "int", true, false, .base (.int i), kit_ty kb_int.1, kit_ty kb_int.2, rfl⟩
abbrev nIF : List Str := ["value", "upper", "lower"]
section
variable {P : Program} {w : World} {K : PySem.W.Frag} {mg : Str → Option Value} {base : Heap} {f fW : Addr} {fd fdW : FuncData}
theorem scWh : FnScope ["value"] ["value"] (defScope (top 19)) := ⟨rfl, rfl, rfl, by decide +kernel, rfl, by decide +kernel, by decide +kernel⟩
theorem ok_whole (F : Fun K "is_whole" "is_whole" (top 19) f fd) (mI : mg "isinstance" = none) (mi : mg "int" = none) (mb : mg "bool" = none) : FnOk P w K mg base CX0 1 f fd ["value"] (spWhole K) := by
  refine F.ok scWh (fun vs H Q E h => ?_) (fun cdv A outer s H vs Q E hr h => ?_)
  · obtain ⟨v, b, rfl, _⟩ := h
    rfl
  obtain ⟨v, b, rfl, hw, q⟩ := h
  obtain ⟨T, x, y, ty, k1, k2, rfl⟩ := hw H (Same.refl H)
  refine ⟨_, pss_one (ps_ret (pe_and (pe_callB call_isi rfl mI (by decide +kernel) (pa_cons (pv 0) (pa_cons (pe_bltn rfl mi boot_int (rel_ty _)) pa_nil))) (pe_one (pe_not (pe_callB call_isi rfl mI (by decide +kernel) (pa_cons (pv 0) (pa_cons (pe_bltn rfl mb boot_bool (rel_ty _)) pa_nil))))))), ?_⟩
  refine ⟨_, rfl, v, _, T, _, x, rfl, .ty _, ty, k1, _, rfl, ?_⟩
  cases x with
  | false => exact iteF q
  | true => exact iteT ⟨_, rfl, v, _, T, _, y, rfl, .ty _, ty, k2, _, rfl, q⟩
theorem scIF : FnScope nIF ["value"] (defScope (top 21)) := ⟨rfl, rfl, rfl, by decide +kernel, rfl, by decide +kernel, by decide +kernel⟩
theorem ok_isf (F : Fun K "is_fraction" "is_fraction" (top 21) f fd) (mI : mg "isinstance" = none) (mt : mg "tuple" = none) (mn : mg "len" = none) (mG : mg "gcd" = some (.builtin "math.gcd"))
    (GW : FnOk P w K mg base CX0 1 fW fdW ["value"] (spWhole K)) (bW : Binds K fdW ["value"] []) (kW : PySem.W.keepIn K (.ref fW) = true) (mW : mg "is_whole" = some (.ref fW)) : FnOk P w K mg base CX0 2 f fd ["value"] (spIsF K) := by
  refine F.ok scIF (fun vs H Q E h => ?_) (fun cdv A outer s H vs Q E hr h => ?_)
  · obtain ⟨v, r, rfl, _⟩ := h
    rfl
  obtain ⟨v, r, rfl, hf, q⟩ := h
  refine ⟨_, pss_cons (ps_if (PW.pt (pw_or (pt_not (pt_val (pe_callB call_isi rfl mI (by decide +kernel) (pa_cons (pv 0) (pa_cons (pe_bltn rfl mt boot_tuple (rel_ty _)) pa_nil))))) (pw_or1 (pt_cmpR op_ne (pe_callB call_len_seq rfl mn PySem.boot_len (pa_cons (pv 0) pa_nil)) pe_int (nomark _))))) (pss_one (ps_ret pe_bl)) pss_nil)
    (pss_cons (ps_asg (pv 0) (pg_tup rfl (pgs_cons (pg_name (i := 1) scIF.nd rfl (Or.inl rfl)) (pgs_cons (pg_name (i := 2) scIF.nd rfl (Or.inl rfl)) pgs_nil))))
    (pss_cons (ps_if (PW.pt (pw_or (pt_not (pt_val (pe_call GW hr rfl mW kW bW .nil pass0 (pa_cons (pv 1) pa_nil)))) (pw_or1 (pt_not (pt_val (pe_call GW hr rfl mW kW bW .nil pass0 (pa_cons (pv 2) pa_nil))))))) (pss_one (ps_ret pe_bl)) pss_nil)
    (pss_one (ps_ret (pe_and (pe_cmpR op_ge (pv 2) pe_int (nomark _)) (pe_one (pe_cmpR op_eq (pe_callBfun cr_gcd rfl mG (pa_cons (pv 1) (pa_cons (pv 2) pa_nil))) pe_int (nomark _)))))))), ?_⟩
  have tup : ∀ {a xs}, H a = some (.tup xs) → TyX K H (.ref a) (.type "tuple") ∧ PySem.W.kitOne K (.type "tuple") (.type "tuple") = some true := fun h => ⟨.base (.tup h), kit_ty kb_l.2.2.2⟩
  rcases hf with ⟨T, ty, k, rfl⟩ | ⟨a, xs, rfl, ha, hl, rfl⟩ | ⟨a, x, y, b1, b2, rfl, ha, hx, hy, hh⟩
  · exact ⟨_, rfl, v, _, T, _, false, rfl, .ty _, ty, k, _, rfl, iteT q⟩
  · refine ⟨_, rfl, _, _, _, _, true, rfl, .ty _, (tup ha).1, (tup ha).2, _, rfl, iteF ?_⟩
    refine ⟨_, rfl, a, xs, rfl, .inr (SqT.of ha), rfl, _, rfl, ?_⟩
    rw [decide_eq_false (fun e => hl (by have := V.int.inj e; omega))]
    exact iteT q
  · refine ⟨_, rfl, _, _, _, _, true, rfl, .ty _, (tup ha).1, (tup ha).2, _, rfl, iteF ?_⟩
    refine ⟨_, rfl, a, _, rfl, .inr (SqT.of ha), rfl, _, rfl, iteF ?_⟩
    refine ⟨_, rfl, a, _, rfl, SqT.of ha, rfl, _, _, rfl, _, _, rfl, rfl, ?_⟩
    rcases hh with ⟨hb, rfl⟩ | ⟨u, l, rfl, rfl, rfl, rfl, rfl⟩
    · cases b1 with
      | false => exact ⟨_, rfl, x, false, rfl, hx, _, rfl, iteT q⟩
      | true =>
        obtain rfl : b2 = false := hb
        exact ⟨_, rfl, x, true, rfl, hx, _, rfl, iteF ⟨_, rfl, y, false, rfl, hy, _, rfl, iteT q⟩⟩
    · refine ⟨_, rfl, _, true, rfl, wh_int u, _, rfl, iteF ⟨_, rfl, _, true, rfl, wh_int l, _, rfl, iteF ?_⟩⟩
      refine ⟨_, rfl, l, 1, rfl, rfl, _, rfl, ?_⟩
      by_cases c : (1 : Int) ≤ l
      · rw [decide_eq_true c] at q ⊢
        refine iteT ⟨_, rfl, _, rfl, u, l, rfl, rfl, ?_⟩
        have e : (decide (V.int ((Nat.gcd u.natAbs l.natAbs : Nat) : Int) = V.int 1)) = (true && decide (Nat.gcd u.natAbs l.natAbs = 1)) := by
          rw [Bool.true_and]
          exact decide_eq_decide.mpr ⟨fun h => by have := V.int.inj h; omega, fun h => by rw [h]; rfl⟩
        rw [← e] at q
        exact q
      · rw [decide_eq_false c] at q ⊢
        exact iteF q
end
end Kq
end
section
set_option maxHeartbeats 4000000
namespace Kq
open PySem PySem.Spec PyProof.Rows L2 RZ
theorem isi_at {X : Cx} (K : PySem.W.Frag) (h : X.K = K) : CallR X (.builtin "isinstance") (rIsi K) := by
  subst h
  exact call_isi
theorem WhV.same {K : PySem.W.Frag} {H H' : Hp} {v : V} {b : Bool} (h : WhV K H v b) (s : Same H H') : WhV K H' v b := fun H2 s2 => h H2 (s.trans s2)
theorem low_fix {u l : Int} (hl : 1 ≤ l) : (decide (lowU u l = u) && decide (lowL u l = l)) = decide (Nat.gcd u.natAbs l.natAbs = 1) := by
  have l0 : l ≠ 0 := by omega
  by_cases g : Nat.gcd u.natAbs l.natAbs = 1
  · have e : gS u l = 1 := by
      unfold gS
      rw [if_neg (by omega), g]
      rfl
    have e1 : lowU u l = u := by unfold lowU; rw [e]; simp
    have e2 : lowL u l = l := by unfold lowL; rw [e]; simp
    rw [e1, e2, decide_eq_true g]
    simp
  · rw [decide_eq_false g]
    have o := low_ok (p := u) (n := max (u.natAbs) (l.natAbs) + 1) l0 (Nat.lt_of_le_of_lt (by omega) (Nat.lt_two_pow_self)) (Nat.lt_of_le_of_lt (by omega) (Nat.lt_two_pow_self))
    rw [Bool.and_eq_false_iff]
    by_cases e1 : lowU u l = u
    · by_cases e2 : lowL u l = l
      · rw [e1, e2] at o
        exact absurd o.2.2.2 g
      · exact .inr (decide_eq_false e2)
    · exact .inl (decide_eq_false e1)
def spIs (K : PySem.W.Frag) : Sp := fun vs H Q _ => ∃ (v : V) (r : Bool), vs = [v] ∧ IsF K H v r ∧ (∀ a (u l : Int), v = .ref a → H a = some (.tup [.int u, .int l]) → l.natAbs.log2 < 9000) ∧ ∀ H', Same H H' → Q (.bl r) H'
abbrev nIs : List Str := ["_law_thing", "_law_part"]
section
variable {P : Program} {w : World} {K : PySem.W.Frag} {mg : Str → Option Value} {base : Heap} {f fL : Addr} {fd fdL : FuncData}
theorem scIs : FnScope nIs ["_law_thing"] (defScope (top 86)) := ⟨rfl, rfl, rfl, by decide +kernel, rfl, by decide +kernel, by decide +kernel⟩
theorem ok_is (F : Fun K "_law_is" "_law_is" (top 86) f fd) (mI : mg "isinstance" = none) (mt : mg "tuple" = none) (mn : mg "len" = none) (mi : mg "int" = none) (mb : mg "bool" = none) (ma : mg "all" = none)
    (G : FnOk P w K mg base CX0 1 fL fdL ["_law_p", "_law_q"] spLow) (bL : Binds K fdL ["_law_p", "_law_q"] []) (kL : PySem.W.keepIn K (.ref fL) = true) (mL : mg "_law_low" = some (.ref fL)) : FnOk P w K mg base CX0 2 f fd ["_law_thing"] (spIs K) := by
  refine F.ok scIs (fun vs H Q E h => ?_) (fun cdv A outer s H vs Q E hr h => ?_)
  · obtain ⟨v, r, rfl, _⟩ := h
    rfl
  obtain ⟨v, r, rfl, hf, hl, q⟩ := h
  refine ⟨_, pss_cons (ps_if (PW.pt (pw_or (pt_not (pt_val (pe_callB call_isi rfl mI (by decide +kernel) (pa_cons (pv 0) (pa_cons (pe_bltn rfl mt boot_tuple (rel_ty _)) pa_nil))))) (pw_or1 (pt_cmpR op_ne (pe_callB call_len_seq rfl mn PySem.boot_len (pa_cons (pv 0) pa_nil)) pe_int (nomark _))))) (pss_one (ps_ret pe_bl)) pss_nil)
    (pss_cons (ps_if (pt_not (pt_val (pe_callB (cr_all rfl) rfl ma (by decide +kernel) (pa_cons (pe_lc (own := [("_law_part", 1)]) (g := gName 1) (tt := tYes) rfl scIs.nd (pi_tup (pv 0)) (blkOk_by (N := nIs) (sc := defScope (top 86)) (by decide +kernel)) (fun _ _ _ _ _ => pg_name (i := 1) scIs.nd rfl (Or.inl rfl)) (fun _ _ _ _ _ => pts_nil)
        (fun _ _ _ _ _ => pe_and (pe_callB (isi_at K rfl) rfl mI (by decide +kernel) (pa_cons (pv 1) (pa_cons (pe_bltn rfl mi boot_int (rel_ty _)) pa_nil))) (pe_one (pe_not (pe_callB (isi_at K rfl) rfl mI (by decide +kernel) (pa_cons (pv 1) (pa_cons (pe_bltn rfl mb boot_bool (rel_ty _)) pa_nil))))))) pa_nil)))) (pss_one (ps_ret pe_bl)) pss_nil)
    (pss_one (ps_ret (pe_and (pe_cmpR op_ge (pe_ix ix_tup (pv 0) pe_int (fun _ _ => rfl)) pe_int (nomark _)) (pe_one (pe_cmpR (op_eqD hr.units) (pe_call G hr rfl mL kL bL .nil pass0 (pa_cons (pe_ix ix_tup (pv 0) pe_int (fun _ _ => rfl)) (pa_cons (pe_ix ix_tup (pv 0) pe_int (fun _ _ => rfl)) pa_nil))) (pv 0) (nomark _))))))), ?_⟩
  have tup : ∀ {a xs}, H a = some (.tup xs) → TyX K H (.ref a) (.type "tuple") ∧ PySem.W.kitOne K (.type "tuple") (.type "tuple") = some true := fun h => ⟨.base (.tup h), kit_ty kb_l.2.2.2⟩
  rcases hf with ⟨T, ty, k, rfl⟩ | ⟨a, xs, rfl, ha, hl, rfl⟩ | ⟨a, x, y, b1, b2, rfl, ha, hx, hy, hh⟩
  · exact ⟨_, rfl, v, _, T, _, false, rfl, .ty _, ty, k, _, rfl, iteT (q H (Same.refl H))⟩
  · refine ⟨_, rfl, _, _, _, _, true, rfl, .ty _, (tup ha).1, (tup ha).2, _, rfl, iteF ?_⟩
    refine ⟨_, rfl, a, xs, rfl, .inr (SqT.of ha), rfl, _, rfl, ?_⟩
    rw [decide_eq_false (fun e => hl (by have := V.int.inj e; omega))]
    exact iteT (q H (Same.refl H))
  refine ⟨_, rfl, _, _, _, _, true, rfl, .ty _, (tup ha).1, (tup ha).2, _, rfl, iteF ?_⟩
  refine ⟨_, rfl, a, _, rfl, .inr (SqT.of ha), rfl, _, rfl, iteF ?_⟩
  refine ⟨_, rfl, a, rfl, ⟨_, SqT.of ha⟩, fun D nD => ?_⟩
  refine lc_tup (K := K) (a := a) (xs := [x, y]) (fun i H' => Same H H' ∧ H' D = some (.lst (([b1, b2].take i).map V.bl))) ⟨new_same nD _, upd_same⟩ (fun i H' _ h => SqT.of (h.1 _ _ ha)) ?_ ?_
  · rintro i z H' hz ⟨g, hD⟩
    obtain ⟨b, hb, hw⟩ : ∃ b, [b1, b2][i]? = some b ∧ WhV K H z b := by
      match i, hz with
      | 0, hz => exact ⟨b1, rfl, by rw [← Option.some.inj hz]; exact hx⟩
      | 1, hz => exact ⟨b2, rfl, by rw [← Option.some.inj hz]; exact hy⟩
      | _ + 2, hz => cases hz
    obtain ⟨T, x1, y1, ty, k1, k2, rfl⟩ := hw H' g
    refine ⟨rfl, ?_⟩
    refine yesT ?_
    refine ⟨_, rfl, z, _, T, _, x1, rfl, .ty _, ty, k1, _, rfl, ?_⟩
    have fin : ∀ c : Bool, c = (x1 && !y1) → ∃ acc, H' D = some (.lst acc) ∧ acc.length < sizeLine ∧ Same H (upd H' D (.lst (acc ++ [V.bl c]))) ∧ (upd H' D (.lst (acc ++ [V.bl c]))) D = some (.lst (([b1, b2].take (i + 1)).map V.bl)) := by
      rintro c rfl
      refine ⟨_, hD, small1000 ?_, fun e o h => by rw [upd_ne (ne_of_none h nD)]; exact g _ _ h, ?_⟩
      · rw [List.length_map, List.length_take]
        show min _ 2 ≤ 1000
        omega
      · rw [upd_same, List.take_add_one, hb, List.map_append]
        rfl
    cases x1 with
    | false => exact iteF (fin false rfl)
    | true => exact iteT ⟨_, rfl, z, _, T, _, y1, rfl, .ty _, ty, k2, _, rfl, fin _ (by rw [Bool.true_and])⟩
  rintro H' ⟨g, hD⟩
  refine ⟨D, [b1, b2], rfl, SqL.of hD, _, rfl, ?_⟩
  rcases hh with ⟨hb, rfl⟩ | ⟨u, l, rfl, rfl, rfl, rfl, rfl⟩
  · rw [show ([b1, b2].all id) = false by simpa using hb]
    exact iteT (q H' g)
  have sa := SqT.of (K := K) (g _ _ ha)
  refine iteF ⟨_, rfl, a, _, 1, _, rfl, rfl, sa, rfl, l, 1, rfl, rfl, _, rfl, ?_⟩
  by_cases c : (1 : Int) ≤ l
  · rw [decide_eq_true c] at q ⊢
    refine iteT ⟨_, rfl, a, _, 0, _, rfl, rfl, sa, rfl, _, rfl, a, _, 1, _, rfl, rfl, sa, rfl, u, l, rfl, by omega, hl a u l rfl ha, fun t nt => ⟨_, rfl, ?_⟩⟩
    have g2 := new_same nt (.tup [.int (lowU u l), .int (lowL u l)])
    refine ⟨.tuple [.int (lowU u l), .int (lowL u l)], .tuple [.int u, .int l], .tup (SqT.of upd_same) (.cons (.int _) (.cons (.int _) .nil)), .tup (SqT.of (g2 _ _ (g _ _ ha))) (.cons (.int _) (.cons (.int _) .nil)), rfl, rfl, ?_⟩
    have e : PyData.eqv (.tuple [.int (lowU u l), .int (lowL u l)]) (.tuple [.int u, .int l]) = (true && decide (Nat.gcd u.natAbs l.natAbs = 1)) := by
      rw [Bool.true_and, ← low_fix c]
      simp only [PyData.eqv, PyData.eqvAll, Bool.and_true]
      rw [Bool.beq_eq_decide_eq, Bool.beq_eq_decide_eq]
    rw [e]
    exact q _ (g.trans g2)
  · rw [decide_eq_false c] at q ⊢
    exact iteF (q H' g)
end
end Kq
end
section
set_option maxHeartbeats 4000000
namespace PySem
namespace Xv
open PySem.W PySem.Calls PyProof.Rows PySem.HandSPX
section
variable {prog : Program} {w : World} {A : Around} {E : Value → Shared → Prop} {R : Result → Shared → Prop} {h : Heap} {g : Array GenState} {d : Drawn} {t : Nat} {os : OsState}
variable {nm q : Str} {C N : Addr} {bs bm mb : List Value} {hdct : Bool} {sn : List Str} {sub : List Value} {ab : Bool} {col : Option Bool} {dd : Option Addr} {k0 k1 k2 k3 k5 : Option Value} {B newId initId : String}
variable {kw : List (Str × Value)} {rest : List Value}

theorem chkNew {M : Model} (F : ExcBaseFacts B newId initId mb) (hT : ∀ Z : String, bm.contains (.type Z) = mb.contains (.type Z)) {Q : Unit → Shared → Prop}
    (hC : h.get? C = some (excClassObj nm q C N bs bm hdct sn sub ab col dd k0 k1 k2 k3 k5 newId)) (z : Q () ⟨h, g, d, t, os⟩) :
    wpAny M A (checkBuiltinCall newId ⟨.ref C :: rest, kw⟩) Q E ⟨h, g, d, t, os⟩ := by
  have h1 : (Value.ref C :: bm).contains (.type B) = true := by rw [List.contains_cons, hT, F.hasB]; simp
  have h2 := F.noStar
  simp only [checkBuiltinCall, F.newKind, F.newSplit, F.newRow]
  repeat (first | refine wpAny_loadPart_at hC ?_ | (refine wpAny_isSubtype_exc hC ?_; rw [h1]) | refine wpAny_staticBase_exc hC ?_ | refine wpAny_madeBy_exc hC ?_ | simp only [bne_self_eq_false, Bool.false_eq_true, if_false] | wp_step)
  exact z
theorem newAt (F : ExcBaseFacts B newId initId mb) (hT : ∀ Z : String, bm.contains (.type Z) = mb.contains (.type Z))
    (hC : h.get? C = some (excClassObj nm q C N bs bm hdct sn sub ab col dd k0 k1 k2 k3 k5 newId)) (hl : rest.length ≤ sizeLine)
    (z : R (.ok (.ret (.ref (h.objs.size + 1)))) ⟨(h.push (W.kdv_tup rest)).push (excO C h.objs.size), g, d, t, os⟩) :
    codeAny (model prog w) A (.builtin newId ⟨.ref C :: rest, kw⟩) R ⟨h, g, d, t, os⟩ := by
  have e0 := F.ends
  have e1 : (Value.ref C :: bm).contains (.type B) = true := by rw [List.contains_cons, hT, F.hasB]; simp
  have e2 : (Value.ref C :: bm).contains (.type "AttributeError") = false := by rw [List.contains_cons, hT, F.noAttr]; exact rfl
  have e3 : (Value.ref C :: bm).contains (.type "NameError") = false := by rw [List.contains_cons, hT, F.noName]; exact rfl
  refine codeAny_builtinAt F.entry ?_
  unfold Builtin.«BaseException.__new__»
  refine wpAt_bind ?_
  show wpAt _ _ _ (stack >>= _) _ _ _
  refine wpAt_bind (wpAt_stack fun p below => wpAt_of_wpAny ?_)
  wp_walk
  refine wpAt_of_wpAny ?_
  rw [F.owner]
  repeat (first | (with_reducible refine wpAny_isSubtype_exc hC ?_; first | rw [e1] | rw [e2] | rw [e3]) | with_reducible refine wpAny_madeHere_exc F.canon hC ?_ | with_reducible refine wpAny_loadPart_at hC ?_ | wp_step)
  show R _ _
  rw [Heap.size_push]
  exact z
theorem callAt (F : ExcBaseFacts B newId initId mb) (hT : ∀ Z : String, bm.contains (.type Z) = mb.contains (.type Z)) {fI : Addr} {Q : Fin → Shared → Prop}
    (hC : h.get? C = some (excClassObj nm q C N bs bm hdct sn sub ab col dd k0 k1 k2 k3 k5 newId))
    (hi : W.Looks (model prog w) h (typeLookup (.ref C) "__init__") (some (.ref fI))) (hb : ∀ self, W.Looks (model prog w) h (bindSpecial (.ref fI) self) (.ref fI, [self])) (hl : rest.length ≤ sizeLine)
    (z : codeAny (model prog w) A (.call (.ref fI) ⟨.ref (h.objs.size + 1) :: rest, kw⟩)
      (fun r s' => match r with | .ok (.ret v) => v = .none ∧ Q (.done (.ret (.ref (h.objs.size + 1)))) s' | .ok _ => False | .error e => E e s')
      ⟨(h.push (W.kdv_tup rest)).push (excO C h.objs.size), g, d, t, os⟩) :
    wpAny (model prog w) A (Builtin.«type.__call__» ⟨.ref C :: rest, kw⟩) Q E ⟨h, g, d, t, os⟩ := by
  repeat (first | with_reducible refine wpAny_madeBy_exc hC ?_ | with_reducible refine wpAny_loadPart_at hC ?_ | wp_step)
  refine codeAny_call_builtin_code (Code.quiet_builtin _ F.quiet) (chkNew F hT hC (newAt F hT hC hl ?_))
  show wpAny _ _ _ _ _ _
  have k : ∀ b o, h.get? b = some o → ((h.push (W.kdv_tup rest)).push (excO C h.objs.size)).get? b = some o := fun b o y => Heap.get?_push_of_some _ (Heap.get?_push_of_some _ y)
  have hC' := k _ _ hC
  have hg : ((h.push (W.kdv_tup rest)).push (excO C h.objs.size)).get? (h.objs.size + 1) = some (excO C h.objs.size) := by heap_get
  have cc : (Value.ref C :: bm).contains (.ref C) = true := by simp
  have i1 := hi.keeps k
  have b1 := (hb (.ref (h.objs.size + 1))).keeps k
  unfold isInstance
  repeat (first | (with_reducible refine wpAny_isSubtype_exc hC' ?_; rw [cc]) | with_reducible refine wpAny_loadPart_at hg ?_ | wp_step)
  show wpAny _ _ (typeLookup (.ref C) _) _ _ _
  refine i1.at (wpAny_holding (wpAny_bind (b1.at ?_)))
  refine wpAny_bind (wpAny_call (codeAny_mono z fun r s' y => ?_))
  rcases r with e | (v | _ | _ | _) <;> first | exact y | exact y.elim | skip
  obtain ⟨rfl, y⟩ := y
  first
    | exact wpAny_pure (wpAny_pure y)
    | (wp_walk; exact y)
theorem chkCall {M : Model} {Q : Unit → Shared → Prop} (hC : h.get? C = some (excClassObj nm q C N bs bm hdct sn sub ab col dd k0 k1 k2 k3 k5 newId))
    (z : Q () ⟨h, g, d, t, os⟩) : wpAny M A (checkBuiltinCall "type.__call__" ⟨.ref C :: rest, kw⟩) Q E ⟨h, g, d, t, os⟩ := by
  have f3 := tc_sub
  have hty : (⟨h, g, d, t, os⟩ : Shared).TypeIs (.ref C) "type" := ⟨_, hC, rfl⟩
  simp only [checkBuiltinCall, tc_kind, tc_split]
  repeat (any_goals (first | assumption | with_reducible refine wpAny_onRaise ?_ | with_reducible refine wpAny_loadPart_at hC ?_ | with_reducible refine wpAny_map ?_ | wp_step))
/-- an own exception class with its own __init__ is called, with keywords or without -/
theorem callK (F : ExcBaseFacts B newId initId mb) (hT : ∀ Z : String, bm.contains (.type Z) = mb.contains (.type Z)) {fI : Addr}
    (hC : h.get? C = some (excClassObj nm q C N bs bm hdct sn sub ab col dd k0 k1 k2 k3 k5 newId))
    (hi : W.Looks (model prog w) h (typeLookup (.ref C) "__init__") (some (.ref fI))) (hb : ∀ self, W.Looks (model prog w) h (bindSpecial (.ref fI) self) (.ref fI, [self])) (hl : rest.length ≤ sizeLine)
    (z : codeAny (model prog w) (A.under (.builtin "type.__call__" ⟨.ref C :: rest, kw⟩)) (.call (.ref fI) ⟨.ref (h.objs.size + 1) :: rest, kw⟩) (W.InitBack (h.objs.size + 1) R)
      ⟨(h.push (W.kdv_tup rest)).push (excO C h.objs.size), g, d, t, os⟩) :
    codeAny (model prog w) A (.call (.ref C) ⟨rest, kw⟩) R ⟨h, g, d, t, os⟩ := by
  have f1 := tc_lookup
  have f2 := tc_bind (.ref C)
  have hty : (⟨h, g, d, t, os⟩ : Shared).TypeIs (.ref C) "type" := ⟨_, hC, rfl⟩
  refine codeAny_of_tree ?_
  show wpAny _ _ (callAny (.ref C) _) _ _ _
  repeat (any_goals (first | assumption | with_reducible refine wpAny_loadPart_at hC ?_ | wp_step))
  refine ⟨rfl, ?_⟩
  refine codeAny_call_builtin_at (Code.quiet_builtin _ (by decide +kernel)) entry_typeCall (chkCall hC (callAt F hT hC hi hb hl ?_))
  refine codeAny_mono z fun r s' y => ?_
  rcases r with e | (v | _ | _ | _) <;> exact y
end
end Xv
end PySem
end
section
set_option maxHeartbeats 4000000
namespace L2
open PySem PySem.Spec PyProof.Rows Builtin.ObjectAttr
/-- what the written part says of an own exception class at C, so that its objects may be made, filled, read and asked -/
structure XC (K : PySem.W.Frag) (C : Addr) : Prop where
  base : ∃ B newId initId mb, ExcBaseFacts B newId initId mb ∧ StoreFacts B mb "object.__setattr__" "object" ∧ PySem.W.excInitIn K C mb newId = true ∧ PySem.W.excOver K C mb = true
  cl : (PySem.W.clsIn K C).isSome = true
  hd : PySem.W.hasDictIn K C = true
  sa : PySem.W.findIn K (.ref C) "__setattr__" = some (some (.builtin "object.__setattr__"))
  ga : PySem.W.findIn K (.ref C) "__getattribute__" = some (some (.builtin "BaseException.__getattribute__"))
  gg : PySem.W.findIn K (.ref C) "__getattr__" = some none
  ex : PySem.W.subIn K (.ref C) (.type "BaseException") = some true
  ha : PySem.W.findIn K (.ref C) "__class__" = some (some (.builtin "object.__class__"))
  hn : PySem.W.specialIn K (.builtin "object.__class__") "__get__" = some (some (.builtin "getset_descriptor.__get__"))
  ht : PySem.W.takesIn K (.builtin "object.__class__") = some true
  hm : PySem.W.mroIn K C (.type "object") = some true
  kC : PySem.W.keepIn K (.ref C) = true
def free3 (H H' : Hp) (a d : Addr) : Prop := ∀ b, b ≠ a → b ≠ d → H' b = H b
section
variable {X : Cx} {pins : List (Addr × Obj)} {σ : St} {H : Hp} {s : Shared} {a C dx : Addr} {f : Str} {y : V} {u : Value} {fs : List (Str × V)} {Q : Unit → Shared → Prop} {E : Value → Shared → Prop} {A : Around}
theorem taker_none {K : PySem.W.Frag} (h : PySem.W.findIn K (.ref C) f = some none) : PySem.W.takerIn K C f = some none := by
  unfold PySem.W.takerIn
  rw [h]
  rfl
theorem xst_new (T : XC X.K C) (I : Inv X pins σ H s) (e : H a = some (exo a C none)) (hno : PySem.W.findIn X.K (.ref C) f = some none) (ry : RelV y u)
    (h : ∀ d s' H', d ≠ a → H d = none → H' a = some (exo a C (some d)) → H' d = some (exd d [(f, y)]) → free3 H H' a d → Inv X pins σ H' s' → Q () s') : wpAny (model X.prog X.w) A (setAttr (.ref a) f u) Q E s := by
  obtain ⟨B, nid, iid, mb, FB, SF, q1, q2⟩ := T.base
  obtain ⟨t1, ho⟩ := exo_at I.hok e
  obtain ⟨cd, hc, hd'⟩ := PySem.W.any_some T.hd
  obtain ⟨hp, g, dr, t, os⟩ := s
  refine PySem.W.set_plain I.kIn (od := none) ⟨ho, rfl, rfl, trivial⟩ T.sa (PySem.W.osa_openX (od := none) SF I.kIn ⟨ho, rfl, rfl, trivial⟩ q2 (taker_none hno) fun b => ?_)
  have na : a ≠ hp.objs.size := Nat.ne_of_lt (Heap.lt_size ho)
  refine wpAny_bind (wpAny_pure (wpAny_bind (PySem.W.instanceDict_exc (c2 := .none) (t := t1) ho (PySem.W.looks_clsIn I.kIn hc) hd' ?_)))
  have hfr : H hp.objs.size = none := I.hok.fresh (Nat.le_refl _)
  have hget : (hp.push (PySem.W.dictOf [] 0)).get? hp.objs.size = some (PySem.W.dictOf [] 0) := Heap.get?_push_size _ rfl
  have en : (hp.push (PySem.W.dictOf [] 0)).Ns1 hp.objs.size (fun _ => none) := Heap.Ns1.of_empty ⟨_, #[], _, hget, rfl, fun e he => absurd he (by simp), fun _ => rfl⟩
  have I1 : Inv X pins σ (upd H hp.objs.size (exd hp.objs.size [])) ⟨hp.push (PySem.W.dictOf [] 0), g, dr, t, os⟩ := I.laid (a := hp.objs.size) (o := exd hp.objs.size []) (h' := hp.push (PySem.W.dictOf [] 0)) (t' := t) (fun b o z => Heap.get?_push_of_some _ z) (Nat.le_refl _) (exd_ok en fun _ => True.intro)
  have hxa : ((hp.push (PySem.W.dictOf [] 0)).update a fun o => { o with dict := some hp.objs.size }).get? a = some ({ cls := .ref C, dict := some hp.objs.size, data := .fields #[.ref t1, .none, .none, .none, .bool false, .none] } : Obj) :=
    Heap.get?_update_self _ (Heap.get?_push_of_some _ ho) rfl
  have I2 : Inv X pins σ (upd (upd H hp.objs.size (exd hp.objs.size [])) a (exo a C (some hp.objs.size))) ⟨(hp.push (PySem.W.dictOf [] 0)).update a fun o => { o with dict := some hp.objs.size }, g, dr, t, os⟩ :=
    I1.write (x := a) (e := a) (o := exo a C (some hp.objs.size)) (t' := t) (h' := (hp.push (PySem.W.dictOf [] 0)).update a fun o => { o with dict := some hp.objs.size }) (by rw [upd_ne na, e]; exact True.intro) (.inl rfl)
      (fun b o hb z => (Heap.get?_update_ne _ _ _ _ hb).trans z) ⟨_, hxa⟩ (exo_ok hxa)
  have ed : (upd (upd H hp.objs.size (exd hp.objs.size [])) a (exo a C (some hp.objs.size))) hp.objs.size = some (exd hp.objs.size []) := by rw [upd_ne (Ne.symm na), upd_same]
  obtain ⟨mA, hns, rel⟩ := exd_at I2.hok ed
  show wpAny _ _ (storeInDict hp.objs.size (.str f _) f u) _ _ _
  refine PySem.OEX.store_in_old hns (within_of rel) (by simp) fun h' tk' hn' hs => ?_
  have I3 := I2.write (x := hp.objs.size) (e := hp.objs.size) (o := exd hp.objs.size [(f, y)]) (t' := tk') (h' := h') (by rw [ed]; exact True.intro) (.inl rfl) (fun b o hb z => (hs.2 b hb).trans z)
    (by obtain ⟨o, _, _, z, _⟩ := hn'; exact ⟨o, z⟩) (exd_ok hn' (relO_put ry rel))
  exact h hp.objs.size _ _ (Ne.symm na) hfr (by rw [upd_ne na, upd_same]) upd_same (fun b h1 h2 => by rw [upd_ne h2, upd_ne h1, upd_ne h2]) I3
theorem xst_old (T : XC X.K C) (I : Inv X pins σ H s) (e : H a = some (exo a C (some dx))) (ed : H dx = some (exd dx fs)) (hl : fs.length ≤ 900) (hno : PySem.W.findIn X.K (.ref C) f = some none) (ry : RelV y u)
    (h : ∀ s', Inv X pins σ (upd H dx (exd dx ((f, y) :: fs))) s' → Q () s') : wpAny (model X.prog X.w) A (setAttr (.ref a) f u) Q E s := by
  obtain ⟨B, nid, iid, mb, FB, SF, q1, q2⟩ := T.base
  obtain ⟨t1, ho⟩ := exo_at I.hok e
  obtain ⟨mA, hns, rel⟩ := exd_at I.hok ed
  have hw := within_of rel
  obtain ⟨cd, hc, hd'⟩ := PySem.W.any_some T.hd
  obtain ⟨hp, g, dr, t, os⟩ := s
  obtain ⟨oD, esD, epD, hoD, hdD, _⟩ := hns.count hw
  refine PySem.W.set_plain I.kIn (od := some oD) ⟨ho, rfl, rfl, hoD⟩ T.sa (PySem.W.osa_openX (od := some oD) SF I.kIn ⟨ho, rfl, rfl, hoD⟩ q2 (taker_none hno) fun b => ?_)
  refine wpAny_bind (wpAny_pure (wpAny_bind (wpAny_bind (wpAny_loadPart ho (wpAny_bind (PySem.W.Looks.at (M := model X.prog X.w) (PySem.W.looks_clsIn I.kIn hc) ?_))))))
  rw [hd']
  refine wpAny_pure (a := some dx) ?_
  show wpAny _ _ (storeInDict dx (.str f _) f u) _ _ _
  refine PySem.OEX.store_in_old hns hw (by rw [List.length_map]; omega) fun h' tk' hn' hs => ?_
  exact h _ (I.write (x := dx) (e := dx) (o := exd dx ((f, y) :: fs)) (t' := tk') (h' := h') (by rw [ed]; exact True.intro) (.inl rfl) (fun b o hb z => (hs.2 b hb).trans z)
    (by obtain ⟨o, _, _, z, _⟩ := hn'; exact ⟨o, z⟩) (exd_ok hn' (relO_put ry rel)))
end
end L2
namespace L2
open PySem PySem.Spec PyProof.Rows Builtin.ObjectAttr
/-- self.f = e, self an exception that is being made -/
def tXst (K : PySem.W.Frag) (f : Str) (to te : TE) : TS := fun D σ H => te σ H fun y H1 => to σ H1 fun x H2 => ∃ a C : Addr, x = .ref a ∧ XC K C ∧ PySem.W.findIn K (.ref C) f = some none ∧
  ((H2 a = some (exo a C none) ∧ ∀ d H3, d ≠ a → H2 d = none → H3 a = some (exo a C (some d)) → H3 d = some (exd d [(f, y)]) → free3 H2 H3 a d → D.nx σ H3) ∨
    ∃ (d : Addr) (fs : List (Str × V)), H2 a = some (exo a C (some d)) ∧ H2 d = some (exd d fs) ∧ fs.length ≤ 900 ∧ D.nx σ (upd H2 d (exd d ((f, y) :: fs))))
section
variable {X : Cx} {o e : Expr} {to te : TE} {f : Str} {p' pos : Pos}
theorem ps_xst (ho : PE X o to) (he : PE X e te) (hs : swapsWith e (some (.Attribute o f p')) pos.line X.env = pure false := by rfl) : PS X (.Assign [.Attribute o f p'] e pos) (tXst X.K f to te) := by
  refine ⟨fun pins s σ H D I h => ?_⟩
  refine plainObj_wpAny_Assign_Attribute (thn (he.run pins s σ H _ I h) fun v s1 hv => ?_) hs
  obtain ⟨y, H1, I1, r1, q1⟩ := hv
  refine thn (ho.run pins s1 σ H1 _ I1 q1) fun u s2 hu => ?_
  obtain ⟨x, H2, I2, r2, a, C, ex, T, hno, q⟩ := hu
  subst ex
  obtain rfl : u = Value.ref a := r2
  rcases q with ⟨ea, q⟩ | ⟨d, fs, ea, ed, hl, q⟩
  · exact xst_new T I2 ea hno r1 fun d s' H' n1 n2 z1 z2 z3 J => ⟨σ, H', J, q d H' n1 n2 z1 z2 z3⟩
  · exact xst_old T I2 ea ed hl hno r1 fun s' J => ⟨σ, _, J, q⟩
end
/-- C(e, .., k = v, ..) as a value; sp is what C's own __init__ promises -/
def tXmk (C : Addr) (n m : Nat) (sp : Sp) (gV : List V → List V → List V) (t tk : TA) : TE := fun σ H Q => t σ H fun vs H1 => tk σ H1 fun zs H2 => vs.length = n ∧ zs.length = m ∧
  ∀ a, H2 a = none → sp (gV (.ref a :: vs) zs) (upd H2 a (exo a C none)) (fun v H3 => v = .non ∧ Q (.ref a) H3) (fun _ _ _ => False)
section
variable {X : Cx} {CX : CXT} {k n : Nat} {C fI : Addr} {fd : FuncData} {ps ks : List Str} {sp : Sp} {x : Str} {p pos : Pos} {e : Expr} {es : List Expr} {kws : List Keyword} {t tk : TA} {g : List Value → List Value → List Value} {gV : List V → List V → List V}
theorem run_xmk {pins : List (Addr × Obj)} {σ : St} {H : Hp} {s : Shared} {Q : VK} {us ws : List Value} {vs zs : List V} (T : XC X.K C) (iC : PySem.W.findIn X.K (.ref C) "__init__" = some (some (.ref fI))) (tI : PySem.W.isFn X.K (.ref fI) = true)
    (F : FnOk X.prog X.w X.K X.mg X.base CX k fI fd ps sp) (hr : Room (k + 1) X.A) (hb : KBn X.K fd ps (n + 1) ks g gV) (hx : Passes CX X (fun _ _ _ => False)) (I : Inv X pins σ H s) (r : Vals vs us) (rz : Vals zs ws) (l1 : vs.length = n) (l2 : zs.length = ks.length) (l3 : n ≤ 1000)
    (h : ∀ a, H a = none → sp (gV (.ref a :: vs) zs) (upd H a (exo a C none)) (fun v H3 => v = .non ∧ Q (.ref a) H3) (fun _ _ _ => False)) :
    wpAny (model X.prog X.w) X.A (call (.ref C) us (ks.zip ws)) (EP X pins σ Q) X.xe s := by
  obtain ⟨B, nid, iid, mb, FB, SF, q1, q2⟩ := T.base
  obtain ⟨nm, N, qn, bs, bm, hdct, sn, sub, ab, col, dd, k0, k1, k2, k3, k5, hC, hT⟩ := PySem.W.excInit_of I.kIn q1
  obtain ⟨oI, hoI, hcI⟩ : ∃ oI, s.heap.get? fI = some oI ∧ oI.cls = .type "function" := by
    obtain ⟨o, ho, hc⟩ := Option.map_eq_some_iff.mp (show (X.K.lookup fI).map (·.cls) = some (.type "function") from beq_iff_eq.mp tI)
    exact ⟨o, I.kIn _ _ ho, hc⟩
  obtain ⟨hp, gn, dr, tc, os⟩ := s
  have hsz : hp.objs.size ≤ hp.objs.size + 1 := Nat.le_succ _
  have hn : H (hp.objs.size + 1) = none := I.hok.fresh hsz
  have hq := h (hp.objs.size + 1) hn
  have kk : ∀ b o, hp.get? b = some o → ((hp.push (PySem.W.kdv_tup us)).push (PySem.HandSPX.excO C hp.objs.size)).get? b = some o := fun b o z => Heap.get?_push_of_some _ (Heap.get?_push_of_some _ z)
  have hget : ((hp.push (PySem.W.kdv_tup us)).push (PySem.HandSPX.excO C hp.objs.size)).get? (hp.objs.size + 1) = some (PySem.HandSPX.excO C hp.objs.size) := by heap_get
  have I2 : Inv X pins σ (upd H (hp.objs.size + 1) (exo (hp.objs.size + 1) C none)) ⟨(hp.push (PySem.W.kdv_tup us)).push (PySem.HandSPX.excO C hp.objs.size), gn, dr, tc, os⟩ :=
    I.laid (t' := tc) (a := hp.objs.size + 1) (o := exo (hp.objs.size + 1) C none) (h' := (hp.push (PySem.W.kdv_tup us)).push (PySem.HandSPX.excO C hp.objs.size)) kk hsz (exo_ok hget)
  have r1 : Vals (V.ref (hp.objs.size + 1) :: vs) (Value.ref (hp.objs.size + 1) :: us) := .cons rfl r
  have e1 : (Value.ref (hp.objs.size + 1) :: us).length = n + 1 := r1.length.symm.trans (congrArg Nat.succ l1)
  have e2 : ws.length = ks.length := rz.length.symm.trans l2
  have hus : us.length ≤ sizeLine := by
    rw [← r.length, sizeLine_eq]
    omega
  refine wpAny_call (PySem.Xv.callK FB hT hC (PySem.W.looks_findIn I.kIn iC) (fun self => PySem.W.exc_bind hoI hcI self) hus
    (codeAny_mono (F.run _ X.stack _ _ ⟨Value.ref (hp.objs.size + 1) :: us, ks.zip ws⟩ (g (Value.ref (hp.objs.size + 1) :: us) ws) _ _ (fun _ _ _ => False) (hr.make C us (ks.zip ws)) (I2.env0.make C us (ks.zip ws)) (hb.to _ (Value.ref (hp.objs.size + 1) :: us) ws I2.kIn e1 e2) (hb.rel r1 rz) hq) fun r s' hq' => ?_))
  cases r with
  | error er => exact hx pins σ _ _ er s' I2 hq'
  | ok fl =>
    cases fl with
    | ret u =>
      obtain ⟨v, H', I3, rv, ev, q3⟩ := I2.after hq'
      subst ev
      exact ⟨rv, V.ref (hp.objs.size + 1), H', I3, rfl, q3⟩
    | next => exact hq'.elim
    | brk => exact hq'.elim
    | cont => exact hq'.elim
/-- positional values (one or more), keywords -/
theorem pe_xmk (T : XC X.K C) (iC : PySem.W.findIn X.K (.ref C) "__init__" = some (some (.ref fI))) (tI : PySem.W.isFn X.K (.ref fI) = true) (F : FnOk X.prog X.w X.K X.mg X.base CX k fI fd ps sp) (hr : Room (k + 1) X.A) (hg : Gl X x) (hm : X.mg x = some (.ref C)) (hb : KBn X.K fd ps (n + 1) ks g gV) (hx : Passes CX X (fun _ _ _ => False)) (l3 : n ≤ 1000)
    (ha : PA X (e :: es) t) (hkw : PK X kws tk) (hall : (backToKw pos (keywordEach kws X.env)).all (·.1.isSome) = true := by rfl) (hks : (backToKw pos (keywordEach kws X.env)).filterMap (·.1) = ks := by rfl)
    (hdb : (x == ("__debug__" : Str)) = false := by decide) (he : starEach (e :: es) X.env = (false, eval e X.env) :: starEach es X.env := by rfl)
    (hpl : ((backTo pos (starEach (e :: es) X.env)).any (·.1) || (backToKw pos (keywordEach kws X.env)).any (·.1.isNone)) = false := by rfl) :
    PE X (.Call (.Name x p) (e :: es) kws pos) (tXmk C n ks.length sp gV t tk) := by
  refine ⟨fun pins s σ H Q I h => wpAny_Call_Name_kw (ld_glob I hg hm ?_ hdb)⟩
  refine PySem.W.callWith_KW (h₀ := X.base) I.ok.mod.kin T.kC hall (thn (ha.run pos pins s σ H _ I h) fun us s1 hu => ?_) hpl he
  obtain ⟨vs, H1, I1, r, q⟩ := hu
  refine thn (hkw.run pos pins s1 σ H1 _ I1 q) fun ws s2 hw => ?_
  obtain ⟨zs, H2, I2, rz, l1, l2, q2⟩ := hw
  refine ⟨I2.kIn, ?_⟩
  rw [hks]
  exact run_xmk T iC tI F hr hb hx I2 r rz l1 l2 l3 q2
/-- keywords alone -/
theorem pe_xmkK (T : XC X.K C) (iC : PySem.W.findIn X.K (.ref C) "__init__" = some (some (.ref fI))) (tI : PySem.W.isFn X.K (.ref fI) = true) (F : FnOk X.prog X.w X.K X.mg X.base CX k fI fd ps sp) (hr : Room (k + 1) X.A) (hg : Gl X x) (hm : X.mg x = some (.ref C)) (hb : KBn X.K fd ps 1 ks g gV) (hx : Passes CX X (fun _ _ _ => False))
    (hkw : PK X kws tk) (hall : (backToKw pos (keywordEach kws X.env)).all (·.1.isSome) = true := by rfl) (hks : (backToKw pos (keywordEach kws X.env)).filterMap (·.1) = ks := by rfl)
    (hdb : (x == ("__debug__" : Str)) = false := by decide) (hpl : ((backTo pos (starEach [] X.env)).any (·.1) || (backToKw pos (keywordEach kws X.env)).any (·.1.isNone)) = false := by rfl) :
    PE X (.Call (.Name x p) [] kws pos) (tXmk C 0 ks.length sp gV tNil tk) := by
  refine ⟨fun pins s σ H Q I h => wpAny_Call_Name_kw (ld_glob I hg hm ?_ hdb)⟩
  refine PySem.W.callWith_KW0 (h₀ := X.base) I.ok.mod.kin T.kC hall ?_ hpl
  refine thn (hkw.run pos pins s σ H _ I h) fun ws s2 hw => ?_
  obtain ⟨zs, H2, I2, rz, l1, l2, q2⟩ := hw
  refine ⟨I2.kIn, ?_⟩
  rw [hks]
  exact run_xmk (us := []) T iC tI F hr hb hx I2 .nil rz rfl l2 (by decide) q2
/-- one value or more, no keyword -/
theorem pe_xmkP (T : XC X.K C) (iC : PySem.W.findIn X.K (.ref C) "__init__" = some (some (.ref fI))) (tI : PySem.W.isFn X.K (.ref fI) = true) (F : FnOk X.prog X.w X.K X.mg X.base CX k fI fd ps sp) (hr : Room (k + 1) X.A) (hg : Gl X x) (hm : X.mg x = some (.ref C)) (hb : KBn X.K fd ps (n + 1) [] g gV) (hx : Passes CX X (fun _ _ _ => False)) (l3 : n ≤ 1000)
    (ha : PA X (e :: es) t) (hdb : (x == ("__debug__" : Str)) = false := by decide) (he : starEach (e :: es) X.env = (false, eval e X.env) :: starEach es X.env := by rfl) (hpl : (backTo pos (starEach es X.env)).any (·.1) = false := by rfl) :
    PE X (.Call (.Name x p) (e :: es) [] pos) (tXmk C n 0 sp gV t tNil) := by
  refine ⟨fun pins s σ H Q I h => wpAny_Call_Name_kw (ld_glob I hg hm ?_ hdb)⟩
  refine PySem.W.callWith_K (h₀ := X.base) I.ok.mod.kin T.kC (thn (ha.run pos pins s σ H _ I h) fun us s1 hu => ?_) he hpl
  obtain ⟨vs, H1, I1, r, l1, l2, q2⟩ := hu
  exact ⟨I1.kIn, run_xmk (ws := []) (zs := []) T iC tI F hr hb hx I1 r .nil l1 rfl l3 q2⟩
/-- no value -/
theorem pe_xmk0 (T : XC X.K C) (iC : PySem.W.findIn X.K (.ref C) "__init__" = some (some (.ref fI))) (tI : PySem.W.isFn X.K (.ref fI) = true) (F : FnOk X.prog X.w X.K X.mg X.base CX k fI fd ps sp) (hr : Room (k + 1) X.A) (hg : Gl X x) (hm : X.mg x = some (.ref C)) (hb : KBn X.K fd ps 1 [] g gV) (hx : Passes CX X (fun _ _ _ => False))
    (hdb : (x == ("__debug__" : Str)) = false := by decide) : PE X (.Call (.Name x p) [] [] pos) (tXmk C 0 0 sp gV tNil tNil) := by
  refine ⟨fun pins s σ H Q I h => wpAny_Call_Name_kw (ld_glob I hg hm ?_ hdb)⟩
  obtain ⟨_, _, q2⟩ := h
  exact PySem.W.callWith_K0 I.kIn T.kC (run_xmk (us := []) (ws := []) (zs := []) T iC tI F hr hb hx I .nil .nil rfl rfl (by decide) q2)
end
/-- e.f, e such an exception -/
def tXat (K : PySem.W.Frag) (f : Str) (te : TE) : TE := fun σ H Q => te σ H fun x H1 => ∃ (a C d : Addr) (fs : List (Str × V)) (v : V), x = .ref a ∧ XC K C ∧ PySem.W.findIn K (.ref C) f = some none ∧ H1 a = some (exo a C (some d)) ∧ H1 d = some (exd d fs) ∧ fs.lookup f = some v ∧ Q v H1
theorem inst_exo {X : Cx} {pins : List (Addr × Obj)} {σ : St} {H : Hp} {s : Shared} {a C d : Addr} {fs : List (Str × V)} (I : Inv X pins σ H s) (ea : H a = some (exo a C (some d))) (ed : H d = some (exd d fs)) :
    ∃ (ox od : Obj) (mA : Str → Option Value), PySem.W.InstAt s.heap a ox C (some od) ∧ (∀ f, RelO (fs.lookup f) (mA f)) ∧ ∀ f, PySem.W.lookIn f od = some (mA f) := by
  obtain ⟨t1, ho⟩ := exo_at I.hok ea
  obtain ⟨mA, hns, hr⟩ := exd_at I.hok ed
  obtain ⟨od, hod, hl⟩ := lookIn_ns hns
  exact ⟨_, od, mA, ⟨ho, rfl, rfl, hod⟩, hr, hl⟩
theorem pe_xat {X : Cx} {e : Expr} {te : TE} {pos : Pos} {f : Str} (he : PE X e te) (hb : attributeBase e f X.env (eval e X.env) = eval e X.env := by rfl) : PE X (.Attribute e f pos) (tXat X.K f te) := by
  refine ⟨fun pins s σ H Q I h => attr_of hb (thn (he.run pins s σ H _ I h) fun u s1 hh => ?_)⟩
  obtain ⟨x, H1, I1, rx, a, C, d, fs, v, ex, T, hno, ea, ed, l, q⟩ := hh
  subst ex
  obtain rfl : u = Value.ref a := rx
  obtain ⟨ox, od, mA, J, hr, hl⟩ := inst_exo I1 ea ed
  obtain ⟨u, hu, ru⟩ := RelO.some_of (v := v) (o := mA f) (by rw [← l]; exact hr f)
  exact HandSPX.exc_get I1.kIn J T.ga T.gg T.ex (PySem.W.findObj_own T.hd hno rfl (by rw [hl, hu])) (handed_of ru) ⟨v, H1, I1.tok _, ru, q⟩
/-- isinstance(e, c), e such an exception -/
def rXis (K : PySem.W.Frag) : List V → Hp → VK → Prop := fun xs H Q => ∃ (a C d : Addr) (fs : List (Str × V)) (c : V) (cv : Value) (b : Bool), xs = [.ref a, c] ∧ XC K C ∧ H a = some (exo a C (some d)) ∧ H d = some (exd d fs) ∧ ClsV c cv ∧ PySem.W.kitOne K (.ref C) cv = some b ∧ Q (.bl b) H
theorem call_xis {X : Cx} : CallR X (.builtin "isinstance") (rXis X.K) := by
  intro pins s σ H xs us Q I r h
  obtain ⟨a, C, d, fs, c, cv, b, rfl, T, ea, ed, hc, e, q⟩ := h
  obtain ⟨u1, u2, rfl, r1, r2⟩ := vals2 r
  obtain rfl := hc.eq r2
  obtain rfl : u1 = Value.ref a := r1
  obtain ⟨ox, od, mA, J, _, _⟩ := inst_exo I ea ed
  exact PySem.W.kia_one (PySem.W.kitx_exc T.cl T.ga T.gg T.ex T.ha T.hn T.ht T.hm) I.kIn J e (fun z => nomatch z) fun tk => ⟨.bl b, H, I.tok tk, rfl, q⟩
end L2
end
section
set_option maxHeartbeats 4000000
namespace L2
open PySem PySem.Spec PyProof.Rows Builtin.ObjectAttr
section
variable {X : Cx} {CX : CXT} {k : Nat} {C fI : Addr} {fd : FuncData} {ps : List Str} {sp : Sp} {x : Str} {p pos : Pos} {e : Expr} {es : List Expr} {ta : TA}
/-- raise C(..), C an own exception class with its own __init__, over any built-in base -/
theorem run_pmk {pins : List (Addr × Obj)} {σ : St} {H1 : Hp} {s1 : Shared} {Q : XK} {us : List Value} {vs : List V} (T : XC X.K C) (tyC : PySem.W.typeIn X.K (.ref C) = some (.type "type")) (iC : PySem.W.findIn X.K (.ref C) "__init__" = some (some (.ref fI))) (tI : PySem.W.isFn X.K (.ref fI) = true)
    (F1 : FnOk X.prog X.w X.K X.mg X.base CX k fI fd ps sp) (hr : Room (k + 1) X.A) (hb : Binds X.K fd ps []) (hx : Passes CX X (fun _ _ _ => False)) (I1 : Inv X pins σ H1 s1) (r1 : Vals vs us) (hz : vs.length ≤ 1000)
    (q1 : ∀ a, H1 a = none → sp (.ref a :: vs) (upd H1 a (exo a C none)) (fun v H2 => v = .non ∧ ∃ (d : Addr) (fs : List (Str × V)), H2 a = some (exo a C (some d)) ∧ H2 d = some (exd d fs) ∧ H1 d = none ∧ Q (.ref C) (some d) (upd (del H2 a) d (.xd fs))) (fun _ _ _ => False)) :
    wpAny (model X.prog X.w) X.A (call (.ref C) us []) (MkP X pins σ Q) X.xe s1 := by
  obtain ⟨B, nid, iid, mb, FB, SF, qa, qb⟩ := T.base
  obtain ⟨nm, N, qn, bs, bm, hdct, sn, sub, ab, col, dd, k0, k1, k2, k3, k5, hC, hT⟩ := PySem.W.excInit_of I1.kIn qa
  obtain ⟨oI, hoI, hcI⟩ : ∃ oI, s1.heap.get? fI = some oI ∧ oI.cls = .type "function" := by
    obtain ⟨o, ho, hc⟩ := Option.map_eq_some_iff.mp (show (X.K.lookup fI).map (·.cls) = some (.type "function") from beq_iff_eq.mp tI)
    exact ⟨o, I1.kIn _ _ ho, hc⟩
  obtain ⟨hp, g, dr, tk, os⟩ := s1
  have hsz : hp.objs.size ≤ hp.objs.size + 1 := Nat.le_succ _
  have hn : H1 (hp.objs.size + 1) = none := I1.hok.fresh hsz
  have hq := q1 (hp.objs.size + 1) hn
  have kk : ∀ b o, hp.get? b = some o → ((hp.push (PySem.W.kdv_tup us)).push (PySem.HandSPX.excO C hp.objs.size)).get? b = some o := fun b o z => Heap.get?_push_of_some _ (Heap.get?_push_of_some _ z)
  have hget : ((hp.push (PySem.W.kdv_tup us)).push (PySem.HandSPX.excO C hp.objs.size)).get? (hp.objs.size + 1) = some (PySem.HandSPX.excO C hp.objs.size) := by heap_get
  have I2 : Inv X pins σ (upd H1 (hp.objs.size + 1) (exo (hp.objs.size + 1) C none)) ⟨(hp.push (PySem.W.kdv_tup us)).push (PySem.HandSPX.excO C hp.objs.size), g, dr, tk, os⟩ :=
    I1.laid (t' := tk) (a := hp.objs.size + 1) (o := exo (hp.objs.size + 1) C none) (h' := (hp.push (PySem.W.kdv_tup us)).push (PySem.HandSPX.excO C hp.objs.size)) kk hsz (exo_ok hget)
  have r2 : Vals (V.ref (hp.objs.size + 1) :: vs) (Value.ref (hp.objs.size + 1) :: us) := .cons rfl r1
  have hl : (Value.ref (hp.objs.size + 1) :: us).length = ps.length := by
    have z := r2.length
    rw [F1.len _ _ _ _ hq] at z
    exact z.symm
  have hus : us.length ≤ sizeLine := by
    rw [← Paired.length r1, sizeLine_eq]
    omega
  have hb2 := hb ⟨(hp.push (PySem.W.kdv_tup us)).push (PySem.HandSPX.excO C hp.objs.size), g, dr, tk, os⟩ (Value.ref (hp.objs.size + 1) :: us) I2.kIn (by rw [List.append_nil]; exact hl)
  rw [List.append_nil] at hb2
  refine wpAny_call (PySem.Xv.callK (kw := []) FB hT hC (PySem.W.looks_findIn I1.kIn iC) (fun self => PySem.W.exc_bind hoI hcI self) hus
    (codeAny_mono (F1.run _ X.stack _ _ ⟨Value.ref (hp.objs.size + 1) :: us, []⟩ (Value.ref (hp.objs.size + 1) :: us) _ _ (fun _ _ _ => False) (hr.make C us []) (I2.env0.make C us []) hb2 r2 hq) fun r s' hq' => ?_))
  cases r with
  | error er => exact hx pins σ _ _ er s' I2 hq'
  | ok fl =>
    cases fl with
    | ret u =>
      obtain ⟨v, H2, os2, bare2, un2, hok2, rv, ev, d, fs, ea, ed, hd1, q2⟩ := hq'
      subst ev
      obtain ⟨h2, g2, d2, t2, os'⟩ := s'
      exact ⟨rv, mk_end (raises_own T.ex tyC) I1 hsz kk un2 hok2 os2 bare2 ea ed hd1 q2⟩
    | next => exact False.elim hq'
    | brk => exact False.elim hq'
    | cont => exact False.elim hq'
theorem pmk_xo (T : XC X.K C) (tyC : PySem.W.typeIn X.K (.ref C) = some (.type "type")) (iC : PySem.W.findIn X.K (.ref C) "__init__" = some (some (.ref fI))) (tI : PySem.W.isFn X.K (.ref fI) = true)
    (F1 : FnOk X.prog X.w X.K X.mg X.base CX k fI fd ps sp) (hr : Room (k + 1) X.A) (hb : Binds X.K fd ps []) (hx : Passes CX X (fun _ _ _ => False)) (hg : Gl X x) (hm : X.mg x = some (.ref C)) (ha : PA X (e :: es) ta)
    (hdb : (x == ("__debug__" : Str)) = false := by decide) (he : starEach (e :: es) X.env = (false, eval e X.env) :: starEach es X.env := by rfl) (hpl : (backTo pos (starEach es X.env)).any (·.1) = false := by rfl) :
    PMk X (.Call (.Name x p) (e :: es) [] pos) (tMkO C sp [] ta) := by
  intro pins s σ H Q I h
  refine wpAny_Call_Name_kw (ld_glob I hg hm ?_ hdb)
  refine PySem.W.callWith_K (h₀ := X.base) I.ok.mod.kin T.kC (thn (ha.run pos pins s σ H _ I h) fun us s1 ⟨vs, H1, I1, r1, hz, q1⟩ => ⟨I1.kIn, ?_⟩) he hpl
  exact run_pmk T tyC iC tI F1 hr hb hx I1 r1 hz (fun a na => by have z := q1 a na; rwa [List.append_nil] at z)
theorem pmk_xo0 (T : XC X.K C) (tyC : PySem.W.typeIn X.K (.ref C) = some (.type "type")) (iC : PySem.W.findIn X.K (.ref C) "__init__" = some (some (.ref fI))) (tI : PySem.W.isFn X.K (.ref fI) = true)
    (F1 : FnOk X.prog X.w X.K X.mg X.base CX k fI fd ps sp) (hr : Room (k + 1) X.A) (hb : Binds X.K fd ps []) (hx : Passes CX X (fun _ _ _ => False)) (hg : Gl X x) (hm : X.mg x = some (.ref C))
    (hdb : (x == ("__debug__" : Str)) = false := by decide) : PMk X (.Call (.Name x p) [] [] pos) (tMkO C sp [] tNil) := by
  intro pins s σ H Q I h
  refine wpAny_Call_Name_kw (ld_glob I hg hm ?_ hdb)
  obtain ⟨_, q1⟩ := h
  exact PySem.W.callWith_K0 I.kIn T.kC (run_pmk (us := []) (vs := []) T tyC iC tI F1 hr hb hx I .nil (by decide) q1)
end
end L2
end
section
set_option maxHeartbeats 4000000
namespace Kq
open PySem PySem.Spec PyProof.Rows L2
/-- what an own __init__ of n parameters leaves: fs of the values -/
def spIn (C : Addr) (n : Nat) (fs : List V → List (Str × V)) : Sp := fun vs H Q _ => ∃ (a : Addr) (ws : List V), vs = .ref a :: ws ∧ ws.length = n ∧ H a = some (exo a C none) ∧
  ∀ e H', e ≠ a → H e = none → H' a = some (exo a C (some e)) → H' e = some (exd e (fs ws)) → free3 H H' a e → Q .non H'
def fsZ (_ : List V) : List (Str × V) := [("code", .str "DividedByZero")]
def fsP (ws : List V) : List (Str × V) := match ws with
  | [v] => [("value", v), ("code", .str "InvalidPower")]
  | _ => []
section
variable {P : Program} {w : World} {K : PySem.W.Frag} {mg : Str → Option Value} {base : Heap} {f C : Addr} {fd : FuncData}
theorem scZ : FnScope ["self"] ["self"] (defScope (inClass (top 13) 0)) := ⟨rfl, rfl, rfl, by decide +kernel, rfl, by decide +kernel, by decide +kernel⟩
theorem init_Z (F : Fun K "__init__" "DividedByZero.__init__" (inClass (top 13) 0) f fd) (T : XC K C) (n0 : PySem.W.findIn K (.ref C) "code" = some none) : FnOk P w K mg base CX0 1 f fd ["self"] (spIn C 0 fsZ) := by
  refine F.ok scZ (fun vs H Q E h => ?_) (fun cdv A outer s H vs Q E hr h => ?_)
  · obtain ⟨a, ws, rfl, l, _⟩ := h
    exact congrArg Nat.succ l
  obtain ⟨a, ws, rfl, l, ha, q⟩ := h
  obtain rfl : ws = [] := by match ws, l with | [], _ => rfl
  refine ⟨_, pss_one (ps_xst (pv 0) pe_str), ?_⟩
  exact ⟨_, rfl, a, _, rfl, T, n0, .inl ⟨ha, fun e H1 ne he h1 h2 h3 => q e _ ne he h1 h2 h3⟩⟩
theorem scP : FnScope ["self", "value"] ["self", "value"] (defScope (inClass (top 9) 0)) := ⟨rfl, rfl, rfl, by decide +kernel, rfl, by decide +kernel, by decide +kernel⟩
theorem init_P (F : Fun K "__init__" "InvalidPower.__init__" (inClass (top 9) 0) f fd) (T : XC K C) (n0 : PySem.W.findIn K (.ref C) "code" = some none) (n1 : PySem.W.findIn K (.ref C) "value" = some none) : FnOk P w K mg base CX0 1 f fd ["self", "value"] (spIn C 1 fsP) := by
  refine F.ok scP (fun vs H Q E h => ?_) (fun cdv A outer s H vs Q E hr h => ?_)
  · obtain ⟨a, ws, rfl, l, _⟩ := h
    exact congrArg Nat.succ l
  obtain ⟨a, ws, rfl, l, ha, q⟩ := h
  obtain ⟨v, rfl⟩ : ∃ v, ws = [v] := by match ws, l with | [v], _ => exact ⟨v, rfl⟩
  refine ⟨_, pss_cons (ps_xst (pv 0) pe_str) (pss_one (ps_xst (pv 0) (pv 1))), ?_⟩
  refine ⟨_, rfl, a, _, rfl, T, n0, .inl ⟨ha, fun e H1 ne he h1 h2 h3 => ?_⟩⟩
  refine ⟨_, rfl, _, rfl, a, _, rfl, T, n1, .inr ⟨e, _, h1, h2, (by show 1 ≤ 900; decide), ?_⟩⟩
  exact q e _ ne he (by rw [upd_ne (Ne.symm ne)]; exact h1) (by rw [upd_same]; rfl) (fun b b1 b2 => by rw [upd_ne b2]; exact h3 b b1 b2)
/-- what stands of such a class: it may be made, its __init__ keeps its promise -/
structure ErrC (P : Program) (w : World) (K : PySem.W.Frag) (mg : Str → Option Value) (base : Heap) (nm : Str) (n : Nat) (fs : List V → List (Str × V)) (C : Addr) : Prop where
  T : XC K C
  ty : PySem.W.typeIn K (.ref C) = some (.type "type")
  m : mg nm = some (.ref C)
  i : ∃ (fI : Addr) (fd : FuncData) (ps : List Str), PySem.W.findIn K (.ref C) "__init__" = some (some (.ref fI)) ∧ PySem.W.isFn K (.ref fI) = true ∧ FnOk P w K mg base CX0 1 fI fd ps (spIn C n fs) ∧ Binds K fd ps []
/-- such an error is in the air -/
def Air (H : Hp) (C : Addr) (fs : List (Str × V)) (E : XK) : Prop := ∀ d H', Same H H' → H d = none → H' d = some (.xd fs) → E (.ref C) (some d) H'
/-- one is made: from the promise of its __init__ -/
theorem air_of {H : Hp} {a C : Addr} {n : Nat} {fs : List V → List (Str × V)} {ws : List V} {E : XK} (hn : H a = none) (l : ws.length = n) (h : Air H C (fs ws) E) :
    spIn C n fs (.ref a :: (ws ++ [])) (upd H a (exo a C none)) (fun v H2 => v = .non ∧ ∃ (d : Addr) (gs : List (Str × V)), H2 a = some (exo a C (some d)) ∧ H2 d = some (exd d gs) ∧ H d = none ∧ E (.ref C) (some d) (upd (del H2 a) d (.xd gs))) (fun _ _ _ => False) := by
  refine ⟨a, ws, by rw [List.append_nil], l, upd_same, fun e H' ne he h1 h2 h3 => ⟨rfl, e, _, h1, h2, ?_, ?_⟩⟩
  · rw [upd_ne ne] at he
    exact he
  · have he' : H e = none := by rw [upd_ne ne] at he; exact he
    refine h e _ (fun b o hb => ?_) he' upd_same
    have b1 : b ≠ a := fun z => by rw [z, hn] at hb; cases hb
    have b2 : b ≠ e := fun z => by rw [z, he'] at hb; cases hb
    rw [upd_ne b2, del_ne b1, h3 b b1 b2, upd_ne b1]
    exact hb
def spRatioX (C : Addr) : Sp := fun vs H Q E => ∃ p q : Int, vs = [.int p, .int q] ∧ (q ≠ 0 → (gS p q).natAbs.log2 < 9000 ∧ Gives H Q (lowU p q) (lowL p q)) ∧ (q = 0 → Air H C (fsZ []) E)
theorem ok_ratioX (F : Fun K "ratio" "ratio" (top 22) f fd) (mG : mg "gcd" = some (.builtin "math.gcd")) (Z : ErrC P w K mg base "DividedByZero" 0 fsZ C) : FnOk P w K mg base (L2.CX P w) 3 f fd ["upper", "lower"] (spRatioX C) := by
  refine F.okX scRatio (fun vs H Q E h => ?_) (fun cdv A outer s H vs Q E hr h => ?_)
  · obtain ⟨p, q, rfl, _⟩ := h
    rfl
  obtain ⟨p, q, rfl, qq, qe⟩ := h
  obtain ⟨fI, fdI, ps, i1, i2, i3, i4⟩ := Z.i
  refine ⟨_, pss_cons (ps_if (pt_cmpR op_eq (pv 1) pe_int (nomark _)) (pss_one (ps_raise rfl (takes_of rfl rfl rfl rfl) (pmk_xo0 Z.T Z.ty i1 i2 i3 hr i4 pass0 rfl Z.m))) pss_nil)
    (pss_cons (ps_set (i := 2) scRatio.nd rfl (Or.inl rfl) (pe_callBfun cr_gcd rfl mG (pa_cons (pv 0) (pa_cons (pv 1) pa_nil))))
    (pss_cons (ps_if (pt_cmpR op_lt (pv 1) pe_int (nomark _)) (pss_one (ps_set (i := 2) scRatio.nd rfl (Or.inl rfl) (pe_un un_neg (pv 2)))) pss_nil)
    (pss_one (ps_ret (pe_tup (pa_cons (pe_op op_fdivA (pv 0) (pv 2)) (pa_cons (pe_op op_fdivA (pv 1) (pv 2)) pa_nil))))))), ?_⟩
  refine ⟨_, rfl, rfl, _, rfl, ite2 (fun c => ?_) (fun c => ?_)⟩
  · have q0 : q = 0 := V.int.inj (of_decide_eq_true c)
    exact ⟨by decide, fun a na => air_of (ws := []) na rfl (qe q0)⟩
  have hq : q ≠ 0 := fun e => by rw [e] at c; exact c (by decide)
  have fin : ∀ g : Int, g = gS p q → (∀ t, H t = none → Q (.ref t) (upd H t (.tup [.int (p.fdiv g), .int (q.fdiv g)]))) ∧ g ≠ 0 ∧ g.natAbs.log2 < 9000 := by
    rintro g rfl
    exact ⟨fun t nt => (qq hq).2 t _ (new_same nt _) nt upd_same, gS_ne hq, (qq hq).1⟩
  refine ⟨_, rfl, _, rfl, p, q, rfl, ?_⟩
  refine ⟨_, rfl, q, 0, rfl, rfl, _, rfl, ite2 (fun c => ?_) (fun c => ?_)⟩
  · obtain ⟨q1, n0, l9⟩ := fin (-((Nat.gcd p.natAbs q.natAbs : Nat) : Int)) (by unfold gS; rw [if_pos (of_decide_eq_true c)])
    exact ⟨_, rfl, _, rfl, _, rfl, _, rfl, p, _, rfl, rfl, ⟨n0, l9⟩, _, rfl, _, rfl, q, _, rfl, rfl, ⟨n0, l9⟩, (by show 2 ≤ sizeLine; decide), q1⟩
  · obtain ⟨q1, n0, l9⟩ := fin ((Nat.gcd p.natAbs q.natAbs : Nat) : Int) (by unfold gS; rw [if_neg (of_decide_eq_false (Bool.eq_false_iff.mpr c))])
    exact ⟨_, rfl, _, rfl, p, _, rfl, rfl, ⟨n0, l9⟩, _, rfl, _, rfl, q, _, rfl, rfl, ⟨n0, l9⟩, (by show 2 ≤ sizeLine; decide), q1⟩
end
end Kq
end
section
set_option maxHeartbeats 4000000
namespace Kq
open PySem PySem.Spec PyProof.Rows L2
def spQuoX (C : Addr) : Sp := fun vs H Q E => ∃ (x y : V) (a b c d : Int), vs = [x, y] ∧ Fr H 1000 x a b ∧ Fr H 1000 y c d ∧ (b * c ≠ 0 → Gives H Q (lowU (a * d) (b * c)) (lowL (a * d) (b * c))) ∧ (b * c = 0 → Air H C (fsZ []) E)
section
variable {P : Program} {w : World} {K : PySem.W.Frag} {mg : Str → Option Value} {base : Heap} {f fL C : Addr} {fd fdL : FuncData}
theorem ok_quoX (F : Fun K "quotient_of" "quotient_of" (top 26) f fd) (G : FnOk P w K mg base (L2.CX P w) 3 fL fdL ["upper", "lower"] (spRatioX C)) (bL : Binds K fdL ["upper", "lower"] []) (kL : PySem.W.keepIn K (.ref fL) = true) (mL : mg "ratio" = some (.ref fL)) :
    FnOk P w K mg base (L2.CX P w) 4 f fd ["one", "other"] (spQuoX C) := by
  refine F.okX scQuo (fun vs H Q E h => ?_) (fun cdv A outer s H vs Q E hr h => ?_)
  · obtain ⟨x, y, a, b, c, d, rfl, _⟩ := h
    rfl
  obtain ⟨x, y, a, b, c, d, rfl, ⟨xa, rfl, hx, a1, b1, b0⟩, ⟨ya, rfl, hy, c1, d1, d0⟩, q, qe⟩ := h
  have sx := SqT.of (K := K) hx
  have sy := SqT.of (K := K) hy
  refine ⟨_, pss_one (ps_ret (pe_call (E := E) G hr rfl mL kL bL .nil (passes_call (takes_of rfl rfl rfl rfl) (fun _ _ _ _ h => h)) (pa_cons (pe_op op_mulW (pe_ix ix_tup (pv 0) pe_int (fun _ _ => rfl)) (pe_ix ix_tup (pv 1) pe_int (fun _ _ => rfl)))
      (pa_cons (pe_op op_mulW (pe_ix ix_tup (pv 0) pe_int (fun _ _ => rfl)) (pe_ix ix_tup (pv 1) pe_int (fun _ _ => rfl))) pa_nil)))), ?_⟩
  exact ⟨_, rfl, xa, _, 0, _, rfl, rfl, sx, rfl, _, rfl, ya, _, 1, _, rfl, rfl, sy, rfl, a, d, rfl, rfl, wide_mul a1 d1 (by decide) (by decide) (by decide),
      _, rfl, xa, _, 1, _, rfl, rfl, sx, rfl, _, rfl, ya, _, 0, _, rfl, rfl, sy, rfl, b, c, rfl, rfl, wide_mul b1 c1 (by decide) (by decide) (by decide), _, _, rfl, fun n0 => ⟨Nat.lt_of_le_of_lt (log_le (gS_le n0)) (Nat.lt_trans (log_bd (wide_lt b1 c1) (by decide)) (by decide)), q n0⟩, qe⟩
end
end Kq
end
section
set_option maxHeartbeats 4000000
namespace Kq
open PySem PySem.Spec PyProof.Rows L2
def spBtw (K : PySem.W.Frag) : Sp := fun vs H Q _ => ∃ (v : V) (lo hi : Int) (b : Bool), vs = [v, .int lo, .int hi] ∧ WhV K H v b ∧ ((b = false ∧ Q (.bl false) H) ∨ ∃ i : Int, b = true ∧ v = .int i ∧ Q (.bl (decide (lo ≤ i) && decide (i ≤ hi))) H)
def spPow (K : PySem.W.Frag) (CP CZ : Addr) : Sp := fun vs H Q E => ∃ (x nv : V), vs = [x, nv] ∧
  ((∃ b, WhV K H nv b ∧ (b = true → ∃ i : Int, nv = .int i ∧ 64 < i.natAbs) ∧ Air H CP (fsP [nv]) E) ∨
   (∃ i u l : Int, nv = .int i ∧ i.natAbs ≤ 64 ∧ Fr H 1000 x u l ∧ Nat.gcd u.natAbs l.natAbs = 1 ∧ (0 ≤ i → Gives H Q (u ^ i.natAbs) (l ^ i.natAbs)) ∧
     (i < 0 → (u ≠ 0 → Gives H Q (lowU (l ^ i.natAbs) (u ^ i.natAbs)) (lowL (l ^ i.natAbs) (u ^ i.natAbs))) ∧ (u = 0 → Air H CZ (fsZ []) E))))
abbrev nPow : List Str := ["value", "n", "upper", "lower"]
theorem gS_cop {p q : Int} (h : Nat.gcd p.natAbs q.natAbs = 1) : (gS p q).natAbs = 1 := by
  unfold gS
  rw [h]
  split <;> rfl
section
variable {P : Program} {w : World} {K : PySem.W.Frag} {mg : Str → Option Value} {base : Heap} {f fW fB fR fX CP CZ : Addr} {fd fdW fdB fdR fdX : FuncData}
theorem scBtw : FnScope ["value", "low", "high"] ["value", "low", "high"] (defScope (top 20)) := ⟨rfl, rfl, rfl, by decide +kernel, rfl, by decide +kernel, by decide +kernel⟩
theorem ok_btw (F : Fun K "is_between" "is_between" (top 20) f fd) (GW : FnOk P w K mg base CX0 1 fW fdW ["value"] (spWhole K)) (bW : Binds K fdW ["value"] []) (kW : PySem.W.keepIn K (.ref fW) = true) (mW : mg "is_whole" = some (.ref fW)) :
    FnOk P w K mg base CX0 2 f fd ["value", "low", "high"] (spBtw K) := by
  refine F.ok scBtw (fun vs H Q E h => ?_) (fun cdv A outer s H vs Q E hr h => ?_)
  · obtain ⟨v, lo, hi, b, rfl, _⟩ := h
    rfl
  obtain ⟨v, lo, hi, b, rfl, hw, hh⟩ := h
  refine ⟨_, pss_one (ps_ret (pe_and (pe_call GW hr rfl mW kW bW .nil pass0 (pa_cons (pv 0) pa_nil)) (pe_one (pe_chain op_le op_le (pv 1) (pv 0) (pv 2))))), ?_⟩
  refine ⟨_, rfl, v, b, rfl, hw, _, rfl, ?_⟩
  rcases hh with ⟨rfl, q⟩ | ⟨i, rfl, rfl, q⟩
  · exact iteF q
  · refine iteT ⟨_, rfl, _, rfl, lo, i, rfl, rfl, _, rfl, ?_⟩
    by_cases c : lo ≤ i
    · rw [decide_eq_true c] at q ⊢
      exact iteT ⟨_, rfl, i, hi, rfl, rfl, by rw [Bool.true_and] at q; exact q⟩
    · rw [decide_eq_false c] at q ⊢
      exact iteF q
theorem scPow : FnScope nPow ["value", "n"] (defScope (top 29)) := ⟨rfl, rfl, rfl, by decide +kernel, rfl, by decide +kernel, by decide +kernel⟩
theorem ok_pow (F : Fun K "power_of" "power_of" (top 29) f fd) (GB : FnOk P w K mg base CX0 2 fB fdB ["value", "low", "high"] (spBtw K)) (bB : Binds K fdB ["value", "low", "high"] []) (kB : PySem.W.keepIn K (.ref fB) = true) (mB : mg "is_between" = some (.ref fB))
    (GR : FnOk P w K mg base CX0 1 fR fdR ["base", "n"] spRaised) (bR : Binds K fdR ["base", "n"] []) (kR : PySem.W.keepIn K (.ref fR) = true) (mR : mg "raised" = some (.ref fR))
    (GX : FnOk P w K mg base (L2.CX P w) 3 fX fdX ["upper", "lower"] (spRatioX CZ)) (bX : Binds K fdX ["upper", "lower"] []) (kX : PySem.W.keepIn K (.ref fX) = true) (mX : mg "ratio" = some (.ref fX))
    (mM : ∃ u, mg "MOST_POWER" = some u ∧ RelV (.int 64) u) (Z : ErrC P w K mg base "InvalidPower" 1 fsP CP) : FnOk P w K mg base (L2.CX P w) 4 f fd ["value", "n"] (spPow K CP CZ) := by
  refine F.okX scPow (fun vs H Q E h => ?_) (fun cdv A outer s H vs Q E hr h => ?_)
  · obtain ⟨x, nv, rfl, _⟩ := h
    rfl
  obtain ⟨x, nv, rfl, hh⟩ := h
  obtain ⟨fI, fdI, ps, i1, i2, i3, i4⟩ := Z.i
  have hr1 := hr.mono (show 1 ≤ 3 by decide)
  have hr2 := hr.mono (show 2 ≤ 3 by decide)
  refine ⟨_, pss_cons (ps_if (pt_not (pt_val (pe_call GB hr2 rfl mB kB bB .nil pass0 (pa_cons (pv 1) (pa_cons (pe_un un_neg (C8.pe_gc rfl mM)) (pa_cons (C8.pe_gc rfl mM) pa_nil)))))) (pss_one (ps_raise rfl (takes_of rfl rfl rfl rfl) (pmk_xo Z.T Z.ty i1 i2 i3 hr2 i4 pass0 rfl Z.m (pa_cons (pv 1) pa_nil)))) pss_nil)
    (pss_cons (ps_asg (pv 0) (pg_tup rfl (pgs_cons (pg_name (i := 2) scPow.nd rfl (Or.inl rfl)) (pgs_cons (pg_name (i := 3) scPow.nd rfl (Or.inl rfl)) pgs_nil))))
    (pss_cons (ps_if (pt_cmpR op_lt (pv 1) pe_int (nomark _))
      (pss_one (ps_ret (pe_call (E := E) GX hr rfl mX kX bX .nil (passes_call (takes_of rfl rfl rfl rfl) (fun _ _ _ _ h => h)) (pa_cons (pe_call GR hr1 rfl mR kR bR .nil pass0 (pa_cons (pv 3) (pa_cons (pe_un un_neg (pv 1)) pa_nil))) (pa_cons (pe_call GR hr1 rfl mR kR bR .nil pass0 (pa_cons (pv 2) (pa_cons (pe_un un_neg (pv 1)) pa_nil))) pa_nil))))) pss_nil)
    (pss_one (ps_ret (pe_tup (pa_cons (pe_call GR hr1 rfl mR kR bR .nil pass0 (pa_cons (pv 2) (pa_cons (pv 1) pa_nil))) (pa_cons (pe_call GR hr1 rfl mR kR bR .nil pass0 (pa_cons (pv 3) (pa_cons (pv 1) pa_nil))) pa_nil))))))), ?_⟩
  rcases hh with ⟨b, hw, hb, hair⟩ | ⟨i, u, l, rfl, hi, ⟨xa, rfl, hx, hu, hl, l0⟩, cop, q1, q2⟩
  · refine ⟨_, rfl, 64, rfl, nv, -64, 64, b, rfl, hw, ?_⟩
    have out : _ := fun (a : Addr) (na : H a = none) => air_of (C := CP) (n := 1) (ws := [nv]) na rfl hair
    cases b with
    | false => exact .inl ⟨rfl, _, rfl, iteT ⟨_, rfl, (by show 1 ≤ 1000; decide), out⟩⟩
    | true =>
      obtain ⟨i, rfl, h64⟩ := hb rfl
      refine .inr ⟨i, rfl, rfl, _, rfl, ?_⟩
      have e : (decide ((-64 : Int) ≤ i) && decide (i ≤ (64 : Int))) = false := by
        rw [Bool.and_eq_false_iff, decide_eq_false_iff_not, decide_eq_false_iff_not]
        omega
      rw [e]
      exact iteT ⟨_, rfl, (by show 1 ≤ 1000; decide), out⟩
  · refine ⟨_, rfl, 64, rfl, .int i, -64, 64, true, rfl, wh_int i, .inr ⟨i, rfl, rfl, _, rfl, ?_⟩⟩
    have e : (decide ((-64 : Int) ≤ i) && decide (i ≤ (64 : Int))) = true := by
      rw [Bool.and_eq_true, decide_eq_true_eq, decide_eq_true_eq]
      omega
    rw [e]
    refine iteF ⟨_, rfl, xa, _, rfl, SqT.of hx, rfl, _, _, rfl, _, _, rfl, rfl, ?_⟩
    refine ⟨_, rfl, i, 0, rfl, rfl, _, rfl, ite2 (fun c => ?_) (fun c => ?_)⟩
    · have i0 : i < 0 := of_decide_eq_true c
      obtain ⟨qa, qb⟩ := q2 i0
      have ei : V.int (-i) = V.int ((i.natAbs : Nat) : Int) := by
        congr 1
        omega
      refine ⟨_, rfl, _, rfl, i, rfl, l, i.natAbs, congrArg (fun z => [V.int l, z]) ei, hi, hl, _, rfl, _, rfl, i, rfl, u, i.natAbs, congrArg (fun z => [V.int u, z]) ei, hi, hu, _, _, rfl, fun n0 => ?_, fun z => ?_⟩
      · have u0 : u ≠ 0 := fun z => n0 (by rw [z]; exact Int.zero_pow (by omega))
        refine ⟨?_, qa u0⟩
        rw [gS_cop (by rw [Int.natAbs_pow, Int.natAbs_pow]; exact Nat.Coprime.pow _ _ (Nat.Coprime.symm cop))]
        decide
      · exact qb (Classical.byContradiction fun h => Int.pow_ne_zero h z)
    · have i0 : 0 ≤ i := Int.not_lt.mp (of_decide_eq_false (Bool.eq_false_iff.mpr c))
      have ei : V.int i = V.int ((i.natAbs : Nat) : Int) := by
        congr 1
        omega
      exact ⟨_, rfl, _, rfl, u, i.natAbs, congrArg (fun z => [V.int u, z]) ei, hi, hu, _, rfl, _, rfl, l, i.natAbs, congrArg (fun z => [V.int l, z]) ei, hi, hl, (by show 2 ≤ sizeLine; decide), fun t nt => q1 i0 t _ (new_same nt _) nt upd_same⟩
end
end Kq
end
section
set_option maxHeartbeats 4000000
namespace L2
open PySem PySem.Spec PyProof.Rows
/-! ### the caught exception, read where it is pinned -/
section
variable {X : Cx} {a C : Addr} {oe : Obj} {cls : Value} {d : Option Addr} {e : Expr} {te : TE} {pos : Pos} {n : Str}
theorem pe_xfP (hp : (a, oe) ∈ X.pn) (T : XC X.K C) (hno : PySem.W.findIn X.K (.ref C) n = some none) (hz : Zc cls d oe) (hf : ∃ vs, oe.data = .fields vs) (he : PE X e te) (hb : attributeBase e n X.env (eval e X.env) = eval e X.env := by rfl) :
    PE X (.Attribute e n pos) (tXf a cls d C n te) := by
  refine ⟨fun pins s σ H Q I h => ?_⟩
  refine attr_of hb (thn (he.run pins s σ H _ I h) fun u s1 hh => ?_)
  obtain ⟨x, H1, I1, rx, ex, ec, dd, fs, v, ed, ea, l, q⟩ := hh
  subst ex
  obtain rfl : u = Value.ref a := rx
  subst ec
  subst ed
  obtain ⟨ha, _⟩ := I1.pin (a, oe) (List.mem_append_left _ hp)
  obtain ⟨vs, hd⟩ := hf
  have hx : ObjOk X.prog X.w H1 s1.heap dd (.xd fs) := I1.hok dd _ ea
  obtain ⟨mA, hns, hr⟩ := hx
  obtain ⟨od, ho, hl⟩ := lookIn_ns hns
  obtain ⟨u, hu, ru⟩ := RelO.some_of (v := v) (o := mA n) (by rw [← l]; exact hr n)
  have J : PySem.W.InstAt s1.heap a oe C (some od) := ⟨ha, hz.1, by unfold PySem.W.notCls; rw [hd] <;> rfl, by rw [hz.2]; exact ho⟩
  exact HandSPX.exc_get I1.kIn J T.ga T.gg T.ex (PySem.W.findObj_own T.hd hno rfl (by rw [hl, hu])) (handed_of ru) ⟨v, H1, I1.tok _, ru, q⟩
/-- isinstance(e, c), e the exception pinned at a, with its dict -/
def rIsP (K : PySem.W.Frag) (D a dd : Addr) : List V → Hp → VK → Prop := fun xs H Q => ∃ (c : V) (cv : Value) (b : Bool) (fs : List (Str × V)), xs = [.ref a, c] ∧ H dd = some (.xd fs) ∧ (∀ u, RelV c u → u = cv) ∧ PySem.W.kitOne K (.ref D) cv = some b ∧ Q (.bl b) H
theorem call_isP {D dd : Addr} (hp : (a, oe) ∈ X.pn) (T : XC X.K D) (hz : Zc (.ref D) (some dd) oe) (hf : ∃ vs, oe.data = .fields vs) : CallR X (.builtin "isinstance") (rIsP X.K D a dd) := by
  intro pins s σ H xs us Q I r h
  obtain ⟨c, cv, b, fs, rfl, ea, hcv, e, q⟩ := h
  cases r with
  | cons rx rr =>
    cases rr with
    | cons rt rr =>
      cases rr
      cases rx
      have ec := hcv _ rt
      subst ec
      obtain ⟨hget, _⟩ := I.pin (a, oe) (List.mem_append.mpr (.inl hp))
      obtain ⟨vs, hv⟩ := hf
      have hx : ObjOk X.prog X.w H s.heap dd (.xd fs) := I.hok dd _ ea
      obtain ⟨mA, hns, hr⟩ := hx
      obtain ⟨od, ho, hl⟩ := lookIn_ns hns
      have J : PySem.W.InstAt s.heap a oe D (some od) := ⟨hget, hz.1, by unfold PySem.W.notCls; rw [hv] <;> rfl, by rw [hz.2]; exact ho⟩
      exact PySem.W.kia_one (PySem.W.kitx_exc T.cl T.ga T.gg T.ex T.ha T.hn T.ht T.hm) I.kIn J e (fun z => nomatch z) fun tk => ⟨.bl b, H, I.tok tk, rfl, q⟩
end
/-! ### a def that is handed the caught exception, called in the suite -/
structure FnP (P : Program) (w : World) (K : PySem.W.Frag) (mg : Str → Option Value) (base : Heap) (CX : CXT) (k : Nat) (f : Addr) (fd : FuncData) (ps : List Str) (sp : Addr → Value → Option Addr → Sp) : Prop where
  len : ∀ a cls d vs H Q E, sp a cls d vs H Q E → vs.length = ps.length
  run : ∀ (A : Around) (outer : List Env) (s : Shared) (H : Hp) (args : Args) (us : List Value) (vs : List V) (Q : VK) (E : XK) (a : Addr) (oe : Obj) (cls : Value) (d : Option Addr), L2H.RoomH k A → Zc cls d oe → (∃ vs, oe.data = .fields vs) → L2H.PinOk outer H s (a, oe) → Env0 P w K mg base A outer s H → BindsTo s fd args (ps.zip us) → Vals vs us → sp a cls d vs H Q E →
    codeAny (model P w) A (.call (.ref f) args) (CR CX outer P w H s Q E) s
/-- .. by its body -/
theorem fn_ofP {CX : CXT} {P : Program} {w : World} {K : PySem.W.Frag} {mg : Str → Option Value} {base : Heap} {k : Nat} {x q : Str} {st : Stmt} {f : Addr} {fd : FuncData} {N ps : List Str} {sp : Addr → Value → Option Addr → Sp} (F : Fun K x q st f fd) (S : FnScope N ps (defScope st))
    (len : ∀ a cls d vs H Q E, sp a cls d vs H Q E → vs.length = ps.length)
    (hbody : ∀ (cdv : Value) (A : Around) (outer : List Env) (s : Shared) (H : Hp) (vs : List V) (Q : VK) (E : XK) (a : Addr) (oe : Obj) (cls : Value) (d : Option Addr), Zc cls d oe → (∃ vs, oe.data = .fields vs) → L2H.RoomH k (A.deeper (envOfC q (defScope st) s.heap.objs.size f cdv)) → sp a cls d vs H Q E →
      ∃ t, PSs (L2H.cxH CX P w K mg base N q (defScope st) f cdv A outer s H E (a, oe)) (defBody st) t ∧ t { nx := fun _ H' => Q .non H', rt := Q } (L2.start N vs) H) :
    FnP P w K mg base CX (k + 1) f fd ps sp := by
  obtain ⟨oc, od, kV, doc, pm, an, cdv, ct, osl, rfl, lk, hcd⟩ := F.ex
  refine ⟨len, fun A outer s H args us vs Q E a oe cls d hr hz hf hpin e0 hb r hsp => ?_⟩
  have hl := len _ _ _ _ _ _ _ hsp
  have KX : K.In s.heap := e0.mod.kin.keeps fun b o e => (e0.bs b o e).1
  have lim : s.heap.NoLimit := e0.mod.nolimit.keeps fun b o e => (e0.bs b o e).1
  have hkind : ∀ y ∈ ps.zip us, (defScope st).names.lookup y.1 = some .local ∨ ((defScope st).names.lookup y.1 = some .cell ∧ ((cellsFrom (s.heap.objs.size + 1) (defScope st).names []).lookup y.1).isSome = true) := fun ⟨n, v⟩ hy => by
    rcases S.par n (List.of_mem_zip hy).1 with q | q
    · exact .inl q
    · exact .inr ⟨q, PySem.W.cellsFrom_some _ _ _ (.inl q)⟩
  refine codeAny_call_function hr.depth (KX _ _ lk) rfl S.co S.gen rfl (PySem.W.codeRec_of KX hcd) (hb _ _ _ _ ?_)
  refine wpAny_newFunctionEnv_cells S.kind hkind fun env he s1 x => ?_
  subst he
  refine ⟨lim.keeps x.toInCall.keep, codeAny_func ?_⟩
  obtain ⟨t, ht, hq⟩ := hbody cdv A outer s H vs Q E a oe cls d hz hf (hr.deeper _) hsp
  have I : Inv (L2H.cxH CX P w K mg base N q (defScope st) f cdv A outer s H E (a, oe)) [] (L2.start N vs) H s1 := L2H.inv_startH S hpin e0 hl r x
  refine wpAny_mono (ht.run [] s1 (L2.start N vs) H _ I hq) (fun fl s' hs => ?_) fun e s' hs => hs
  have fin : ∀ {σ' : St} {H' : Hp} {v : V} {u : Value}, Inv (L2H.cxH CX P w K mg base N q (defScope st) f cdv A outer s H E (a, oe)) [] σ' H' s' → RelV v u → Q v H' → CE outer P w H s Q u s' :=
    fun {σ' H' v u} J rv q => ⟨v, H', J.os, J.bare, J.base, J.hok, rv, q⟩
  cases fl with
  | ret u =>
    obtain ⟨v, σ', H', J, rv, q⟩ := hs
    exact fin J rv q
  | next =>
    obtain ⟨σ', H', J, q⟩ := hs
    exact fin (v := V.non) (u := Value.none) J rfl q
  | brk =>
    obtain ⟨_, _, _, q⟩ := hs
    exact False.elim q
  | cont =>
    obtain ⟨_, _, _, q⟩ := hs
    exact False.elim q
/-- f(e, ..) in the suite -/
def tCallP (a : Addr) (cls : Value) (d : Option Addr) (sp : Addr → Value → Option Addr → Sp) (t : TA) : TE := fun σ H Q => t σ H fun vs H1 => sp a cls d vs H1 Q (fun _ _ _ => False)
section
variable {X : Cx} {k : Nat} {f : Addr} {fd : FuncData} {ps : List Str} {sp : Addr → Value → Option Addr → Sp} {x : Str} {q pos : Pos} {e : Expr} {es : List Expr} {t : TA} {a : Addr} {oe : Obj} {cls : Value} {d : Option Addr}
theorem pe_callP (hp : (a, oe) ∈ X.pn) (hz : Zc cls d oe) (hf : ∃ vs, oe.data = .fields vs) (F : FnP X.prog X.w X.K X.mg X.base C8.CX0 k f fd ps sp) (hr : L2H.RoomH k X.A) (hg : Gl X x) (hm : X.mg x = some (.ref f)) (hk : PySem.W.keepIn X.K (.ref f) = true) (hb : Binds X.K fd ps [])
    (ha : PA X (e :: es) t) (hdb : (x == ("__debug__" : Str)) = false := by decide) (he : starEach (e :: es) X.env = (false, eval e X.env) :: starEach es X.env := by rfl) (hpl : (backTo pos (starEach es X.env)).any (·.1) = false := by rfl) :
    PE X (.Call (.Name x q) (e :: es) [] pos) (tCallP a cls d sp t) := by
  refine ⟨fun pins s σ H Q I h => ?_⟩
  refine wpAny_Call_Name_kw (ld_glob I hg hm ?_ hdb)
  refine PySem.W.callWith_K (h₀ := X.base) I.ok.mod.kin hk (thn (ha.run pos pins s σ H _ I h) fun us s1 ⟨vs, H1, I1, r, q⟩ => ⟨I1.kIn, ?_⟩) he hpl
  have hl : us.length = ps.length := by rw [← r.length]; exact F.len _ _ _ _ _ _ _ q
  have b := hb s1 us I1.kIn (by rw [List.append_nil]; exact hl)
  rw [List.append_nil] at b
  have P1 := I1.pin (a, oe) (List.mem_append_left _ hp)
  have hpin : L2H.PinOk X.stack H1 s1 (a, oe) := ⟨P1.1, P1.2.1, fun hm => (List.mem_cons.mp (I1.stkSub a hm)).elim P1.2.2.1 P1.2.2.2.1, P1.2.2.2.2⟩
  refine wpAny_call (codeAny_mono (F.run X.A X.stack s1 H1 ⟨us, []⟩ us vs Q _ a oe cls d hr hz hf hpin I1.env0 b r q) fun r s' hq => ?_)
  cases r with
  | error e => exact hq.elim
  | ok fl =>
    cases fl with
    | ret u => exact I1.after hq
    | next => exact False.elim hq
    | brk => exact False.elim hq
    | cont => exact False.elim hq
end
end L2
end
section
set_option maxHeartbeats 4000000
namespace L2
open PySem PySem.Spec PyProof.Rows
/-! ### several clauses «except C as n» -/
abbrev Hd3 : Type := Value × Nat × (Addr → Value → Option Addr → TS)
def wManyAs (K : PySem.W.Frag) (Wout : WX) (D : Ends) : List Hd3 → WX
  | [] => Wout
  | (c, i, ts) :: r => fun cls d σ H => ∃ b, PySem.W.exmOne K cls c = some b ∧ (b = true → ∀ a, H a = none → ts a cls d { nx := fun σ' H' => D.nx (σ'.set i none) H', rt := D.rt, bk := fun σ' H' => D.bk (σ'.set i none) H', ct := fun σ' H' => D.ct (σ'.set i none) H' } (σ.set i (some (.ref a))) H) ∧
      (b = false → wManyAs K Wout D r cls d σ H)
inductive HdsAs (X : Cx) : List ExceptHandler → List Hd3 → Prop
  | nil : HdsAs X [] []
  | cons {x n : Str} {c : Value} {i : Nat} {ts : Addr → Value → Option Addr → TS} {b₀ : Stmt} {suite : List Stmt} {np pos' : Pos} {hds : List ExceptHandler} {l : List Hd3} (hi : X.N[i]? = some n) (hln : X.env.kindOf n = some .local) (hc : Names X x c)
      (hsu : ∀ (a : Addr) (oe : Obj) (cls : Value) (d : Option Addr) (pn : List (Addr × Obj)), Zc cls d oe → (∃ vs, oe.data = .fields vs) → PSs (X.suite a ((a, oe) :: pn)) (b₀ :: suite) (ts a cls d)) (r : HdsAs X hds l) :
      HdsAs X (.ExceptHandler (some (.Name x np)) (some n) (b₀ :: suite) pos' :: hds) ((c, i, ts) :: l)
section
variable {X : Cx} {body : List Stmt} {h₀ : ExceptHandler} {hds : List ExceptHandler} {l : List Hd3} {pos : Pos} {tb : WX → TS} {Wout : WX}
theorem ps_try_manyAs (hs : X.stack = X.env :: X.outer) (hf : X.env.frame = some X.env.locals) (hN : X.N.Nodup) (tk : Takes X Wout)
    (hb : ∀ (W : WX) (pn : List (Addr × Obj)) (xe : Value → Shared → Prop), Takes (X.tr pn xe) W → PassesOwn (model X.prog X.w) X.A X.env xe → PSs (X.tr pn xe) body (tb W))
    (hh : HdsAs X (h₀ :: hds) l) : PS X (.Try body (h₀ :: hds) [] [] pos) (fun D σ H => tb (wManyAs X.K Wout D l) D σ H) := by
  refine ⟨fun pins s σ H D I h => ?_⟩
  have ok := I.ok
  have hfr : X.A.frames = some (X.env :: X.outer) := by rw [ok.frames, hs]
  refine wpAny_Try_except ?_
  refine wpAny_mono ((hb (wManyAs X.K Wout D l) (X.pn ++ pins) (fun e s₁ => wpAny (model X.prog X.w) X.A (noteFrame e X.env) (fun _ s₂ => wpAny (model X.prog X.w) X.A (setFlight e none) (fun _ s₃ =>
    wpAny (model X.prog X.w) X.A (handleBy e X.env (h₀ :: hds)) (SP X pins D) X.xe s₃) X.xe s₂) X.xe s₁) (fun u s' xx => ?_) PassesOwn.looking).run [] s σ H D (I.toTry _) h) (fun f s1 hsp => ?_) (fun e s1 he => he)
  · -- the catch
    obtain ⟨a, B, sI, pins', σ', H', cls, d, rfl, J', nb, up, sky, na, os, ag, w⟩ := xx
    have J : Inv X pins σ' H' sI := J'.ofTry ok
    have sky' : Sky B (X.env :: X.outer) a (Zc cls d) X.env.locals s'.heap := by rw [← hs]; exact sky
    show wpAny (model X.prog X.w) X.A (noteFrame (.ref a) X.env) _ _ _
    refine Sky.land Zc.steady hfr hf sky' fun h3 fl3 up3 => ?_
    have J3 : Inv X pins σ' H' { s' with heap := h3 } := J.landed nb fl3.1 (up.trans up3) os ag
    obtain ⟨oe3, vs3, he3, hz3, hd3⟩ := fl3.there
    have notFr : ∀ {h : Heap} {o : Obj} {vs : Array Value}, h.FunFrames B (X.env :: X.outer) → h.get? a = some o → o.data = .fields vs → a ∉ frs (X.env :: X.outer) := fun {h o vs} ff e dd hm => by
      obtain ⟨_, o', e', hnf⟩ := ff.mem hm
      rw [e] at e'; cases e'
      exact hnf _ dd
    have nfr := notFr fl3.2.2.1 he3 hd3
    have nL : a ≠ X.env.locals := fun z => nfr (List.mem_filterMap.mpr ⟨X.env, List.mem_cons_self, by rw [hf, z]⟩)
    have nF : a ∉ X.fs := fun hm => by
      obtain ⟨e, he, q⟩ := List.mem_filterMap.mp hm
      exact nfr (List.mem_filterMap.mpr ⟨e, List.mem_cons_of_mem _ he, q⟩)
    have S3 := J3.suite he3 hd3 na nL nF
    have go : ∀ {hds' : List ExceptHandler} {l' : List Hd3}, HdsAs X hds' l' → wManyAs X.K Wout D l' cls d σ' H' →
        wpAny (model X.prog X.w) X.A (handleBy (.ref a) X.env hds') (SP X pins D) X.xe { s' with heap := h3 } := by
      intro hds' l' hk
      induction hk with
      | nil =>
        intro w
        refine wpAny_handleBy_nil ?_
        obtain ⟨k1, k2, k3, oe, vs, T, oT, ts', he, hz, hd, h1, hr⟩ := id fl3
        unfold PySem.passOn
        refine wpAny_bind (wpAny_field he hd h1 ?_)
        rw [if_neg (show ¬ ((Value.ref T == Value.none) = true) from by simp)]
        have fin : wpAny (model X.prog X.w) X.A (setFlight (.ref a) X.env.frame) (fun _ s4 => wpAny (model X.prog X.w) X.A (throw (.ref a) : Sem Flow) (SP X pins D) X.xe s4) X.xe { s' with heap := h3 } := by
          rw [hf]
          refine HandSPX.setFlight_upZ fl3 fun h4 hh4 up4 => wpAny_throw (tk _ _ ?_)
          exact ⟨a, B, sI, pins, σ', H', cls, d, rfl, J, nb, (up.trans up3).trans up4, .inr (.inr (by rw [hs]; exact hh4)), na, os, ag, w⟩
        first
          | exact wpAny_bind (wpAny_pure (wpAny_bind fin))
          | exact wpAny_bind fin
      | @cons x n c i ts b₀ suite np pos' hds2 l2 hi hln hc hsu r ih =>
        intro w
        obtain ⟨b, hb1, hyes, hno⟩ := w
        have hloc : Loc X.env.scope n := .inl hln
        refine wpAny_handleBy_cons (codeAny_handlers_test ?_) (by intro q; cases q)
        have LT : PySem.W.Looks (model X.prog X.w) h3 (typeOf (.ref a)) cls := fun A Q E s k q => wpAny_typeOf_ref (k _ _ he3) (by rw [hz3.1]; exact q)
        have LM := PySem.W.exm_one (M := model X.prog X.w) (J3.kIn) LT hb1
        have test : ∀ {Q : Value → Shared → Prop} {E : Value → Shared → Prop}, Q c { s' with heap := h3 } → wpAny (model X.prog X.w) (X.A.mark (some (.ref a))) (eval (.Name x np) X.env) Q E { s' with heap := h3 } := fun {Q E} q => by
          obtain ⟨hg, hdbg, hm | ⟨hm, hv, hnn⟩⟩ := hc
          · exact ld_glob (X := X.suite a ((a, oe3) :: (X.pn ++ pins))) S3 hg hm q hdbg
          · exact ld_blt (X := X.suite a ((a, oe3) :: (X.pn ++ pins))) S3 hg hm hv q hnn hdbg
        refine test (LM.here ?_)
        cases b with
        | true =>
          refine codeAny_handlers_suite_as ?_
          refine HandSPX.lands_againZ fl3 fun h4 fl4 up4 => ?_
          have J4 : Inv X pins σ' H' { s' with heap := h4 } := J.landed nb fl4.1 ((up.trans up3).trans up4) os ag
          obtain ⟨oe4, vs4, he4, hz4, hd4⟩ := fl4.there
          have S4 := J4.suite he4 hd4 na nL nF
          refine store_ok (X := X.suite a ((a, oe4) :: (X.pn ++ pins))) (v := .ref a) S4 hN hi hloc rfl (fun s5 S5 => ?_) (.inr hln)
          refine wpAny_mono ((hsu a oe4 cls d (X.pn ++ pins) hz4 ⟨_, hd4⟩).run [] s5 _ H' _ S5 (hyes rfl a na)) (fun f s6 hsp => ?_) (fun _ _ z => False.elim z)
          have end_ : ∀ {σ6 : St} {H6 : Hp} {Q : Shared → Prop}, Inv (X.suite a ((a, oe4) :: (X.pn ++ pins))) [] σ6 H6 s6 → (∀ s7, Inv X pins (σ6.set i none) H6 s7 → Q s7) →
              wpAny (model X.prog X.w) X.A (do bindName X.env n .none; unbindBehindTheSuite X.env n pos') (fun _ s7 => Q s7) X.xe s6 := fun {σ6 H6 Q} S6 hq => gone_ok (S6.unsuite ok) hN hi hln hq
          cases f with
          | next =>
            obtain ⟨σ6, H6, S6, q6⟩ := hsp
            exact end_ S6 fun s7 J7 => ⟨_, _, J7, q6⟩
          | brk =>
            obtain ⟨σ6, H6, S6, q6⟩ := hsp
            exact end_ S6 fun s7 J7 => ⟨_, _, J7, q6⟩
          | cont =>
            obtain ⟨σ6, H6, S6, q6⟩ := hsp
            exact end_ S6 fun s7 J7 => ⟨_, _, J7, q6⟩
          | ret u =>
            obtain ⟨v6, σ6, H6, S6, r6, q6⟩ := hsp
            exact end_ S6 fun s7 J7 => ⟨_, _, _, J7, r6, q6⟩
        | false =>
          show wpAny _ X.A (handleBy (.ref a) X.env hds2) _ _ _
          exact ih (hno rfl)
    exact go hh w
  · cases f with
    | next =>
      obtain ⟨σ', H', J', q⟩ := hsp
      exact wpAny_execs_nil ⟨σ', H', J'.ofTry ok, q⟩
    | brk =>
      obtain ⟨σ', H', J', q⟩ := hsp
      exact ⟨σ', H', J'.ofTry ok, q⟩
    | cont =>
      obtain ⟨σ', H', J', q⟩ := hsp
      exact ⟨σ', H', J'.ofTry ok, q⟩
    | ret u =>
      obtain ⟨v, σ', H', J', r, q⟩ := hsp
      exact ⟨v, σ', H', J'.ofTry ok, r, q⟩
end
end L2
end
section
set_option maxHeartbeats 4000000
namespace PySem.W
open PySem PySem.Spec PySem.Calls PyProof.Rows
abbrev kld_fn (name qual : Str) (params : Arguments) (body : Expr) (scope : Scope) (cl : List (Str × Addr)) (dV pm cdv ct : Value) : FuncData :=
  { name, qualname := qual, params, body := .expr body, scope, globals := mainGlobals, closure := cl, defaults := dV, kwdefaults := .none, doc := .none, pyModule := pm, annotations := none, code := cdv, closureTuple := ct, builtins := builtinsNs }
abbrev kld_obj (name qual : Str) (params : Arguments) (body : Expr) (scope : Scope) (clos : List (Str × Addr)) (dV pm : Value) (c' : Addr) (ctv : Value) : Obj :=
  { cls := .type "function", data := .func (kld_fn name qual params body scope clos dV pm (.ref c') ctv) }
section
variable {M : Model} {A : Around} {E : Value → Shared → Prop} {s : Shared} {name qual : Str} {params : Arguments} {body : Expr} {scope : Scope} {env : Env} {c P : Addr} {ps : Array Value} {pos : Pos} {firstLine : Nat} {mg : Str → Option Value}
  {clos : List (Str × Addr)} {dV : Value} {Q : Value → Shared → Prop}
theorem kld_makeTail (hcl : closureFor scope env = pure clos) (hge0 : env.globals = mainGlobals) (hg : s.heap.Ns mainGlobals mg) (hcode : env.code = .ref c) (C : CodeHd s.heap c P) (hP : s.heap.get? P = some (tabObj ps)) (ht : TriplesOk ps.toList)
    (hnf : codeAmong pos ps.toList = none) (hgP : mainGlobals ≠ P) (hb : s.heap.BuiltinsAt mg P)
    (h : ∀ c' ctv h' tk, Heap.ExtBut P s.heap h' → s.heap.objs.size ≤ c' → c' < h'.objs.size → h'.CodeRec (.ref c') qual → h'.get? P = some (tabObj (ps ++ #[rawInt pos.line, rawInt pos.col, .ref c'])) →
      Q (.ref h'.objs.size) { s with heap := h'.push (kld_obj name qual params body scope clos dV ((mg "__name__").getD .none) c' ctv), toks := tk }) :
    wpAny M A (makeTail name qual params (.expr body) scope env dV .none none pos firstLine) Q E s := by
  obtain ⟨bm, ob, hbm, hne0, _, hneP, hbo, hcls, hdict, hdata⟩ := hb
  unfold makeTail
  rw [hcl, hge0]
  refine wpAny_bind (wpAny_pure ?_)
  cases clos with
  | nil =>
    simp only [List.isEmpty_nil, if_true]
    refine wpAny_bind (wpAny_pure ?_)
    refine wpAny_bind (wpAny_functionCodeX hcode (C.code hP ht) (C.tab hP) hnf fun c' h' tk hx hge hlt _ hrec htb _ => ?_)
    have hg' := hg.extBut hx hgP
    refine wpAny_bind (wpAny_builtinsFor hg' hbm hne0 (hx _ _ hneP hbo) hcls hdict hdata ?_)
    refine wpAny_bind (wpAny_nsGet hg' ?_)
    exact wpAny_bind (wpAny_pure (wpAny_newObj_type (h c' .none h' tk hx hge hlt hrec htb.2) (by size_fits)))
  | cons q r =>
    simp only [List.isEmpty_cons, Bool.false_eq_true, if_false]
    refine wpAny_bind (wpAny_newTextTuple ?_)
    refine wpAny_bind (wpAny_functionCodeX hcode ((C.keeps fun b o e => Heap.get?_push_of_some _ e).code (Heap.get?_push_of_some _ hP) ht) ((C.keeps fun b o e => Heap.get?_push_of_some _ e).tab (Heap.get?_push_of_some _ hP)) hnf fun c' h' tk hx hge hlt _ hrec htb _ => ?_)
    have hg' := (hg.push _).extBut hx hgP
    have hx' : Heap.ExtBut P s.heap h' := fun b o hb' e => hx b o hb' (Heap.get?_push_of_some _ e)
    have hge' : s.heap.objs.size ≤ c' := Nat.le_trans (by rw [Heap.size_push]; omega) hge
    refine wpAny_bind (wpAny_builtinsFor hg' hbm hne0 (hx' _ _ hneP hbo) hcls hdict hdata ?_)
    refine wpAny_bind (wpAny_nsGet hg' ?_)
    exact wpAny_bind (wpAny_pure (wpAny_newObj_type (h c' _ h' tk hx' hge' hlt hrec htb.2) (by size_fits)))
theorem kld_makeTailHit {cv : Value} (hcl : closureFor scope env = pure clos) (hge0 : env.globals = mainGlobals) (hg : s.heap.Ns mainGlobals mg) (hcode : env.code = .ref c) (C : CodeHd s.heap c P) (hP : s.heap.get? P = some (tabObj ps)) (ht : TriplesOk ps.toList)
    (hf : codeAmong pos ps.toList = some cv) (hb : s.heap.BuiltinsAt mg P)
    (h : ∀ (ctv : Value) (h' : Heap) (tk : Tok), (∀ b o, s.heap.get? b = some o → h'.get? b = some o) → s.heap.objs.size ≤ h'.objs.size →
      Q (.ref h'.objs.size) { s with heap := h'.push { cls := .type "function", data := .func (kld_fn name qual params body scope clos dV ((mg "__name__").getD .none) cv ctv) }, toks := tk }) :
    wpAny M A (makeTail name qual params (.expr body) scope env dV .none none pos firstLine) Q E s := by
  obtain ⟨bm, ob, hbm, hne0, _, hneP, hbo, hcls, hdict, hdata⟩ := hb
  unfold makeTail
  rw [hcl, hge0]
  refine wpAny_bind (wpAny_pure ?_)
  cases clos with
  | nil =>
    simp only [List.isEmpty_nil, if_true]
    refine wpAny_bind (wpAny_pure ?_)
    refine wpAny_bind (wpAny_functionCode_hit hcode (C.code hP ht) hf ?_)
    refine wpAny_bind (wpAny_builtinsFor hg hbm hne0 hbo hcls hdict hdata ?_)
    refine wpAny_bind (wpAny_nsGet hg ?_)
    exact wpAny_bind (wpAny_pure (wpAny_newObj_type (h .none s.heap s.toks (fun _ _ e => e) (Nat.le_refl _)) (by size_fits)))
  | cons q r =>
    simp only [List.isEmpty_cons, Bool.false_eq_true, if_false]
    refine wpAny_bind (wpAny_newTextTuple ?_)
    refine wpAny_bind (wpAny_functionCode_hit hcode ((C.keeps fun b o e => Heap.get?_push_of_some _ e).code (Heap.get?_push_of_some _ hP) ht) hf ?_)
    refine wpAny_bind (wpAny_builtinsFor (hg.push _) hbm hne0 (Heap.get?_push_of_some _ hbo) hcls hdict hdata ?_)
    refine wpAny_bind (wpAny_nsGet (hg.push _) ?_)
    have hsz : ∀ oT : Obj, s.heap.objs.size ≤ (s.heap.push oT).objs.size := fun oT => by rw [Heap.size_push]; omega
    exact wpAny_bind (wpAny_pure (wpAny_newObj_type (h _ _ s.toks (fun b o e => Heap.get?_push_of_some _ e) (hsz _)) (by size_fits)))
end
end PySem.W
namespace LamX
open PySem PySem.Spec PyProof.Rows L2
section
variable {X : Cx} {pins : List (Addr × Obj)} {σ : L2.St} {H : Hp} {s : Shared}
/-- the lambda's object is made, its defaults at dV -/
theorem lam_tail {T : List (Addr × Str)} {c P : Addr} {params : Arguments} {body : Expr} {scope : Scope} {pos : Pos} {dV : Value} {E : Value → Shared → Prop} {Q : Value → Shared → Prop} (I : Inv X pins σ H s) (TB : TabB X.base X.mg c P) (hcode : X.env.code = .ref c)
    (hm : (P, X.env.qual ++ "<lambda>") ∈ T) (hu : ∀ p ∈ T, p.1 = P → p.2 = X.env.qual ++ "<lambda>") (hT : Tabs T H) (hfree : ∀ y ∈ scope.names, y.2 = .free → ∃ c, X.env.cells.lookup y.1 = some c)
    (h : ∀ (f c' : Addr) (pm ctv : Value) (H1 : Hp) (s' : Shared), Inv X pins σ H1 s' → ExtN H H1 → Tabs T H1 →
      s'.heap.get? f = some (PySem.W.kld_obj "<lambda>" (X.env.qual ++ "<lambda>") params body scope (cloFrom X.env.cells scope.names []) dV pm c' ctv) → H1 f = none → f ∉ frs X.stack → H1 c' = some (CodeO c' (X.env.qual ++ "<lambda>")) → Q (.ref f) s') :
    wpAny (model X.prog X.w) X.A (makeTail "<lambda>" (X.env.qual ++ "<lambda>") params (.expr body) scope X.env dV .none none pos pos.line) Q E s := by
  obtain ⟨ps, hP, ht, ha⟩ := hT _ hm
  have bP : s.heap.BuiltinsAt X.mg P := TB.bm.keeps I.bk
  have hP' : s.heap.get? P = some { cls := .none, data := .fields ps } := I.hok P _ hP
  have nofr : ∀ f, s.heap.objs.size ≤ f → f ∉ frs X.stack := fun f hf z => by
    rcases List.mem_cons.mp (I.stkSub _ z) with e | e
    · have h1 := I.lt
      rw [← e] at h1
      exact Nat.lt_irrefl _ (Nat.lt_of_lt_of_le h1 hf)
    · exact I.nofs hf e
  cases hc : codeAmong pos ps.toList with
  | none =>
    refine PySem.W.kld_makeTail (mg := X.mg) (c := c) (P := P) (ps := ps) (closure_ok hfree) I.ok.glob (I.mod.glob.keeps I.bk) hcode (TB.code.keeps I.bk) hP' ht hc TB.gP bP fun c' ctv h' tk hx hge hlt hrec htb => ?_
    obtain ⟨c2, oc, vs, t, e2, hoc, hd, hv⟩ := hrec
    cases e2
    have hsz : s.heap.objs.size ≤ h'.objs.size := Nat.le_trans hge (Nat.le_of_lt hlt)
    have nC : H c' = none := I.hok.fresh hge
    have I1 := inv_table (t' := tk) (more := #[rawInt pos.line, rawInt pos.col, .ref c']) (h' := h'.push (PySem.W.kld_obj "<lambda>" (X.env.qual ++ "<lambda>") params body scope (cloFrom X.env.cells scope.names []) dV ((X.mg "__name__").getD .none) c' ctv)) I hP
      (fun b o hb e => Heap.get?_push_of_some _ (hx b o hb e)) (Heap.get?_push_of_some _ htb) hge ⟨oc, vs, t, Heap.get?_push_of_some _ hoc, hd, hv⟩
    have hE : ExtN H (upd (upd H P (.tbl (ps ++ #[rawInt pos.line, rawInt pos.col, .ref c']))) c' (CodeO c' (X.env.qual ++ "<lambda>"))) := fun b o e n => by
      rw [upd_ne (ne_of_none e nC), upd_ne (fun z => n ps (Option.some.inj (e.symm.trans (by rw [z]; exact hP))))]
      exact e
    have eL : (ps ++ #[rawInt pos.line, rawInt pos.col, .ref c']).toList = ps.toList ++ [rawInt pos.line, rawInt pos.col, .ref c'] := by simp
    refine h h'.objs.size c' ((X.mg "__name__").getD .none) ctv _ _ I1 hE (fun p hp => ?_) (Heap.get?_push_size _ rfl) ?_ (nofr _ hsz) upd_same
    · by_cases hb : p.1 = P
      · rw [hu p hp hb, hb]
        refine ⟨_, by rw [upd_ne (ne_of_none hP nC), upd_same], by rw [eL]; exact PySem.TriplesOk_snoc _ _ _ _ ht, fun p' cv hcv => ?_⟩
        rw [eL] at hcv
        rcases among_app _ ht hcv with z | z
        · obtain ⟨c0, e1, e2⟩ := ha p' cv z
          exact ⟨c0, e1, hE _ _ e2 codeO_ne⟩
        · exact ⟨c', z, upd_same⟩
      · obtain ⟨ps', a1, a2, a3⟩ := hT p hp
        refine ⟨ps', by rw [upd_ne (ne_of_none a1 nC), upd_ne hb]; exact a1, a2, fun p' cv hcv => ?_⟩
        obtain ⟨c0, e1, e2⟩ := a3 p' cv hcv
        exact ⟨c0, e1, hE _ _ e2 codeO_ne⟩
    · have n1 : h'.objs.size ≠ c' := Nat.ne_of_gt hlt
      have n2 : h'.objs.size ≠ P := Nat.ne_of_gt (Nat.lt_of_lt_of_le (Heap.lt_size hP') hsz)
      rw [upd_ne n1, upd_ne n2]
      exact I.hok.fresh hsz
  | some cv =>
    obtain ⟨c', e, hco⟩ := ha pos cv hc
    subst e
    refine PySem.W.kld_makeTailHit (mg := X.mg) (c := c) (P := P) (ps := ps) (closure_ok hfree) I.ok.glob (I.mod.glob.keeps I.bk) hcode (TB.code.keeps I.bk) hP' ht hc bP fun ctv h' tk hx hsz => ?_
    have I1 : Inv X pins σ H { s with heap := h'.push (PySem.W.kld_obj "<lambda>" (X.env.qual ++ "<lambda>") params body scope (cloFrom X.env.cells scope.names []) dV ((X.mg "__name__").getD .none) c' ctv), toks := tk } := I.kept fun b o e => Heap.get?_push_of_some _ (hx b o e)
    exact h h'.objs.size c' ((X.mg "__name__").getD .none) ctv H _ I1 (ExtN.refl H) hT (Heap.get?_push_size _ rfl) (I.hok.fresh hsz) (nofr _ hsz) hco
/-- lambda x=k: body -/
theorem lam_makeD {T : List (Addr × Str)} {c P : Addr} {params : Arguments} {body : Expr} {scope : Scope} {pos cp : Pos} {k : Int} {j : Nat} {E : Value → Shared → Prop} {Q : Value → Shared → Prop} (I : Inv X pins σ H s) (TB : TabB X.base X.mg c P) (hcode : X.env.code = .ref c)
    (hm : (P, X.env.qual ++ "<lambda>") ∈ T) (hu : ∀ p ∈ T, p.1 = P → p.2 = X.env.qual ++ "<lambda>") (hT : Tabs T H) (hdef : defaultsOf params X.env = ([eval (.Constant (.int k) j cp) X.env], [])) (hfree : ∀ y ∈ scope.names, y.2 = .free → ∃ c, X.env.cells.lookup y.1 = some c)
    (h : ∀ (f c' tu : Addr) (pm ctv : Value) (H1 : Hp) (s' : Shared), Inv X pins σ H1 s' → ExtN H H1 → Tabs T H1 → H1 tu = some (.tup [.int k]) →
      s'.heap.get? f = some (PySem.W.kld_obj "<lambda>" (X.env.qual ++ "<lambda>") params body scope (cloFrom X.env.cells scope.names []) (.ref tu) pm c' ctv) → H1 f = none → f ∉ frs X.stack → H1 c' = some (CodeO c' (X.env.qual ++ "<lambda>")) → Q (.ref f) s') :
    wpAny (model X.prog X.w) X.A (eval (.Lambda params body scope pos) X.env) Q E s := by
  rw [arm_eval_Lambda, hdef]
  show wpAny _ _ (do let dv ← evalAll [eval (.Constant (.int k) j cp) X.env]; let kdv ← holding dv (evalAllOpt []); makeFunction "<lambda>" (X.env.qual ++ "<lambda>") params (.expr body) scope X.env dv kdv [] pos pos.line) Q E s
  refine wpAny_bind (wpAny_evalAll_cons (thn ((pe_int (X := X) (i := k) (j := j) (pos := cp)).run pins s σ H (fun v H' => v = .int k ∧ H' = H) I ⟨rfl, rfl⟩) fun u s1 ⟨v, H1, I1, r1, e1, e2⟩ => wpAny_evalAll_nil ?_))
  subst e1
  rw [e2] at I1
  refine wpAny_bind (wpAny_holding (wpAny_pure ?_))
  rw [makeFunction_eq]
  simp only [List.zip_nil_right, List.filterMap_nil, List.isEmpty_nil, List.isEmpty_cons, if_true, pure_bind, Bool.false_eq_true, if_false]
  refine wpAny_bind (wpAny_newTextTuple ?_)
  have nt : H s1.heap.objs.size = none := I1.hok.fresh (Nat.le_refl _)
  have I2 : Inv X pins σ (upd H s1.heap.objs.size (.tup [.int k])) { s1 with heap := s1.heap.push { cls := .type "tuple", data := .seq [u].toArray } } :=
    I1.laid (t' := s1.toks) (a := s1.heap.objs.size) (o := .tup [.int k]) (fun b u q => Heap.get?_push_of_some _ q) (Nat.le_refl _) ⟨by show 1 ≤ sizeLine; decide, [u], .cons r1 .nil, _, Heap.get?_push_size _ rfl, rfl, _, rfl⟩
  have eH : ∀ b o, H b = some o → upd H s1.heap.objs.size (.tup [.int k]) b = some o := fun b o e => by rw [upd_ne (ne_of_none e nt)]; exact e
  refine lam_tail I2 TB hcode hm hu (hT.ext eH) hfree fun f c' pm ctv H3 s3 I3 hE hT3 ho hn hfr hc => ?_
  have ht : H3 s1.heap.objs.size = some (.tup [.int k]) := hE _ _ upd_same fun ps z => by cases z
  exact h f c' s1.heap.objs.size pm ctv H3 s3 I3 ((ExtN.of eH).trans hE) hT3 ht ho hn hfr hc
end
end LamX
end
section
set_option maxHeartbeats 4000000
namespace LamX
open PySem PySem.Spec PyProof.Rows L2
/-- one parameter with a default, no further name of its own -/
structure LamD (N : List Str) (sc scope : Scope) (px : Str) : Prop where
  kind : scope.kind = .function
  co : scope.isCoroutine = false
  gen : scope.isGenerator = false
  own : ∀ y ∈ scope.names, y.2 ≠ .cell ∧ (y.2 = .local → y.1 ∉ N)
  par : scope.names.lookup px = some .local
  free : ∀ y ∈ scope.names, y.2 = .free → sc.names.lookup y.1 = some .cell ∨ sc.names.lookup y.1 = some .free
def lamDB (N : List Str) (sc scope : Scope) (px : Str) : Bool :=
  decide (scope.kind = .function) && (!scope.isCoroutine && (!scope.isGenerator && (decide (scope.names.lookup px = some .local) &&
    scope.names.all fun y => !decide (y.2 = .cell) && ((!decide (y.2 = .local) || !N.contains y.1) && (!decide (y.2 = .free) || decide (sc.names.lookup y.1 = some .cell) || decide (sc.names.lookup y.1 = some .free))))))
theorem lamD_by {N : List Str} {sc scope : Scope} {px : Str} (h : lamDB N sc scope px = true) : LamD N sc scope px := by
  unfold lamDB at h
  simp only [Bool.and_eq_true, Bool.or_eq_true, Bool.not_eq_true', decide_eq_true_eq, decide_eq_false_iff_not, List.all_eq_true] at h
  obtain ⟨h1, h2, h3, h4, h5⟩ := h
  refine ⟨h1, h2, h3, fun y hy => ⟨(h5 y hy).1, fun e => ?_⟩, h4, fun y hy e => ?_⟩
  · rcases (h5 y hy).2.1 with z | z
    · exact absurd e z
    · intro m
      rw [List.contains_iff_mem.mpr m] at z
      cases z
  · rcases (h5 y hy).2.2 with (z | z) | z
    · exact absurd e z
    · exact .inl z
    · exact .inr z
theorem LamD.has {X : Cx} {scope : Scope} {px : Str} (L : LamD X.N X.env.scope scope px) (ok : X.Ok) : ∀ y ∈ scope.names, y.2 = .free → ∃ c, X.env.cells.lookup y.1 = some c := fun y hy e => by
  rcases L.free y hy e with k | k
  · exact ok.has _ (.inl k)
  · exact ok.has _ (.inr k)
section
variable {X : Cx} {pins : List (Addr × Obj)} {σ : L2.St} {H HZ : Hp} {s s1 : Shared}
theorem lam_startD {A : Around} {outer : List Env} {E : XK} {scope : Scope} {px : Str} {u : Value} {f c' : Addr} {h₁ : Heap} {tk : Nat} (I : Inv X pins σ H s) (L : LamD X.N X.env.scope scope px) (e0 : Env0 X.prog X.w X.K X.mg X.base A outer s1 HZ) (hd : A.handled = none)
    (un : Un (frs X.stack) [] H HZ s.heap s1.heap) (hns : h₁.Ns s1.heap.objs.size fun y => ([(px, u)] : List (Str × Value)).reverse.lookup y) (kp : ∀ b o, s1.heap.get? b = some o → h₁.get? b = some o) :
    Inv (lamCx X A outer s1 HZ E scope f c') [] σ HZ { s1 with heap := h₁, toks := tk } := by
  have hfree := L.has I.ok
  have cm : ∀ {y c}, (cloFrom X.env.cells scope.names []).lookup y = some c → X.env.cells.lookup y = some c := fun {y c} e => by
    rcases cloFrom_mem (PySem.mem_of_lookup e) with hm | ⟨h1, h2⟩
    · cases hm
    · obtain ⟨c1, hc⟩ := hfree _ h1 rfl
      have hc : X.env.cells.lookup y = some c1 := hc
      have e2 : c = c1 := by
        rw [h2, hc] <;> rfl
      rw [e2]
      exact hc
  have look : ∀ {y}, scope.names.lookup y = some .free → ∃ c, (cloFrom X.env.cells scope.names []).lookup y = some c := fun {y} hl => by
    have hy : (y, NameKind.free) ∈ scope.names := PySem.mem_of_lookup hl
    exact mem_lookup (cloFrom_has (cells := X.env.cells) (acc := []) hy)
  have cellK : ∀ {c : Addr} {v : Option Value}, H c = none → s.heap.IsCell c v → h₁.IsCell c v := fun {c v} n ⟨o, ho, hd⟩ => by
    obtain ⟨sl, q⟩ := un.any ho n (by simp)
    exact ⟨_, kp _ _ q, hd⟩
  have noA : ∀ b : Addr, b ∉ (lamCx X A outer s1 HZ E scope f c').ex := fun b z => absurd (show b ∈ ([] : List Addr) from z) (by simp)
  refine ⟨⟨e0.mod, L.kind, rfl, rfl, Nat.le_refl _, fun y z c e1 e2 => I.ok.inj y z c (cm e1) (cm e2), fun y hy => ?_, fun y c z _ => ?_, fun _ => hd, Around.frames_deeper e0.frames, .inr ⟨rfl, rfl⟩, fun b z => absurd z (noA b), e0.bs, e0.bsz, fun b _ _ => noA b,
      fun b z => absurd z (noA b), e0.funs, e0.frf⟩,
    rfl, e0.bare, Un.kept kp, ⟨_, hns, fun i y v e1 e2 e3 => ?_⟩, fun y c e => ?_, e0.hok.fresh (Nat.le_refl _), fun y c e => ?_, fun q hq => absurd (show q ∈ ([] : List (Addr × Obj)) ++ [] from hq) (by simp), e0.hok.kept kp, I.len⟩
  · have hy : scope.names.lookup y = some .cell ∨ scope.names.lookup y = some .free := hy
    rcases hy with hy | hy
    · exact absurd rfl (L.own _ (PySem.mem_of_lookup hy)).1
    · exact look hy
  · have z : false = true := z
    cases z
  · have e3 : Vis scope y := e3
    rcases e3 with k | k | k
    · exact absurd (List.mem_of_getElem? (show X.N[i]? = some y from e1)) ((L.own _ (PySem.mem_of_lookup k)).2 rfl)
    · exact absurd rfl (L.own _ (PySem.mem_of_lookup k)).1
    · obtain ⟨m, hn, hl⟩ := I.loc
      have hvis : Vis X.env.scope y := (L.free _ (PySem.mem_of_lookup k) rfl).elim (fun k => .inr (.inl k)) (fun k => .inr (.inr k))
      obtain ⟨w', r, q⟩ := hl i y v e1 e2 hvis
      obtain ⟨c2, h2⟩ := look k
      refine ⟨w', r, .inr ⟨.inr k, c2, h2, ?_⟩⟩
      have c1 := cm h2
      rcases q with ⟨k', _⟩ | ⟨_, c3, e', z⟩
      · have k' : X.env.scope.names.lookup y = some .local := k'
        rcases L.free _ (PySem.mem_of_lookup k) rfl with k2 | k2 <;> rw [show X.env.scope.names.lookup y = _ from k2] at k' <;> cases k'
      · rw [c1] at e'
        cases e'
        exact cellK (I.freeC y _ c1) z
  · obtain ⟨w', z⟩ := I.cell y c (cm e)
    exact ⟨w', cellK (I.freeC y c (cm e)) z⟩
  · obtain ⟨v, o, ho, hd⟩ := I.cell y c (cm e)
    exact un.free c o ho (I.freeC y c (cm e)) (by simp)
/-- x(), in the def that got the lambda -/
theorem pe_actD {CXg : CXT} {Eg : XK} {Ng : List Str} {qg : Str} {sg : Scope} {g f c' tu : Addr} {px : Str} {kd : Int} {cdg pm ctv : Value} {params : Arguments} {body : Expr} {scope : Scope} {k i : Nat} {a : Str} {pn : List (Addr × Obj)} {xe : Value → Shared → Prop} {W : WX} {E : XK} {tb : TE} {p1 p2 : Pos}
    (I : Inv X pins σ H s) (L : LamD X.N X.env.scope scope px) (hf : s.heap.get? f = some (PySem.W.kld_obj "<lambda>" (X.env.qual ++ "<lambda>") params body scope (cloFrom X.env.cells scope.names []) (.ref tu) pm c' ctv)) (hfn : H f = none) (hfr : f ∉ frs X.stack)
    (hbind : ∀ u : Value, ∃ kf, bindArgs (PySem.W.kld_fn "<lambda>" (X.env.qual ++ "<lambda>") params body scope (cloFrom X.env.cells scope.names []) (.ref tu) pm (.ref c') ctv) ⟨[], []⟩ = seqItems? (.ref tu) >>= kf ∧ kf (some #[u]) = pure [(px, u)])
    (tk : Takes ((cxOf CXg X.prog X.w X.K X.mg X.base Ng qg sg g cdg X.A X.stack s H Eg).tr pn xe) W) (hW : ∀ cls d σ' H', E cls d H' → W cls d σ' H') (hr : Room (k + 1) (X.A.deeper (envOfC qg sg s.heap.objs.size g cdg)))
    (hbody : ∀ (A : Around) (outer : List Env) (s : Shared) (H : Hp), Room k (A.deeper (lamEnv X scope s.heap.objs.size f c')) → PE (lamCx X A outer s H E scope f c') body tb)
    (hN : Ng[i]? = some a) (hv : Vis sg a) (hd : (a == ("__debug__" : Str)) = false := by decide) (hcd : (a == ("__classdict__" : Str)) = false := by decide) :
    PE ((cxOf CXg X.prog X.w X.K X.mg X.base Ng qg sg g cdg X.A X.stack s H Eg).tr pn xe) (.Call (.Name a p1) [] [] p2)
      (fun σZ HZ Q => σZ[i]? = some (some (.ref f)) ∧ HZ c' = some (CodeO c' (X.env.qual ++ "<lambda>")) ∧ (HZ tu = some (.tup [.int kd]) ∧ tb σ HZ Q)) := by
  refine ⟨fun pinsZ sZ σZ HZ Q IZ h => ?_⟩
  obtain ⟨hs, hc, htu, ht⟩ := h
  refine wpAny_Call_Name_kw (thn ((pe_var (pos := p1) (i := i) hN hv hd hcd).run pinsZ sZ σZ HZ (fun v H1 => v = .ref f ∧ H1 = HZ) IZ ⟨.ref f, hs, rfl, rfl⟩) fun u s1 ⟨v, H1, I1, r1, q1⟩ => ?_)
  obtain ⟨ev, eH⟩ := q1
  subst ev
  rw [eH] at I1
  obtain rfl : u = Value.ref f := r1
  have of1 : s1.heap.get? f = some (PySem.W.kld_obj "<lambda>" (X.env.qual ++ "<lambda>") params body scope (cloFrom X.env.cells scope.names []) (.ref tu) pm c' ctv) := I1.base.keep f _ hf hfn hfr (fun z => nomatch (show f ∈ ([] : List Addr) from z))
  refine PySem.W.callWith_F0 ⟨_, _, _, _, of1⟩ ?_
  have un : Un (frs X.stack) [] H HZ s.heap s1.heap := I1.base
  obtain ⟨⟨oc, vs, t, hoc, hdc, hvc⟩, _, _⟩ := I1.hok c' _ hc
  have rc : codeAny (model X.prog X.w) (X.A.deeper (envOfC qg sg s.heap.objs.size g cdg)) (.call (.ref f) ⟨[], []⟩) (CR (L2.CX X.prog X.w) (envOfC qg sg s.heap.objs.size g cdg :: X.stack) X.prog X.w HZ s1 Q E) s1 := by
    refine PySem.W.kla_callFunE hr.depth of1 rfl L.co L.gen rfl ⟨c', oc, vs, t, rfl, hoc, hdc, hvc⟩ ?_
    obtain ⟨its, rv, hT, hz⟩ := I1.tuple (SqT.of htu)
    obtain ⟨ot, hot, _, n, hdt⟩ := hT
    cases rv with
    | @cons _ u _ us ru rn =>
      cases rn
      obtain ⟨kf, hb1, hb2⟩ := hbind u
      refine BindsTo.of_defaults (fd := PySem.W.kld_fn "<lambda>" (X.env.qual ++ "<lambda>") params body scope (cloFrom X.env.cells scope.names []) (.ref tu) pm (.ref c') ctv) (args := ⟨[], []⟩) (o := ot) (items := #[u]) rfl hot hdt hb1 hb2 _ _ _ _ ?_
      refine wpAny_newFunctionEnv (fun y hy => (L.own y hy).1) (fun y hy => ?_) (fun h₁ hns hsb => ⟨I1.nolimit.fresh _ hsb, ?_⟩) L.kind
      · rw [List.mem_singleton.mp hy]
        exact L.par
      show codeAny _ _ (.expr body (lamEnv X scope s1.heap.objs.size f c')) _ _
      have kp : ∀ b o, s1.heap.get? b = some o → h₁.get? b = some o := fun b o e => hsb.extBut b o (Nat.ne_of_lt (Heap.lt_size e)) (Heap.get?_push_of_some _ e)
      have J : Inv (lamCx X (X.A.deeper (envOfC qg sg s.heap.objs.size g cdg)) (envOfC qg sg s.heap.objs.size g cdg :: X.stack) s1 HZ E scope f c') [] σ HZ { s1 with heap := h₁, toks := s1.toks + ([(px, u)] : List (Str × Value)).length } :=
        lam_startD I L I1.env0 hr.hd un hns kp
      refine PySem.W.kla_codeExpr (wpAny_mono ((hbody _ _ s1 HZ (hr.deeper _)).run [] _ _ HZ Q J ht) (fun v s' hq => ?_) fun e s' hq => hq)
      obtain ⟨w', H', J', rv, q⟩ := hq
      exact ⟨w', H', J'.os, J'.bare, J'.base, J'.hok, rv, q⟩
  have hx : Passes (L2.CX X.prog X.w) ((cxOf CXg X.prog X.w X.K X.mg X.base Ng qg sg g cdg X.A X.stack s H Eg).tr pn xe) E := passes_call tk hW
  refine wpAny_call (codeAny_mono rc fun r s' hq => ?_)
  cases r with
  | error e => exact hx pinsZ σZ HZ s1 e s' I1 hq
  | ok fl =>
    cases fl with
    | ret u => exact I1.after hq
    | next => exact False.elim hq
    | brk => exact False.elim hq
    | cont => exact False.elim hq
end
/-- x(lambda y=k: body): T's tables, the tuple of the default -/
def tLamD (T : List (Addr × Str)) (kd : Int) (TT : (XK → Hp → VK → Prop) → Hp → VK → Prop) (t : XK → TE) : TE := fun σ H Q => Tabs T H ∧ ∀ H1 tu, ExtN H H1 → Tabs T H1 → H1 tu = some (.tup [.int kd]) → TT (fun E H' Q' => H' tu = some (.tup [.int kd]) ∧ t E σ H' Q') H1 Q
section
variable {X : Cx}
theorem pe_lamcallD {T : List (Addr × Str)} {TT : (XK → Hp → VK → Prop) → Hp → VK → Prop} {x a px : Str} {g c P : Addr} {k j : Nat} {kd : Int} {pg : Arguments} {bg : List Stmt} {sg : Scope} {dV kV doc pm cdv ct oc : Value} {an od : Option Addr} {osl : Array (Option Value)} {Ng : List Str}
    {params : Arguments} {body : Expr} {scope : Scope} {t : XK → TE} {p lpos cp pos : Pos} (hg : Gl X x) (hm : X.mg x = some (.ref g)) (hk : PySem.W.keepIn X.K (.ref g) = true)
    (lk : X.K.lookup g = some ⟨oc, od, .func (PySem.W.fnOf x x pg bg sg dV kV doc pm an cdv ct), osl⟩) (hcg : PySem.W.codeIn X.K cdv x = true) (hb : L2.Binds X.K (PySem.W.fnOf x x pg bg sg dV kV doc pm an cdv ct) [a] []) (Sg : FnScope Ng [a] sg) (hNg : Ng[0]? = some a) (hva : Vis sg a)
    (hG : GivesTo X Ng x sg g cdv bg a (X.env.qual ++ "<lambda>") TT)
    (TB : TabB X.base X.mg c P) (hcode : X.env.code = .ref c) (hmT : (P, X.env.qual ++ "<lambda>") ∈ T) (hu : ∀ p ∈ T, p.1 = P → p.2 = X.env.qual ++ "<lambda>") (hr : Room (k + 2) X.A) (L : LamD X.N X.env.scope scope px) (hdef : defaultsOf params X.env = ([eval (.Constant (.int kd) j cp) X.env], []))
    (hbind : ∀ (q : Str) (cl : List (Str × Addr)) (tu : Addr) (pm cv ctv u : Value), ∃ kf, bindArgs (PySem.W.kld_fn "<lambda>" q params body scope cl (.ref tu) pm cv ctv) ⟨[], []⟩ = seqItems? (.ref tu) >>= kf ∧ kf (some #[u]) = pure [(px, u)])
    (hbody : ∀ (A : Around) (outer : List Env) (s : Shared) (H : Hp) (E : XK) (f c' : Addr), Room k (A.deeper (lamEnv X scope s.heap.objs.size f c')) → PE (lamCx X A outer s H E scope f c') body (t E))
    (hdb : (x == ("__debug__" : Str)) = false := by decide) (hd : (a == ("__debug__" : Str)) = false := by decide) (hcd : (a == ("__classdict__" : Str)) = false := by decide) :
    PE X (.Call (.Name x p) [.Lambda params body scope lpos] [] pos) (tLamD T kd TT t) := by
  refine ⟨fun pins s σ H Q I h => ?_⟩
  obtain ⟨hT, h⟩ := h
  refine wpAny_Call_Name_kw (ld_glob I hg hm ?_ hdb)
  refine PySem.W.callWith_K (h₀ := X.base) I.ok.mod.kin hk ?_ (by rfl) (by rfl)
  show wpAny _ _ (spliced ((false, eval (.Lambda params body scope lpos) X.env) :: backTo pos (starEach [] X.env))) _ _ s
  refine Calls.spliced_cons (lam_makeD I TB hcode hmT hu hT hdef (L.has I.ok) fun f c' tu pm' ctv H1 s' I1 eN T1 htu hf hfn hfr hco => ?_)
  refine Calls.spliced_nil ⟨I1.kIn, ?_⟩
  have rc : codeAny (model X.prog X.w) X.A (.call (.ref g) ⟨[.ref f], []⟩) (CR C8.CX0 X.stack X.prog X.w H1 s' Q C8.E0) s' := by
    refine run_ofS (N := Ng) (ps := [a]) (us := [.ref f]) (vs := [.ref f]) lk hcg Sg hr I1.env0 (hb s' [.ref f] I1.kIn rfl) (.cons rfl .nil) rfl fun hr' => ?_
    obtain ⟨t', ht', hq'⟩ := hG f c' s' H1 Q (fun E H' Q' => H' tu = some (.tup [.int kd]) ∧ t E σ H' Q') (fun W pn xe E p1 p2 tk hW => pe_actD (i := 0) I1 L hf hfn hfr (fun u => hbind _ _ _ _ _ _ u) tk hW hr' (fun A outer s H hr2 => hbody A outer s H E f c' hr2) hNg hva hd hcd) hco (h H1 tu eN T1 htu)
    exact ⟨t', ht'.nox, hq'⟩
  refine wpAny_call (codeAny_mono rc fun r s2 hq => ?_)
  cases r with
  | error e => exact (show False from hq).elim
  | ok fl =>
    cases fl with
    | ret u => exact I1.after hq
    | next => exact False.elim hq
    | brk => exact False.elim hq
    | cont => exact False.elim hq
end
end LamX
end
section
set_option maxHeartbeats 4000000
namespace Kq
open PySem PySem.Spec PyProof.Rows L2
/-- which of the two errors is caught, and what fault makes of it -/
def Flt (H : Hp) (CP CZ : Addr) (cls : Value) (d : Option Addr) (Q : VK) : Prop :=
  (cls = .ref CP ∧ ∃ (dd : Addr) (v : V), d = some dd ∧ H dd = some (.xd (fsP [v])) ∧ ∀ t H', Same H H' → H t = none → H' t = some (.lst [.str "InvalidPower", v]) → Q (.ref t) H') ∨
  (cls = .ref CZ ∧ ∃ dd : Addr, d = some dd ∧ H dd = some (.xd (fsZ [])) ∧ ∀ t H', Same H H' → H t = none → H' t = some (.lst [.str "DividedByZero"]) → Q (.ref t) H')
def spFlt (CP CZ : Addr) : Addr → Value → Option Addr → Sp := fun a cls d vs H Q _ => vs = [.ref a] ∧ Flt H CP CZ cls d Q
section
variable {P : Program} {w : World} {K : PySem.W.Frag} {mg : Str → Option Value} {base : Heap} {f CP CZ : Addr} {fd : FuncData}
theorem scFlt : FnScope ["_law_error"] ["_law_error"] (defScope (top 88)) := ⟨rfl, rfl, rfl, by decide +kernel, rfl, by decide +kernel, by decide +kernel⟩
theorem ok_fault (F : Fun K "_law_fault" "_law_fault" (top 88) f fd) (mI : mg "isinstance" = none) (ZP : ErrC P w K mg base "InvalidPower" 1 fsP CP) (ZZ : ErrC P w K mg base "DividedByZero" 0 fsZ CZ)
    (cP : PySem.W.findIn K (.ref CP) "code" = some none) (vP : PySem.W.findIn K (.ref CP) "value" = some none) (cZ : PySem.W.findIn K (.ref CZ) "code" = some none)
    (kPP : PySem.W.kitOne K (.ref CP) (.ref CP) = some true) (kZP : PySem.W.kitOne K (.ref CZ) (.ref CP) = some false) (kZZ : PySem.W.kitOne K (.ref CZ) (.ref CZ) = some true) :
    FnP P w K mg base C8.CX0 1 f fd ["_law_error"] (spFlt CP CZ) := by
  refine fn_ofP F scFlt (fun a cls d vs H Q E h => ?_) (fun cdv A outer s H vs Q E a oe cls d hz hf hr h => ?_)
  · obtain ⟨rfl, _⟩ := h
    rfl
  obtain ⟨rfl, h⟩ := h
  have hp : (a, oe) ∈ (L2H.cxH C8.CX0 P w K mg base ["_law_error"] "_law_fault" (defScope (top 88)) f cdv A outer s H E (a, oe)).pn := List.mem_cons_self
  have hrP : ∀ u, RelV (.ref CP) u → u = .ref CP := fun u e => e
  have hrZ : ∀ u, RelV (.ref CZ) u → u = .ref CZ := fun u e => e
  rcases h with ⟨rfl, dd, v, rfl, hd, q⟩ | ⟨rfl, dd, rfl, hd, q⟩
  · refine ⟨_, pss_cons (ps_if (pt_val (pe_callB (call_isP (dd := dd) hp ZP.T hz hf) rfl mI (by decide +kernel) (pa_cons (pv 0) (pa_cons (C8.pe_gc (v := .ref CP) rfl ⟨_, ZP.m, rfl⟩) pa_nil))))
      (pss_one (ps_ret (pe_lst (pa_cons (pe_xfP hp ZP.T cP hz hf (pv 0)) (pa_cons (pe_xfP hp ZP.T vP hz hf (pv 0)) pa_nil))))) pss_nil) (pss_cons ps_never (pss_one ps_never)), ?_⟩
    refine ⟨_, rfl, .ref CP, .ref CP, true, _, rfl, hd, hrP, kPP, _, rfl, iteT ?_⟩
    refine ⟨_, rfl, rfl, rfl, dd, _, _, rfl, hd, rfl, _, rfl, rfl, rfl, dd, _, _, rfl, hd, rfl, (by show 2 ≤ sizeLine; decide), fun t nt => q t _ (new_same nt _) nt upd_same⟩
  · refine ⟨_, pss_cons (ps_if (pt_val (pe_callB (call_isP (dd := dd) hp ZZ.T hz hf) rfl mI (by decide +kernel) (pa_cons (pv 0) (pa_cons (C8.pe_gc (v := .ref CP) rfl ⟨_, ZP.m, rfl⟩) pa_nil)))) (pss_one ps_never) pss_nil)
      (pss_cons (ps_if (pt_val (pe_callB (call_isP (dd := dd) hp ZZ.T hz hf) rfl mI (by decide +kernel) (pa_cons (pv 0) (pa_cons (C8.pe_gc (v := .ref CZ) rfl ⟨_, ZZ.m, rfl⟩) pa_nil))))
        (pss_one (ps_ret (pe_lst (pa_cons (pe_xfP hp ZZ.T cZ hz hf (pv 0)) pa_nil)))) pss_nil) (pss_one ps_never)), ?_⟩
    refine ⟨_, rfl, .ref CP, .ref CP, false, _, rfl, hd, hrP, kZP, _, rfl, iteF ?_⟩
    refine ⟨_, rfl, .ref CZ, .ref CZ, true, _, rfl, hd, hrZ, kZZ, _, rfl, iteT ?_⟩
    refine ⟨_, rfl, rfl, rfl, dd, _, _, rfl, hd, rfl, (by show 1 ≤ sizeLine; decide), fun t nt => q t _ (new_same nt _) nt upd_same⟩
end
end Kq
end
section
set_option maxHeartbeats 4000000
namespace Kq
open PySem PySem.Spec PyProof.Rows L2
theorem takes_len {X : Cx} {W : WX} (tk : Takes X W) : Takes X (fun cls d σ H => σ.length = X.N.length → W cls d σ H) := fun u s' ⟨a, B, sI, pins, σ, H, cls, d, e, I, nb, up, sky, na, os, ag, w⟩ =>
  tk u s' ⟨a, B, sI, pins, σ, H, cls, d, e, I, nb, up, sky, na, os, ag, w I.len⟩
abbrev nAsk : List Str := ["_law_deed", "_law_error"]
/-- what ask makes of the lambda's reading -/
def TAsk (CP CZ : Addr) : (XK → Hp → VK → Prop) → Hp → VK → Prop := fun tl H Q =>
  tl (fun cls d H' => Flt H' CP CZ cls d Q) H (fun v H1 => 2 ≤ sizeLine ∧ ∀ t, H1 t = none → Q (.ref t) (upd H1 t (.lst [.str "told", v])))
def askT (CP CZ : Addr) : Addr → Value → Option Addr → TS := fun a cls d => tRet (tCallP a cls d (spFlt CP CZ) (tCons (tVar 1) tNil))
def askL (CE CN CP CZ : Addr) : List Hd3 := [(.ref CE, 1, askT CP CZ), (.ref CN, 1, askT CP CZ)]
section
variable {X : Cx} {q : Str} {g fF CP CZ CE CN : Addr} {cdg : Value} {fdF : FuncData}
theorem scAsk : FnScope nAsk ["_law_deed"] (defScope (top 89)) := ⟨rfl, rfl, rfl, by decide +kernel, rfl, by decide +kernel, by decide +kernel⟩
theorem ask_gives (hr : Room 2 X.A) (F : FnP X.prog X.w X.K X.mg X.base C8.CX0 1 fF fdF ["_law_error"] (spFlt CP CZ)) (bF : Binds X.K fdF ["_law_error"] []) (kF : PySem.W.keepIn X.K (.ref fF) = true) (mF : X.mg "_law_fault" = some (.ref fF))
    (mC : X.mg "CreepError" = some (.ref CE)) (mN : X.mg "NoAnswer" = some (.ref CN)) (e1 : PySem.W.exmOne X.K (.ref CP) (.ref CE) = some true) (e2 : PySem.W.exmOne X.K (.ref CZ) (.ref CE) = some false) (e3 : PySem.W.exmOne X.K (.ref CZ) (.ref CN) = some true) :
    LamX.GivesTo X nAsk "_law_ask" (defScope (top 89)) g cdg (defBody (top 89)) "_law_deed" q (TAsk CP CZ) := by
  intro f c' s H Q tl act hc h
  let XX := (cxOf C8.CX0 X.prog X.w X.K X.mg X.base nAsk "_law_ask" (defScope (top 89)) g cdg X.A X.stack s H C8.E0).nox
  refine ⟨_, pss_one (ps_try_manyAs (X := XX) (l := askL CE CN CP CZ) (tb := fun W D σ H => ∃ Ech : XK, (∀ cls d σ' H', Ech cls d H' → σ'.length = 2 → W cls d σ' H') ∧ σ[0]? = some (some (.ref f)) ∧ H c' = some (LamX.CodeO c' q) ∧
      tl Ech H (fun v H1 => 2 ≤ sizeLine ∧ ∀ t, H1 t = none → D.rt (.ref t) (upd H1 t (.lst [.str "told", v]))))
      rfl rfl scAsk.nd LamX.takes0 (fun W pn xe tk _ => ?_) ?_), ?_⟩
  · refine ⟨fun pins s' σ H' D I h' => ?_⟩
    obtain ⟨Ech, hW, h1, h2, h3⟩ := h'
    have hp := act (fun cls d σ H => σ.length = 2 → W cls d σ H) pn xe Ech
    have hq : ∀ (j : Nat) (p1 p2 p3 p4 p5 : Pos), PSs (XX.tr pn xe) [.Return (some (.List [.Constant (.str "told") j p3, .Call (.Name "_law_deed" p1) [] [] p2] p4)) p5] (tRet (tLst (tCons (tC (.str "told")) (tCons (fun σZ HZ Q => σZ[0]? = some (some (V.ref f)) ∧ HZ c' = some (LamX.CodeO c' q) ∧ tl Ech HZ Q) tNil)))) :=
      fun j p1 p2 p3 p4 p5 => pss_one (ps_ret (pe_lst (pa_cons pe_str (pa_cons (hp p1 p2 (takes_len tk) hW) pa_nil))))
    exact (hq _ _ _ _ _ _).run pins s' σ H' D I ⟨h1, h2, h3⟩
  · have cl : ∀ (a : Addr) (oe : Obj) (cls : Value) (d : Option Addr) (pn : List (Addr × Obj)) (p1 p2 p3 p4 : Pos), Zc cls d oe → (∃ vs, oe.data = .fields vs) → PSs (XX.suite a ((a, oe) :: pn)) [.Return (some (.Call (.Name "_law_fault" p1) [.Name "_law_error" p2] [] p3)) p4] (askT CP CZ a cls d) :=
      fun a oe cls d pn p1 p2 p3 p4 hz hf => pss_one (ps_ret (pe_callP List.mem_cons_self hz hf F (L2H.roomH_mark (hr.deeper _) _) rfl mF kF bF (pa_cons (pv 1) pa_nil)))
    exact .cons rfl rfl ⟨rfl, by decide, .inl mC⟩ (fun a oe cls d pn hz hf => cl a oe cls d pn _ _ _ _ hz hf) (.cons rfl rfl ⟨rfl, by decide, .inl mN⟩ (fun a oe cls d pn hz hf => cl a oe cls d pn _ _ _ _ hz hf) .nil)
  · refine ⟨fun cls d H' => Flt H' CP CZ cls d Q, fun cls d σ' H' hf hl => ?_, rfl, hc, ?_⟩
    · have g1 : ∀ a : Addr, (σ'.set 1 (some (V.ref a)))[1]? = some (some (V.ref a)) := fun a => List.getElem?_set_self (by omega)
      rcases hf with ⟨rfl, dd, v, rfl, hd, q⟩ | ⟨rfl, dd, rfl, hd, q⟩
      · exact ⟨true, e1, fun _ a na => ⟨_, g1 a, rfl, .inl ⟨rfl, dd, v, rfl, hd, q⟩⟩, fun z => Bool.noConfusion z⟩
      · exact ⟨false, e2, fun z => Bool.noConfusion z, fun _ => ⟨true, e3, fun _ a na => ⟨_, g1 a, rfl, .inr ⟨rfl, dd, rfl, hd, q⟩⟩, fun z => Bool.noConfusion z⟩⟩
    · exact h
end
end Kq
end
section
set_option maxHeartbeats 4000000
namespace Kq
open PySem PySem.Spec PyProof.Rows L2
def revB : List Value → List Value → List Value := fun _ ws => ws.reverse
def revA : List V → List V → List V := fun _ zs => zs.reverse
def appB : List Value → List Value → List Value := fun us ws => us ++ ws
def appA : List V → List V → List V := fun vs zs => vs ++ zs
theorem vals_rev : ∀ {vs : List V} {us : List Value}, Vals vs us → Vals vs.reverse us.reverse
  | _, _, .nil => .nil
  | _, _, .cons r t => by
    rw [List.reverse_cons, List.reverse_cons]
    exact Paired.snoc (vals_rev t) r
theorem vals_app : ∀ {vs : List V} {us : List Value} {zs : List V} {ws : List Value}, Vals vs us → Vals zs ws → Vals (vs ++ zs) (us ++ ws)
  | _, _, _, _, .nil, t => t
  | _, _, _, _, .cons r t, t' => .cons r (vals_app t t')
section
variable {X : Cx} {CX : CXT} {k : Nat} {f : Addr} {fd : FuncData} {ps ks : List Str} {sp : Sp} {E : XK} {x : Str} {p pos : Pos} {kws : List Keyword} {tk : TA}
/-- f(k = v, ..), keywords alone -/
def tCallR (m : Nat) (sp : Sp) (E : XK) (tk : TA) : TE := fun σ H Q => tk σ H fun zs H2 => zs.length = m ∧ sp zs.reverse H2 Q E
theorem pe_callR (F : FnOk X.prog X.w X.K X.mg X.base CX k f fd ps sp) (hr : Room k X.A) (hg : Gl X x) (hm : X.mg x = some (.ref f)) (hk : PySem.W.keepIn X.K (.ref f) = true) (hb : KBn X.K fd ps 0 ks revB revA) (hx : Passes CX X E)
    (hkw : PK X kws tk) (hall : (backToKw pos (keywordEach kws X.env)).all (·.1.isSome) = true := by rfl) (hks : (backToKw pos (keywordEach kws X.env)).filterMap (·.1) = ks := by rfl)
    (hdb : (x == ("__debug__" : Str)) = false := by decide) (hpl : ((backTo pos (starEach [] X.env)).any (·.1) || (backToKw pos (keywordEach kws X.env)).any (·.1.isNone)) = false := by rfl) :
    PE X (.Call (.Name x p) [] kws pos) (tCallR ks.length sp E tk) := by
  refine ⟨fun pins s σ H Q I h => wpAny_Call_Name_kw (ld_glob I hg hm ?_ hdb)⟩
  refine PySem.W.callWith_KW0 (h₀ := X.base) I.ok.mod.kin hk hall ?_ hpl
  refine thn (hkw.run pos pins s σ H _ I h) fun ws s2 ⟨zs, H2, I2, rz, l2, q2⟩ => ⟨I2.kIn, ?_⟩
  rw [hks]
  exact run_fnN (us := []) (vs := []) F hr hb hx I2 .nil rz rfl l2 q2
end
section
variable {K : PySem.W.Frag} {x q : Str} {st : Stmt} {f : Addr} {fd : FuncData}
theorem kb_two {a b : Str} {st : Stmt} (F : Fun K x q st f fd) (h : ∀ (kV doc pm : Value) (an : Option Addr) (cdv ct u v : Value), bindArgs (PySem.W.fnOf x q (defArgs st) (defBody st) (defScope st) .none kV doc pm an cdv ct) ⟨[], [(b, v), (a, u)]⟩ = pure [(a, u), (b, v)]) : KBn K fd [a, b] 0 [b, a] revB revA := by
  obtain ⟨oc, od, kV, doc, pm, an, cdv, ct, osl, rfl, lk, hcd⟩ := F.ex
  refine ⟨fun s us ws _ l1 l2 => ?_, fun _ r => vals_rev r⟩
  match us, ws, l1, l2 with
  | [], [v, u], _, _ => exact .of_eq (h _ _ _ _ _ _ u v)
theorem kb_one {a : Str} {st : Stmt} (F : Fun K x q st f fd) (h : ∀ (kV doc pm : Value) (an : Option Addr) (cdv ct u : Value), bindArgs (PySem.W.fnOf x q (defArgs st) (defBody st) (defScope st) .none kV doc pm an cdv ct) ⟨[], [(a, u)]⟩ = pure [(a, u)]) : KBn K fd [a] 0 [a] revB revA := by
  obtain ⟨oc, od, kV, doc, pm, an, cdv, ct, osl, rfl, lk, hcd⟩ := F.ex
  refine ⟨fun s us ws _ l1 l2 => ?_, fun _ r => vals_rev r⟩
  match us, ws, l1, l2 with
  | [], [u], _, _ => exact .of_eq (h _ _ _ _ _ _ u)
/-- the first by its place, the second by its name -/
theorem kb_mix {a b : Str} {st : Stmt} (F : Fun K x q st f fd) (h : ∀ (kV doc pm : Value) (an : Option Addr) (cdv ct u v : Value), bindArgs (PySem.W.fnOf x q (defArgs st) (defBody st) (defScope st) .none kV doc pm an cdv ct) ⟨[u], [(b, v)]⟩ = pure [(a, u), (b, v)]) : KBn K fd [a, b] 1 [b] appB appA := by
  obtain ⟨oc, od, kV, doc, pm, an, cdv, ct, osl, rfl, lk, hcd⟩ := F.ex
  refine ⟨fun s us ws _ l1 l2 => ?_, fun r1 r2 => vals_app r1 r2⟩
  match us, ws, l1, l2 with
  | [u], [v], _, _ => exact .of_eq (h _ _ _ _ _ _ u v)
end
/-! ### a def as it is used: its promise, its arguments, its name -/
structure Use (P : Program) (w : World) (K : PySem.W.Frag) (mg : Str → Option Value) (base : Heap) (CX : CXT) (k : Nat) (x : Str) (ps : List Str) (sp : Sp) (kws : List (List Str)) : Prop where
  ex : ∃ (f : Addr) (fd : FuncData), FnOk P w K mg base CX k f fd ps sp ∧ Binds K fd ps [] ∧ PySem.W.keepIn K (.ref f) = true ∧ mg x = some (.ref f) ∧ (∀ ks ∈ kws, ks.length = ps.length → KBn K fd ps 0 ks revB revA) ∧ (∀ ks ∈ kws, ks.length = 1 → ps.length = 2 → KBn K fd ps 1 ks appB appA)
section
variable {X : Cx} {CX : CXT} {k : Nat} {ps ks : List Str} {kl : List (List Str)} {sp : Sp} {E : XK} {x : Str} {p pos : Pos} {kws : List Keyword} {tk t : TA} {e : Expr} {es : List Expr}
theorem pe_use (U : Use X.prog X.w X.K X.mg X.base CX k x ps sp kl) (hr : Room k X.A) (hg : Gl X x) (hx : Passes CX X E) (ha : PA X (e :: es) t)
    (hdb : (x == ("__debug__" : Str)) = false := by decide) (he : starEach (e :: es) X.env = (false, eval e X.env) :: starEach es X.env := by rfl) (hpl : (backTo pos (starEach es X.env)).any (·.1) = false := by rfl) :
    PE X (.Call (.Name x p) (e :: es) [] pos) (tCall sp [] E t) := by
  obtain ⟨f, fd, F, b, kp, m, _⟩ := U.ex
  exact pe_call F hr hg m kp b .nil hx ha hdb he hpl
theorem pe_useR (U : Use X.prog X.w X.K X.mg X.base CX k x ps sp kl) (hr : Room k X.A) (hg : Gl X x) (hx : Passes CX X E) (hl : ks.length = ps.length)
    (hkw : PK X kws tk) (hin : ks ∈ kl) (hall : (backToKw pos (keywordEach kws X.env)).all (·.1.isSome) = true := by rfl) (hks : (backToKw pos (keywordEach kws X.env)).filterMap (·.1) = ks := by rfl)
    (hdb : (x == ("__debug__" : Str)) = false := by decide) (hpl : ((backTo pos (starEach [] X.env)).any (·.1) || (backToKw pos (keywordEach kws X.env)).any (·.1.isNone)) = false := by rfl) :
    PE X (.Call (.Name x p) [] kws pos) (tCallR ks.length sp E tk) := by
  obtain ⟨f, fd, F, b, kp, m, h, _⟩ := U.ex
  exact pe_callR F hr hg m kp (h _ hin hl) hx hkw hall hks hdb hpl
theorem pe_useN (U : Use X.prog X.w X.K X.mg X.base CX k x ps sp kl) (hr : Room k X.A) (hg : Gl X x) (hx : Passes CX X E) (hl : ks.length = 1) (hl2 : ps.length = 2)
    (ha : PA X (e :: es) t) (hkw : PK X kws tk) (hin : ks ∈ kl) (hall : (backToKw pos (keywordEach kws X.env)).all (·.1.isSome) = true := by rfl) (hks : (backToKw pos (keywordEach kws X.env)).filterMap (·.1) = ks := by rfl)
    (hdb : (x == ("__debug__" : Str)) = false := by decide) (he : starEach (e :: es) X.env = (false, eval e X.env) :: starEach es X.env := by rfl)
    (hpl : ((backTo pos (starEach (e :: es) X.env)).any (·.1) || (backToKw pos (keywordEach kws X.env)).any (·.1.isNone)) = false := by rfl) :
    PE X (.Call (.Name x p) (e :: es) kws pos) (tCallN 1 ks.length sp appA E t tk) := by
  obtain ⟨f, fd, F, b, kp, m, _, h⟩ := U.ex
  exact pe_callN F hr hg m kp (h _ hin hl hl2) hx ha hkw hall hks hdb he hpl
end
/-! ### a def whose code object's place is known -/
structure FunC (K : PySem.W.Frag) (x qual : Str) (st : Stmt) (f : Addr) (fd : FuncData) (c : Addr) : Prop where
  ex : ∃ (oc : Value) (od : Option Addr) (kV doc pm : Value) (an : Option Addr) (ct : Value) (osl : Array (Option Value)),
    fd = PySem.W.fnOf x qual (defArgs st) (defBody st) (defScope st) .none kV doc pm an (.ref c) ct ∧ K.lookup f = some ⟨oc, od, .func fd, osl⟩ ∧ PySem.W.codeIn K (.ref c) qual = true
  kp : PySem.W.keepIn K (.ref f) = true
section
variable {P : Program} {w : World} {K : PySem.W.Frag} {mg : Str → Option Value} {base : Heap}
theorem FunC.fn {x qual : Str} {st : Stmt} {f c : Addr} {fd : FuncData} (F : FunC K x qual st f fd c) : Fun K x qual st f fd := by
  obtain ⟨oc, od, kV, doc, pm, an, ct, osl, h1, h2, h3⟩ := F.ex
  exact ⟨⟨oc, od, kV, doc, pm, an, _, ct, osl, h1, h2, h3⟩, F.kp⟩
theorem FunC.ok {x qual : Str} {st : Stmt} {f c : Addr} {fd : FuncData} {N ps : List Str} {k : Nat} {sp : Sp} (F : FunC K x qual st f fd c) (S : FnScope N ps (defScope st)) (len : ∀ vs H Q E, sp vs H Q E → vs.length = ps.length)
    (hbody : ∀ (A : Around) (outer : List Env) (s : Shared) (H : Hp) (vs : List V) (Q : VK) (E : XK), Room k (A.deeper (envOfC qual (defScope st) s.heap.objs.size f (.ref c))) → sp vs H Q E →
      ∃ t, PSs (cxOf CX0 P w K mg base N qual (defScope st) f (.ref c) A outer s H E).nox (defBody st) t ∧ t { nx := fun _ H' => Q .non H', rt := Q } (L2.start N vs) H) : FnOk P w K mg base CX0 (k + 1) f fd ps sp := by
  obtain ⟨oc, od, kV, doc, pm, an, ct, osl, rfl, lk, hcd⟩ := F.ex
  refine fn_of lk hcd S len fun A outer s H vs Q E hr hsp => ?_
  obtain ⟨t, h, q⟩ := hbody A outer s H vs Q E hr hsp
  exact ⟨t, h.nox, q⟩
end
/-! ### what ask answers -/
def Pr2 (H : Hp) (v : V) (u l : Int) : Prop := ∃ a, v = .ref a ∧ H a = some (.tup [.int u, .int l])
def Told (H : Hp) (v : V) : Option (Int × Int) → Prop
  | none => ∃ a, v = .ref a ∧ H a = some (.lst [.str "DividedByZero"])
  | some r => ∃ a p, v = .ref a ∧ H a = some (.lst [.str "told", p]) ∧ Pr2 H p r.1 r.2
theorem Pr2.same {H H' : Hp} {v : V} {u l : Int} (h : Pr2 H v u l) (s : Same H H') : Pr2 H' v u l := by
  obtain ⟨a, e, h1⟩ := h
  exact ⟨a, e, s _ _ h1⟩
theorem Told.same {H H' : Hp} {v : V} {r : Option (Int × Int)} (h : Told H v r) (s : Same H H') : Told H' v r := by
  cases r with
  | none =>
    obtain ⟨a, e, h1⟩ := h
    exact ⟨a, e, s _ _ h1⟩
  | some r =>
    obtain ⟨a, p, e, h1, h2⟩ := h
    exact ⟨a, p, e, s _ _ h1, h2.same s⟩
theorem Told.ext {H H' : Hp} {v : V} {r : Option (Int × Int)} (h : Told H v r) (s : LamX.ExtN H H') : Told H' v r := by
  cases r with
  | none =>
    obtain ⟨a, e, h1⟩ := h
    exact ⟨a, e, s _ _ h1 (fun ps z => by cases z)⟩
  | some r =>
    obtain ⟨a, p, e, h1, pa, e2, h2⟩ := h
    exact ⟨a, p, e, s _ _ h1 (fun ps z => by cases z), pa, e2, s _ _ h2 (fun ps z => by cases z)⟩
theorem Fr.ext {H H' : Hp} {n : Nat} {v : V} {u l : Int} (h : Fr H n v u l) (s : LamX.ExtN H H') : Fr H' n v u l := by
  obtain ⟨a, e, h1, h2⟩ := h
  exact ⟨a, e, s _ _ h1 (fun ps z => by cases z), h2⟩
theorem Pr2.tw {H : Hp} {v v' : V} {u l : Int} {n : Nat} (h : Pr2 H v u l) (h' : Pr2 H v' u l) : Tw (Trk H) (Trk H) (n + 1) H v v' := by
  obtain ⟨a, rfl, ha⟩ := h
  obtain ⟨b, rfl, hb⟩ := h'
  exact .inr ⟨a, b, _, _, rfl, rfl, (by show 2 ≤ 60; decide), ⟨_, ha⟩, ⟨_, hb⟩, .cons (Tw.flat rfl) (.cons (Tw.flat rfl) .nil), .inr ⟨ha, hb⟩⟩
theorem Told.tw {H : Hp} {v v' : V} {r : Option (Int × Int)} {n : Nat} (h : Told H v r) (h' : Told H v' r) : Tw (Trk H) (Trk H) (n + 2) H v v' := by
  cases r with
  | none =>
    obtain ⟨a, rfl, ha⟩ := h
    obtain ⟨b, rfl, hb⟩ := h'
    exact .inr ⟨a, b, _, _, rfl, rfl, (by show 1 ≤ 60; decide), ⟨_, ha⟩, ⟨_, hb⟩, .cons (Tw.flat rfl) .nil, .inl ⟨ha, hb⟩⟩
  | some r =>
    obtain ⟨a, p, rfl, ha, hp⟩ := h
    obtain ⟨b, p', rfl, hb, hp'⟩ := h'
    exact .inr ⟨a, b, _, _, rfl, rfl, (by show 2 ≤ 60; decide), ⟨_, ha⟩, ⟨_, hb⟩, .cons (Tw.flat rfl) (.cons (hp.tw hp') .nil), .inl ⟨ha, hb⟩⟩
end Kq
end
section
set_option maxHeartbeats 4000000
namespace Kq
open PySem PySem.Spec PyProof.Rows L2
def quoR (a b c d : Int) : Option (Int × Int) := if b * c = 0 then none else some (lowU (a * d) (b * c), lowL (a * d) (b * c))
/-- ask of quotient_of -/
theorem rd_quo {H : Hp} {Q : VK} {CP CZ : Addr} {x y : V} {a b c d : Int} {E : XK} {Q' : VK} (hE : ∀ cls d H', Flt H' CP CZ cls d Q → E cls d H') (hQ : ∀ v H1, (2 ≤ sizeLine ∧ ∀ t, H1 t = none → Q (.ref t) (upd H1 t (.lst [.str "told", v]))) → Q' v H1)
    (hx : Fr H 1000 x a b) (hy : Fr H 1000 y c d) (q : ∀ t H', Same H H' → Told H' t (quoR a b c d) → Q t H') : spQuoX CZ [x, y] H Q' E := by
  refine ⟨x, y, a, b, c, d, rfl, hx, hy, fun n0 t H' s n e => hQ _ _ ⟨by decide, fun t2 n2 => ?_⟩, fun z => ?_⟩
  · refine q _ _ (s.trans (new_same n2 _)) ?_
    unfold quoR
    rw [if_neg n0]
    exact ⟨t2, _, rfl, upd_same, t, rfl, new_same n2 _ _ _ e⟩
  · refine fun dd H' s n e => hE _ _ _ (.inr ⟨rfl, dd, rfl, e, fun t H2 s2 n2 e2 => q _ _ (s.trans s2) ?_⟩)
    unfold quoR
    rw [if_pos z]
    exact ⟨t, rfl, e2⟩
/-- the four answers -/
def Due4 (H : Hp) (v : V) (a b c d : Int) : Prop := ∃ D v1 v2 v3, v = .ref D ∧ H D = some (.lst [v1, v2, v3, .bl (decide (a * d < c * b))]) ∧ Pr2 H v1 (lowU (a * d + c * b) (b * d)) (lowL (a * d + c * b) (b * d)) ∧
  Pr2 H v2 (lowU (a * d - c * b) (b * d)) (lowL (a * d - c * b) (b * d)) ∧ Pr2 H v3 (lowU (a * c) (b * d)) (lowL (a * c) (b * d))
theorem Due4.same {H H' : Hp} {v : V} {a b c d : Int} (h : Due4 H v a b c d) (s : Same H H') : Due4 H' v a b c d := by
  obtain ⟨D, v1, v2, v3, e, h1, p1, p2, p3⟩ := h
  exact ⟨D, v1, v2, v3, e, s _ _ h1, p1.same s, p2.same s, p3.same s⟩
theorem Due4.tw {H : Hp} {v v' : V} {a b c d : Int} {n : Nat} (h : Due4 H v a b c d) (h' : Due4 H v' a b c d) : Tw (Trk H) (Trk H) (n + 2) H v v' := by
  obtain ⟨D, v1, v2, v3, rfl, h1, p1, p2, p3⟩ := h
  obtain ⟨D', w1, w2, w3, rfl, h2, r1, r2, r3⟩ := h'
  exact .inr ⟨D, D', _, _, rfl, rfl, (by show 4 ≤ 60; decide), ⟨_, h1⟩, ⟨_, h2⟩, .cons (p1.tw r1) (.cons (p2.tw r2) (.cons (p3.tw r3) (.cons (Tw.flat rfl) .nil))), .inl ⟨h1, h2⟩⟩
abbrev nDs : List Str := ["_law_a", "_law_b", "_law_due", "_law_told"]
def spDs (T : List (Addr × Str)) : Sp := fun vs H Q _ => ∃ (x y : V) (a b c d : Int), vs = [x, y] ∧ Fr H 1000 x a b ∧ Fr H 1000 y c d ∧ LamX.Tabs T H ∧ ∀ H', LamX.ExtN H H' → LamX.Tabs T H' → Q (.bl true) H'
theorem scDs : FnScope nDs ["_law_a", "_law_b"] (defScope (top 91)) := ⟨rfl, rfl, rfl, by decide +kernel, rfl, by decide +kernel, by decide +kernel⟩
/-- what the law's later defs stand on -/
structure Kit (P : Program) (w : World) (K : PySem.W.Frag) (mg : Str → Option Value) (base : Heap) (CP CZ CE CN : Addr) : Prop where
  add : Use P w K mg base CX0 2 "_law_add" ["_law_a", "_law_b"] spAdd []
  neg : Use P w K mg base CX0 1 "_law_neg" ["_law_a"] spNeg []
  mul : Use P w K mg base CX0 2 "_law_mul" ["_law_a", "_law_b"] spMul []
  low : Use P w K mg base CX0 1 "_law_low" ["_law_p", "_law_q"] spLow []
  sum : Use P w K mg base CX0 2 "sum_of" ["one", "other"] (spTwo (fun a b c d => a * d + c * b) (fun _ b _ d => b * d)) [["other", "one"]]
  dif : Use P w K mg base CX0 2 "difference_of" ["one", "other"] (spTwo (fun a b c d => a * d - c * b) (fun _ b _ d => b * d)) [["other", "one"]]
  pro : Use P w K mg base CX0 2 "product_of" ["one", "other"] (spTwo (fun a _ c _ => a * c) (fun _ b _ d => b * d)) [["other"]]
  bel : Use P w K mg base CX0 1 "is_below" ["one", "other"] spBelow [["other", "one"]]
  quo : Use P w K mg base (L2.CX P w) 4 "quotient_of" ["one", "other"] (spQuoX CZ) [["other", "one"]]
  rat : Use P w K mg base (L2.CX P w) 3 "ratio" ["upper", "lower"] (spRatioX CZ) [["lower", "upper"]]
  pow : Use P w K mg base (L2.CX P w) 4 "power_of" ["value", "n"] (spPow K CP CZ) [["n", "value"]]
  lra : Use P w K mg base CX0 1 "_law_raised" ["_law_a", "_law_k"] spLR []
  draw : Use P w K mg base CX0 1 "_law_draw" ["_law_bag_here", "_law_limit"] spDraw []
  ofL : Use P w K mg base CX0 2 "_law_of" ["_law_bag_here", "_law_things"] spOfL []
  mabs : mg "abs" = none
  lik : Use P w K mg base CX0 6 "_law_like" ["_law_told", "_law_due"] (spLike 4) []
  flt : ∃ (fF : Addr) (fdF : FuncData), FnP P w K mg base C8.CX0 1 fF fdF ["_law_error"] (spFlt CP CZ) ∧ Binds K fdF ["_law_error"] [] ∧ PySem.W.keepIn K (.ref fF) = true ∧ mg "_law_fault" = some (.ref fF)
  ask : ∃ (g : Addr) (fd : FuncData), Fun K "_law_ask" "_law_ask" (top 89) g fd ∧ Binds K fd ["_law_deed"] [] ∧ mg "_law_ask" = some (.ref g)
  mC : mg "CreepError" = some (.ref CE)
  mN : mg "NoAnswer" = some (.ref CN)
  e1 : PySem.W.exmOne K (.ref CP) (.ref CE) = some true
  e2 : PySem.W.exmOne K (.ref CZ) (.ref CE) = some false
  e3 : PySem.W.exmOne K (.ref CZ) (.ref CN) = some true
section
variable {P : Program} {w : World} {K : PySem.W.Frag} {mg : Str → Option Value} {base : Heap} {f c Pt CP CZ CE CN : Addr} {fd : FuncData} {T : List (Addr × Str)}
theorem ok_ds (F : FunC K "_law_deeds_so" "_law_deeds_so" (top 91) f fd c) (U : Kit P w K mg base CP CZ CE CN) (TB : LamX.TabB base mg c Pt) (hmT : (Pt, ((("_law_deeds_so" : Str) ++ ".<locals>.") ++ "<lambda>" : Str)) ∈ T)
    (hu : ∀ p ∈ T, p.1 = Pt → p.2 = ((("_law_deeds_so" : Str) ++ ".<locals>.") ++ "<lambda>" : Str)) : FnOk P w K mg base CX0 7 f fd ["_law_a", "_law_b"] (spDs T) := by
  refine F.ok scDs (fun vs H Q E h => ?_) (fun A outer s H vs Q E hr h => ?_)
  · obtain ⟨x, y, a, b, c, d, rfl, _⟩ := h
    rfl
  obtain ⟨x, y, a, b, c', d, rfl, fx, fy, hT, q⟩ := h
  have hr1 := hr.mono (show 1 ≤ 6 by decide)
  have hr2 := hr.mono (show 2 ≤ 6 by decide)
  have hr4 := hr.mono (show 4 ≤ 6 by decide)
  obtain ⟨gA, fdA, FA, bA, mA⟩ := U.ask
  obtain ⟨oc, od, kV, doc, pm, an, cdv, ct, osl, rfl, lkA, hcdA⟩ := FA.ex
  obtain ⟨fF, fdF, PF, bF, kF, mF⟩ := U.flt
  refine ⟨_, C8.pss_cut (ps_set (i := 2) scDs.nd rfl (Or.inl rfl) (pe_lst (pa_cons (pe_use U.add hr2 rfl pass0 (pa_cons (pv 0) (pa_cons (pv 1) pa_nil))) (pa_cons (pe_use U.add hr2 rfl pass0 (pa_cons (pv 0) (pa_cons (pe_use U.neg hr1 rfl pass0 (pa_cons (pv 1) pa_nil)) pa_nil)))
        (pa_cons (pe_use U.mul hr2 rfl pass0 (pa_cons (pv 0) (pa_cons (pv 1) pa_nil))) (pa_cons (pe_cmpR op_lt (pe_op op_mulW (pe_ix ix_tup (pv 0) pe_int (fun _ _ => rfl)) (pe_ix ix_tup (pv 1) pe_int (fun _ _ => rfl))) (pe_op op_mulW (pe_ix ix_tup (pv 1) pe_int (fun _ _ => rfl)) (pe_ix ix_tup (pv 0) pe_int (fun _ _ => rfl))) (nomark _)) pa_nil))))))
    (C8.pss_cut (ps_if (pt_not (pt_val (pe_use U.lik hr rfl pass0 (pa_cons (pe_lst (pa_cons (pe_use U.sum hr2 rfl pass0 (pa_cons (pv 0) (pa_cons (pv 1) pa_nil))) (pa_cons (pe_use U.dif hr2 rfl pass0 (pa_cons (pv 0) (pa_cons (pv 1) pa_nil)))
        (pa_cons (pe_use U.pro hr2 rfl pass0 (pa_cons (pv 0) (pa_cons (pv 1) pa_nil))) (pa_cons (pe_use U.bel hr1 rfl pass0 (pa_cons (pv 0) (pa_cons (pv 1) pa_nil))) pa_nil))))) (pa_cons (pv 2) pa_nil))))) (pss_one (ps_ret pe_bl)) pss_nil)
    (C8.pss_cut (ps_set (i := 3) scDs.nd rfl (Or.inl rfl) (pe_lst (pa_cons (pe_useR (ks := ["other", "one"]) U.sum hr2 rfl pass0 rfl (pk_cons (pv 1) (pk_cons (pv 0) pk_nil)) (by simp)) (pa_cons (pe_useR (ks := ["other", "one"]) U.dif hr2 rfl pass0 rfl (pk_cons (pv 1) (pk_cons (pv 0) pk_nil)) (by simp))
        (pa_cons (pe_useN (ks := ["other"]) U.pro hr2 rfl pass0 rfl rfl (pa_cons (pv 0) pa_nil) (pk_cons (pv 1) pk_nil) (by simp)) (pa_cons (pe_useR (ks := ["other", "one"]) U.bel hr1 rfl pass0 rfl (pk_cons (pv 1) (pk_cons (pv 0) pk_nil)) (by simp)) pa_nil))))))
    (C8.pss_cut (ps_if (pt_not (pt_val (pe_use U.lik hr rfl pass0 (pa_cons (pv 3) (pa_cons (pv 2) pa_nil))))) (pss_one (ps_ret pe_bl)) pss_nil)
    (C8.pss_cut (ps_if (pt_cmpR op_eq (pe_ix ix_tup (pv 1) pe_int (fun _ _ => rfl)) pe_int (nomark _)) (pss_one (ps_set (i := 2) scDs.nd rfl (Or.inl rfl) (pe_lst (pa_cons pe_str pa_nil))))
        (pss_one (ps_set (i := 2) scDs.nd rfl (Or.inl rfl) (pe_lst (pa_cons pe_str (pa_cons (pe_use U.low hr1 rfl pass0 (pa_cons (pe_op op_mulW (pe_ix ix_tup (pv 0) pe_int (fun _ _ => rfl)) (pe_ix ix_tup (pv 1) pe_int (fun _ _ => rfl))) (pa_cons (pe_op op_mulW (pe_ix ix_tup (pv 0) pe_int (fun _ _ => rfl)) (pe_ix ix_tup (pv 1) pe_int (fun _ _ => rfl))) pa_nil))) pa_nil))))))
    (pss_one (ps_ret (pe_use U.lik hr rfl pass0 (pa_cons (pe_lst (pa_cons
        (LamX.pe_lamcall (k := 4) (t := fun E => tCall (spQuoX CZ) [] E (tCons (tVar 0) (tCons (tVar 1) tNil))) (TT := TAsk CP CZ) rfl mA FA.kp lkA hcdA bA scAsk rfl (Or.inl rfl) (ask_gives (hr.mono (by decide)) PF bF kF mF U.mC U.mN U.e1 U.e2 U.e3) TB rfl hmT hu hr (LamX.lamS_by (show LamX.lamSB (defScope (top 91)) _ = true by decide +kernel)) rfl (fun _ _ _ _ _ => rfl)
          (fun A outer s H E f c' hk => pe_use U.quo hk rfl (passes_call (takes_of rfl rfl rfl rfl) (fun _ _ _ _ h => h)) (pa_cons (pv 0) (pa_cons (pv 1) pa_nil))))
        (pa_cons (LamX.pe_lamcallD (k := 4) (kd := 0) (px := "_law_x") (t := fun E => tCallR 2 (spQuoX CZ) E (tCons (tVar 1) (tCons (tVar 0) tNil))) (TT := TAsk CP CZ) rfl mA FA.kp lkA hcdA bA scAsk rfl (Or.inl rfl) (ask_gives (hr.mono (by decide)) PF bF kF mF U.mC U.mN U.e1 U.e2 U.e3) TB rfl hmT hu hr (LamX.lamD_by (show LamX.lamDB nDs (defScope (top 91)) _ "_law_x" = true by decide +kernel)) rfl (fun _ _ _ _ _ _ _ => ⟨_, rfl, rfl⟩)
          (fun A outer s H E f c' hk => pe_useR (ks := ["other", "one"]) U.quo hk rfl (passes_call (takes_of rfl rfl rfl rfl) (fun _ _ _ _ h => h)) rfl (pk_cons (pv 1) (pk_cons (pv 0) pk_nil)) (by simp)))
        pa_nil))) (pa_cons (pe_lst (pa_cons (pv 2) (pa_cons (pv 2) pa_nil))) pa_nil))))))))), ?_⟩
  obtain ⟨xa, rfl, hx, a1, b1, b0⟩ := id fx
  obtain ⟨ya, rfl, hy, c1, d1, d0⟩ := id fy
  have bd0 : b * d ≠ 0 := Int.mul_ne_zero b0 d0
  have cmp : ∀ {H1 : Hp}, Same H H1 → SqT K H1 xa [.int a, .int b] ∧ SqT K H1 ya [.int c', .int d] := fun s => ⟨SqT.of (s _ _ hx), SqT.of (s _ _ hy)⟩
  have due : ∀ {H1 : Hp} {D : Addr} {v1 v2 v3 : V}, H1 D = some (.lst [v1, v2, v3, .bl (decide (a * d < c' * b))]) → Pr2 H1 v1 (lowU (a * d + c' * b) (b * d)) (lowL (a * d + c' * b) (b * d)) → Pr2 H1 v2 (lowU (a * d - c' * b) (b * d)) (lowL (a * d - c' * b) (b * d)) →
      Pr2 H1 v3 (lowU (a * c') (b * d)) (lowL (a * c') (b * d)) → Due4 H1 (.ref D) a b c' d := fun h1 p1 p2 p3 => ⟨_, _, _, _, rfl, h1, p1, p2, p3⟩
  refine ⟨fun σ H1 => ∃ v, σ = [some (.ref xa), some (.ref ya), some v, none] ∧ Same H H1 ∧ Due4 H1 v a b c' d, ?_, ?_⟩
  · refine ⟨_, rfl, _, rfl, _, _, a, b, c', d, rfl, fx, fy, fun t1 H1 s1 n1 e1 => ?_⟩
    refine ⟨_, rfl, _, rfl, _, c', d, rfl, fy.same s1, fun t2 H2 s2 n2 e2 => ?_⟩
    have s12 := s1.trans s2
    refine ⟨_, _, a, b, -c', d, rfl, fx.same s12, ⟨t2, rfl, e2, by rw [Int.natAbs_neg]; exact c1, d1, d0⟩, fun t3 H3 s3 n3 e3 => ?_⟩
    have s13 := s12.trans s3
    refine ⟨_, rfl, _, rfl, _, _, a, b, c', d, rfl, fx.same s13, fy.same s13, fun t4 H4 s4 n4 e4 => ?_⟩
    have s14 := s13.trans s4
    obtain ⟨sx, sy⟩ := cmp s14
    refine ⟨_, rfl, xa, _, 0, _, rfl, rfl, sx, rfl, _, rfl, ya, _, 1, _, rfl, rfl, sy, rfl, a, d, rfl, rfl, wide_mul a1 d1 (by decide) (by decide) (by decide), _, rfl, ya, _, 0, _, rfl, rfl, sy, rfl, _, rfl, xa, _, 1, _, rfl, rfl, sx, rfl, c', b, rfl, rfl, wide_mul c1 b1 (by decide) (by decide) (by decide), _, _, rfl, rfl, ?_⟩
    refine ⟨(by show 4 ≤ sizeLine; decide), fun t5 n5 => ⟨_, rfl, s14.trans (new_same n5 _), ?_⟩⟩
    have s5 := new_same n5 (HO.lst [.ref t1, .ref t3, .ref t4, .bl (decide (a * d < c' * b))])
    refine due upd_same ⟨t1, rfl, s5 _ _ (s4 _ _ (s3 _ _ (s2 _ _ e1)))⟩ ⟨t3, rfl, s5 _ _ (s4 _ _ ?_)⟩ ⟨t4, rfl, s5 _ _ e4⟩
    rw [Int.sub_eq_add_neg, ← Int.neg_mul]
    exact e3
  rintro σ H1 ⟨v, rfl, s1, du⟩
  refine ⟨fun σ H1 => ∃ v, σ = [some (.ref xa), some (.ref ya), some v, none] ∧ Same H H1 ∧ Due4 H1 v a b c' d, ?_, ?_⟩
  · refine ⟨_, rfl, _, rfl, _, _, a, b, c', d, rfl, fx.same s1, fy.same s1, bd0, fun t1 G1 g1 n1 e1 => ?_⟩
    refine ⟨_, rfl, _, rfl, _, _, a, b, c', d, rfl, (fx.same s1).same g1, (fy.same s1).same g1, bd0, fun t2 G2 g2 n2 e2 => ?_⟩
    have g12 := g1.trans g2
    refine ⟨_, rfl, _, rfl, _, _, a, b, c', d, rfl, (fx.same s1).same g12, (fy.same s1).same g12, bd0, fun t3 G3 g3 n3 e3 => ?_⟩
    have g13 := g12.trans g3
    refine ⟨_, rfl, _, rfl, _, _, a, b, c', d, rfl, (fx.same s1).same g13, (fy.same s1).same g13, ?_⟩
    refine ⟨(by show 4 ≤ sizeLine; decide), fun t4 n4 => ?_⟩
    have g4 := new_same n4 (HO.lst [.ref t1, .ref t2, .ref t3, .bl (decide (a * d < c' * b))])
    have du2 := due (H1 := upd G3 t4 (HO.lst [.ref t1, .ref t2, .ref t3, .bl (decide (a * d < c' * b))])) upd_same ⟨t1, rfl, g4 _ _ (g3 _ _ (g2 _ _ e1))⟩ ⟨t2, rfl, g4 _ _ (g3 _ _ e2)⟩ ⟨t3, rfl, g4 _ _ e3⟩
    refine ⟨_, rfl, _, _, _, _, rfl, du2.tw (n := 2) ((du.same g13).same g4), fun H' s' => ⟨_, rfl, iteF ⟨v, rfl, s1.trans (g13.trans (g4.trans s')), du.same (g13.trans (g4.trans s'))⟩⟩⟩
  clear s1 du
  rintro σ H2 ⟨v, rfl, s1, du⟩
  refine ⟨fun σ H1 => ∃ v u, σ = [some (.ref xa), some (.ref ya), some v, some u] ∧ Same H H1 ∧ Due4 H1 v a b c' d ∧ Due4 H1 u a b c' d, ?_, ?_⟩
  · refine ⟨_, rfl, _, rfl, rfl, _, _, a, b, c', d, rfl, fx.same s1, fy.same s1, bd0, fun t1 G1 g1 n1 e1 => ?_⟩
    refine ⟨_, rfl, _, rfl, rfl, _, _, a, b, c', d, rfl, (fx.same s1).same g1, (fy.same s1).same g1, bd0, fun t2 G2 g2 n2 e2 => ?_⟩
    have g12 := g1.trans g2
    refine ⟨_, rfl, _, rfl, rfl, rfl, _, _, a, b, c', d, rfl, (fx.same s1).same g12, (fy.same s1).same g12, bd0, fun t3 G3 g3 n3 e3 => ?_⟩
    have g13 := g12.trans g3
    refine ⟨_, rfl, _, rfl, rfl, _, _, a, b, c', d, rfl, (fx.same s1).same g13, (fy.same s1).same g13, ?_⟩
    refine ⟨(by show 4 ≤ sizeLine; decide), fun t4 n4 => ?_⟩
    have g4 := new_same n4 (HO.lst [.ref t1, .ref t2, .ref t3, .bl (decide (a * d < c' * b))])
    exact ⟨v, _, rfl, s1.trans (g13.trans g4), du.same (g13.trans g4), due upd_same ⟨t1, rfl, g4 _ _ (g3 _ _ (g2 _ _ e1))⟩ ⟨t2, rfl, g4 _ _ (g3 _ _ e2)⟩ ⟨t3, rfl, g4 _ _ e3⟩⟩
  clear s1 du
  rintro σ H3 ⟨v, u, rfl, s1, du, du2⟩
  refine ⟨fun σ H1 => ∃ v u, σ = [some (.ref xa), some (.ref ya), some v, some u] ∧ Same H H1, ?_, ?_⟩
  · exact ⟨_, rfl, _, rfl, _, _, _, _, rfl, du2.tw (n := 2) du, fun H' s' => ⟨_, rfl, iteF ⟨v, u, rfl, s1.trans s'⟩⟩⟩
  clear s1 du du2
  rintro σ H4 ⟨v, u, rfl, s1⟩
  refine ⟨fun σ H1 => ∃ v u, σ = [some (.ref xa), some (.ref ya), some v, some u] ∧ Same H H1 ∧ Told H1 v (quoR a b c' d), ?_, ?_⟩
  · obtain ⟨sx, sy⟩ := cmp s1
    refine ⟨_, rfl, ya, _, 0, _, rfl, rfl, sy, rfl, rfl, _, rfl, ite2 (fun e => ?_) (fun e => ?_)⟩
    · have z : b * c' = 0 := by rw [V.int.inj (of_decide_eq_true e), Int.mul_zero]
      refine ⟨(by show 1 ≤ sizeLine; decide), fun t n => ⟨_, u, rfl, s1.trans (new_same n _), ?_⟩⟩
      unfold quoR
      rw [if_pos z]
      exact ⟨t, rfl, upd_same⟩
    · have z : b * c' ≠ 0 := Int.mul_ne_zero b0 (fun h => of_decide_eq_false (Bool.eq_false_iff.mpr e) (congrArg V.int h))
      refine ⟨_, rfl, xa, _, 0, _, rfl, rfl, sx, rfl, _, rfl, ya, _, 1, _, rfl, rfl, sy, rfl, a, d, rfl, rfl, wide_mul a1 d1 (by decide) (by decide) (by decide),
        _, rfl, xa, _, 1, _, rfl, rfl, sx, rfl, _, rfl, ya, _, 0, _, rfl, rfl, sy, rfl, b, c', rfl, rfl, wide_mul b1 c1 (by decide) (by decide) (by decide), _, _, rfl, z, Nat.lt_trans (log_bd (wide_lt b1 c1) (by decide)) (by decide), fun t nt => ?_⟩
      refine ⟨(by show 2 ≤ sizeLine; decide), fun t2 n2 => ⟨_, u, rfl, (s1.trans (new_same nt _)).trans (new_same n2 _), ?_⟩⟩
      unfold quoR
      rw [if_neg z]
      exact ⟨t2, _, rfl, upd_same, t, rfl, new_same n2 _ _ _ upd_same⟩
  clear s1
  rintro σ H5 ⟨v, u, rfl, s1, tv⟩
  refine ⟨hT.ext s1, fun H6 x6 T6 => ?_⟩
  refine ⟨_, rfl, _, rfl, rd_quo (fun _ _ _ h => h) (fun _ _ h => h) ((fx.same s1).ext x6) ((fy.same s1).ext x6) (fun r1 H7 s7 t7 => ?_)⟩
  refine ⟨T6.ext s7, fun H8 tu x8 T8 htu => ⟨htu, _, rfl, _, rfl, rfl, rd_quo (fun _ _ _ h => h) (fun _ _ h => h) ((((fx.same s1).ext x6).same s7).ext x8) ((((fy.same s1).ext x6).same s7).ext x8) (fun r2 H9 s9 t9 => ?_)⟩⟩
  refine ⟨(by show 2 ≤ sizeLine; decide), fun l1 n1 => ⟨_, rfl, _, rfl, (by show 2 ≤ sizeLine; decide), fun l2 n2 => ?_⟩⟩
  have z1 := new_same n1 (HO.lst [r1, r2])
  have z2 := new_same n2 (HO.lst [v, v])
  have tvE := ((((tv.ext x6).same s7).ext x8).same s9).same (z1.trans z2)
  have t7E := ((t7.ext x8).same s9).same (z1.trans z2)
  have t9E := t9.same (z1.trans z2)
  refine ⟨.ref l1, .ref l2, _, _, rfl, .inr ⟨l1, l2, _, _, rfl, rfl, (by show 2 ≤ 60; decide), ⟨_, z2 _ _ upd_same⟩, ⟨_, upd_same⟩, .cons (t7E.tw (n := 1) tvE) (.cons (t9E.tw (n := 1) tvE) .nil), .inl ⟨z2 _ _ upd_same, upd_same⟩⟩, fun H' s' => ?_⟩
  have e5 : LamX.ExtN H H5 := .of s1
  have fin : Same H9 H' := z1.trans (z2.trans s')
  exact q H' ((((e5.trans x6).trans (.of s7)).trans x8).trans (.of (s9.trans fin))) (T8.ext (s9.trans fin))
end
end Kq
end
section
set_option maxHeartbeats 4000000
namespace Kq
open PySem PySem.Spec PyProof.Rows L2
/-- all but the bag and the tables stand -/
def Go (B : Addr) (H H' : Hp) : Prop := ∀ b o, b ≠ B → (∀ ps, o ≠ .tbl ps) → H b = some o → H' b = some o
theorem Go.of {B : Addr} {H H' : Hp} (h : But B H H') : Go B H H' := fun b o n _ e => h b o n e
theorem Go.ext {B : Addr} {H H' : Hp} (h : LamX.ExtN H H') : Go B H H' := fun b o _ t e => h b o e t
theorem Go.trans {B : Addr} {H H1 H2 : Hp} (a : Go B H H1) (b : Go B H1 H2) : Go B H H2 := fun x o n t h => b x o n t (a x o n t h)
theorem Bag.ext {H H' : Hp} {B p : Addr} (b : Bag H B p) (h : LamX.ExtN H H') : Bag H' B p := by
  obtain ⟨ns, i, r, sd, c, h1, h2, h3⟩ := b.ex
  exact ⟨ns, i, r, sd, c, h _ _ h1 (fun ps z => by cases z), h _ _ h2 (fun ps z => by cases z), h3⟩
theorem tabs_but {T : List (Addr × Str)} {H H' : Hp} {B p : Addr} (t : LamX.Tabs T H) (b : Bag H B p) (u : But B H H') : LamX.Tabs T H' := by
  obtain ⟨ns, i, r, sd, c, h1, _⟩ := b.ex
  intro q hq
  obtain ⟨ps, e1, e2, e3⟩ := t q hq
  refine ⟨ps, u _ _ (fun z => ?_) e1, e2, fun pos cv hc => ?_⟩
  · rw [z, h1] at e1
    cases e1
  · obtain ⟨c0, z1, z2⟩ := e3 pos cv hc
    refine ⟨c0, z1, u _ _ (fun z => ?_) z2⟩
    rw [z, h1] at z2
    cases z2
/-- a fraction other than the bag stays -/
theorem Fr.but {H H' : Hp} {B p : Addr} {n : Nat} {v : V} {u l : Int} (h : Fr H n v u l) (b : Bag H B p) (s : But B H H') : Fr H' n v u l := by
  obtain ⟨a, e, h1, h2⟩ := h
  obtain ⟨ns, i, r, sd, c, hb, _⟩ := b.ex
  refine ⟨a, e, s _ _ (fun z => ?_) h1, h2⟩
  rw [z, hb] at h1
  cases h1
theorem Fr.go {H H' : Hp} {B p : Addr} {n : Nat} {v : V} {u l : Int} (h : Fr H n v u l) (b : Bag H B p) (s : Go B H H') : Fr H' n v u l := by
  obtain ⟨a, e, h1, h2⟩ := h
  obtain ⟨ns, i, r, sd, c, hb, _⟩ := b.ex
  refine ⟨a, e, s _ _ (fun z => ?_) (fun ps z => by cases z) h1, h2⟩
  rw [z, hb] at h1
  cases h1
theorem lt10_60 {x : Int} (h : x < 10 ^ 60) (h0 : 0 ≤ x) : x.natAbs < 2 ^ 240 := by
  have z : (10 : Int) ^ 60 ≤ ((2 ^ 240 : Nat) : Int) := by decide
  omega
def ratR (p q : Int) : Option (Int × Int) := if q = 0 then none else some (lowU p q, lowL p q)
theorem rd_rat {H : Hp} {Q : VK} {CP CZ : Addr} {p q : Int} {E : XK} {Q' : VK} (hE : ∀ cls d H', Flt H' CP CZ cls d Q → E cls d H') (hQ : ∀ v H1, (2 ≤ sizeLine ∧ ∀ t, H1 t = none → Q (.ref t) (upd H1 t (.lst [.str "told", v]))) → Q' v H1)
    (hq : q.natAbs < 2 ^ 1000) (k : ∀ t H', Same H H' → Told H' t (ratR p q) → Q t H') : spRatioX CZ [.int p, .int q] H Q' E := by
  refine ⟨p, q, rfl, fun n0 => ⟨Nat.lt_of_le_of_lt (log_le (gS_le n0)) (Nat.lt_trans (log_bd hq (by decide)) (by decide)), fun t H' s n e => hQ _ _ ⟨by decide, fun t2 n2 => ?_⟩⟩, fun z => ?_⟩
  · refine k _ _ (s.trans (new_same n2 _)) ?_
    unfold ratR
    rw [if_neg n0]
    exact ⟨t2, _, rfl, upd_same, t, rfl, new_same n2 _ _ _ e⟩
  · refine fun dd H' s n e => hE _ _ _ (.inr ⟨rfl, dd, rfl, e, fun t H2 s2 n2 e2 => k _ _ (s.trans s2) ?_⟩)
    unfold ratR
    rw [if_pos z]
    exact ⟨t, rfl, e2⟩
abbrev nRs : List Str := ["_law_bag_here", "_law_p", "_law_q", "_law_c", "_law_due"]
def spRs (T : List (Addr × Str)) : Sp := fun vs H Q _ => ∃ (B p : Addr) (n m : Int), vs = [.ref B, .int n, .int m] ∧ Bag H B p ∧ n.natAbs < 2 ^ 240 ∧ m.natAbs < 2 ^ 240 ∧ LamX.Tabs T H ∧ ∀ H', Bag H' B p → Go B H H' → LamX.Tabs T H' → Q (.bl true) H'
theorem scRs : FnScope nRs ["_law_bag_here", "_law_p", "_law_q"] (defScope (top 92)) := ⟨rfl, rfl, rfl, by decide +kernel, rfl, by decide +kernel, by decide +kernel⟩
section
variable {P : Program} {w : World} {K : PySem.W.Frag} {mg : Str → Option Value} {base : Heap} {f c Pt CP CZ CE CN : Addr} {fd : FuncData} {T : List (Addr × Str)}
theorem ok_rs (F : FunC K "_law_ratio_so" "_law_ratio_so" (top 92) f fd c) (U : Kit P w K mg base CP CZ CE CN) (TB : LamX.TabB base mg c Pt) (hmT : (Pt, ((("_law_ratio_so" : Str) ++ ".<locals>.") ++ "<lambda>" : Str)) ∈ T)
    (hu : ∀ p ∈ T, p.1 = Pt → p.2 = ((("_law_ratio_so" : Str) ++ ".<locals>.") ++ "<lambda>" : Str)) : FnOk P w K mg base CX0 7 f fd ["_law_bag_here", "_law_p", "_law_q"] (spRs T) := by
  refine F.ok scRs (fun vs H Q E h => ?_) (fun A outer s H vs Q E hr h => ?_)
  · obtain ⟨B, p, n, m, rfl, _⟩ := h
    rfl
  obtain ⟨B, p, n, m, rfl, hb, hn, hm, hT, q⟩ := h
  have hr1 := hr.mono (show 1 ≤ 6 by decide)
  obtain ⟨gA, fdA, FA, bA, mA⟩ := U.ask
  obtain ⟨oc, od, kV, doc, pm, an, cdv, ct, osl, rfl, lkA, hcdA⟩ := FA.ex
  obtain ⟨fF, fdF, PF, bF, kF, mF⟩ := U.flt
  refine ⟨_, pss_cons (ps_set (i := 3) scRs.nd rfl (Or.inl rfl) (pe_op op_add pe_int (pe_use U.draw hr1 rfl pass0 (pa_cons (pv 0) (pa_cons pe_int pa_nil)))))
    (C8.pss_cut (ps_if (PW.pt (pw_and (pt_cmpR op_lt (pe_op op_mulW (pe_callB call_abs rfl U.mabs (by decide +kernel) (pa_cons (pv 1) pa_nil)) (pv 3)) (pe_op op_pow pe_int pe_int) (nomark _)) (pw_and1 (pt_cmpR op_lt (pe_op op_mulW (pe_callB call_abs rfl U.mabs (by decide +kernel) (pa_cons (pv 2) pa_nil)) (pv 3)) (pe_op op_pow pe_int pe_int) (nomark _)))))
        (pss_one (ps_asg (pe_tup (pa_cons (pe_op op_mulW (pv 1) (pv 3)) (pa_cons (pe_op op_mulW (pv 2) (pv 3)) pa_nil))) (pg_tup rfl (pgs_cons (pg_name (i := 1) scRs.nd rfl (Or.inr rfl)) (pgs_cons (pg_name (i := 2) scRs.nd rfl (Or.inr rfl)) pgs_nil))))) pss_nil)
    (C8.pss_cut (ps_set (i := 4) scRs.nd rfl (Or.inl rfl) (pe_ifExp (pt_cmpR op_eq (pv 2) pe_int (nomark _)) (pe_lst (pa_cons pe_str pa_nil)) (pe_lst (pa_cons pe_str (pa_cons (pe_use U.low hr1 rfl pass0 (pa_cons (pv 1) (pa_cons (pv 2) pa_nil))) pa_nil)))))
    (pss_one (ps_ret (pe_use U.lik hr rfl pass0 (pa_cons (pe_lst (pa_cons
        (LamX.pe_lamcall (k := 4) (t := fun E => tCall (spRatioX CZ) [] E (tCons (tVar 1) (tCons (tVar 2) tNil))) (TT := TAsk CP CZ) rfl mA FA.kp lkA hcdA bA scAsk rfl (Or.inl rfl) (ask_gives (hr.mono (by decide)) PF bF kF mF U.mC U.mN U.e1 U.e2 U.e3) TB rfl hmT hu hr (LamX.lamS_by (show LamX.lamSB (defScope (top 92)) _ = true by decide +kernel)) rfl (fun _ _ _ _ _ => rfl)
          (fun A outer s H E f c' hk => pe_use U.rat (hk.mono (by decide)) rfl (passes_call (takes_of rfl rfl rfl rfl) (fun _ _ _ _ h => h)) (pa_cons (pv 1) (pa_cons (pv 2) pa_nil))))
        (pa_cons (LamX.pe_lamcallD (k := 4) (kd := 0) (px := "_law_x") (t := fun E => tCallR 2 (spRatioX CZ) E (tCons (tVar 2) (tCons (tVar 1) tNil))) (TT := TAsk CP CZ) rfl mA FA.kp lkA hcdA bA scAsk rfl (Or.inl rfl) (ask_gives (hr.mono (by decide)) PF bF kF mF U.mC U.mN U.e1 U.e2 U.e3) TB rfl hmT hu hr (LamX.lamD_by (show LamX.lamDB nRs (defScope (top 92)) _ "_law_x" = true by decide +kernel)) rfl (fun _ _ _ _ _ _ _ => ⟨_, rfl, rfl⟩)
          (fun A outer s H E f c' hk => pe_useR (ks := ["lower", "upper"]) U.rat (hk.mono (by decide)) rfl (passes_call (takes_of rfl rfl rfl rfl) (fun _ _ _ _ h => h)) rfl (pk_cons (pv 2) (pk_cons (pv 1) pk_nil)) (by simp)))
        pa_nil))) (pa_cons (pe_lst (pa_cons (pv 4) (pa_cons (pv 4) pa_nil))) pa_nil))))))), ?_⟩
  refine ⟨_, rfl, B, p, 12, rfl, by decide, by decide, hb, fun H1 k b1 u1 k0 k1 => ?_⟩
  have T1 := tabs_but hT hb u1
  refine ⟨1, k, rfl, rfl, ?_⟩
  have c0 : (0 : Int) < 1 + k := by omega
  have c8 : (1 + k).natAbs < 2 ^ 8 := by omega
  have bnd : ∀ z : Int, z.natAbs < 2 ^ 240 → (if z < 0 then -z else z) * (1 + k) < 10 ^ 60 → (z * (1 + k)).natAbs < 2 ^ 240 := fun z _ h => by
    have h2 := lt10_60 h (Int.mul_nonneg (by split <;> omega) (by omega))
    rw [Int.natAbs_mul] at h2 ⊢
    have e : (if z < 0 then -z else z).natAbs = z.natAbs := by split <;> omega
    rwa [e] at h2
  have babs : ∀ z : Int, z.natAbs < 2 ^ 240 → (if z < 0 then -z else z).natAbs < 2 ^ 240 := fun z h => by
    have e : (if z < 0 then -z else z).natAbs = z.natAbs := by split <;> omega
    rwa [e]
  refine ⟨fun σ H' => ∃ n' m' : Int, σ = [some (.ref B), some (.int n'), some (.int m'), some (.int (1 + k)), none] ∧ n'.natAbs < 2 ^ 240 ∧ m'.natAbs < 2 ^ 240 ∧ Same H1 H', ?_, ?_⟩
  · refine ⟨_, rfl, n, rfl, _, rfl, _, _, rfl, rfl, wide_mul (babs n hn) c8 (by decide) (by decide) (by decide), 10, 60, rfl, rfl, ⟨by decide, by decide, by decide⟩, _, _, rfl, rfl, _, rfl, ite2 (fun l1 => ?_) (fun _ => ?_)⟩
    · refine ⟨_, rfl, m, rfl, _, rfl, _, _, rfl, rfl, wide_mul (babs m hm) c8 (by decide) (by decide) (by decide), 10, 60, rfl, rfl, ⟨by decide, by decide, by decide⟩, _, _, rfl, rfl, _, rfl, ite2 (fun l2 => ?_) (fun _ => ?_)⟩
      · refine ⟨_, rfl, _, rfl, n, (1 + k), rfl, rfl, wide_mul hn c8 (by decide) (by decide) (by decide), _, rfl, _, rfl, m, (1 + k), rfl, rfl, wide_mul hm c8 (by decide) (by decide) (by decide), (by show 2 ≤ sizeLine; decide), fun t nt => ?_⟩
        exact ⟨t, _, rfl, SqT.of upd_same, rfl, _, _, rfl, _, _, rfl, rfl, _, _, rfl, bnd n hn (of_decide_eq_true l1), bnd m hm (of_decide_eq_true l2), new_same nt _⟩
      · exact ⟨n, m, rfl, hn, hm, Same.refl _⟩
    · exact ⟨n, m, rfl, hn, hm, Same.refl _⟩
  rintro σ H2 ⟨n', m', rfl, hn', hm', s2⟩
  clear bnd babs hn hm
  have hm1 : m'.natAbs < 2 ^ 1000 := Nat.lt_trans hm' (Nat.pow_lt_pow_right (by decide) (by decide))
  refine ⟨fun σ H' => ∃ v, σ = [some (.ref B), some (.int n'), some (.int m'), some (.int (1 + k)), some v] ∧ Same H1 H' ∧ Told H' v (ratR n' m'), ?_, ?_⟩
  · refine ⟨_, rfl, rfl, _, rfl, ite2 (fun e => ?_) (fun e => ?_)⟩
    · refine ⟨(by show 1 ≤ sizeLine; decide), fun t nt => ⟨_, rfl, s2.trans (new_same nt _), ?_⟩⟩
      unfold ratR
      rw [if_pos (V.int.inj (of_decide_eq_true e))]
      exact ⟨t, rfl, upd_same⟩
    · have z : m' ≠ 0 := fun h => of_decide_eq_false (Bool.eq_false_iff.mpr e) (congrArg V.int h)
      refine ⟨_, rfl, _, rfl, _, _, rfl, z, Nat.lt_trans (log_bd hm1 (by decide)) (by decide), fun t nt => ⟨(by show 2 ≤ sizeLine; decide), fun t2 n2 => ⟨_, rfl, (s2.trans (new_same nt _)).trans (new_same n2 _), ?_⟩⟩⟩
      unfold ratR
      rw [if_neg z]
      exact ⟨t2, _, rfl, upd_same, t, rfl, new_same n2 _ _ _ upd_same⟩
  clear s2
  rintro σ H5 ⟨v, rfl, s1, tv⟩
  refine ⟨T1.ext s1, fun H6 x6 T6 => ?_⟩
  refine ⟨_, rfl, _, rfl, rd_rat (fun _ _ _ h => h) (fun _ _ h => h) hm1 (fun r1 H7 s7 t7 => ?_)⟩
  refine ⟨T6.ext s7, fun H8 tu x8 T8 htu => ⟨htu, _, rfl, _, rfl, rfl, rd_rat (fun _ _ _ h => h) (fun _ _ h => h) hm1 (fun r2 H9 s9 t9 => ?_)⟩⟩
  refine ⟨(by show 2 ≤ sizeLine; decide), fun l1 n1 => ⟨_, rfl, _, rfl, (by show 2 ≤ sizeLine; decide), fun l2 n2 => ?_⟩⟩
  have z1 := new_same n1 (HO.lst [r1, r2])
  have z2 := new_same n2 (HO.lst [v, v])
  have tvE := ((((tv.ext x6).same s7).ext x8).same s9).same (z1.trans z2)
  have t7E := ((t7.ext x8).same s9).same (z1.trans z2)
  have t9E := t9.same (z1.trans z2)
  refine ⟨.ref l1, .ref l2, _, _, rfl, .inr ⟨l1, l2, _, _, rfl, rfl, (by show 2 ≤ 60; decide), ⟨_, z2 _ _ upd_same⟩, ⟨_, upd_same⟩, .cons (t7E.tw (n := 1) tvE) (.cons (t9E.tw (n := 1) tvE) .nil), .inl ⟨z2 _ _ upd_same, upd_same⟩⟩, fun H' s' => ?_⟩
  have fin : Same H9 H' := z1.trans (z2.trans s')
  have e1 : LamX.ExtN H1 H' := ((((LamX.ExtN.of s1).trans x6).trans (.of s7)).trans x8).trans (.of (s9.trans fin))
  exact q H' (b1.ext e1) ((Go.of u1).trans (Go.ext e1)) (T8.ext (s9.trans fin))
end
end Kq
end
section
set_option maxHeartbeats 4000000
namespace Kq
open PySem PySem.Spec PyProof.Rows L2
abbrev nPs : List Str := ["_law_bag_here", "_law_a", "_law_k", "_law_due", "_law_p", "_law_q", "_law_odd"]
theorem scPs : FnScope nPs ["_law_bag_here", "_law_a"] (defScope (top 93)) := ⟨rfl, rfl, rfl, by decide +kernel, rfl, by decide +kernel, by decide +kernel⟩
theorem low_cop {p q : Int} (h : Nat.gcd p.natAbs q.natAbs = 1) : lowU p q = (if q < 0 then -p else p) ∧ lowL p q = (if q < 0 then -q else q) := by
  unfold lowU lowL gS
  rw [h]
  split
  · exact ⟨by rw [Int.fdiv_neg (by decide)]; simp, by rw [Int.fdiv_neg (by decide)]; simp⟩
  · simp
/-- the answer: InvalidPower with its value; or one of Told's -/
def TolP (H : Hp) (v : V) : V ⊕ Option (Int × Int) → Prop
  | .inl z => ∃ a, v = .ref a ∧ H a = some (.lst [.str "InvalidPower", z])
  | .inr r => Told H v r
theorem TolP.same {H H' : Hp} {v : V} {r : V ⊕ Option (Int × Int)} (h : TolP H v r) (s : Same H H') : TolP H' v r := by
  cases r with
  | inl z =>
    obtain ⟨a, e, h1⟩ := h
    exact ⟨a, e, s _ _ h1⟩
  | inr r => exact Told.same h s
theorem TolP.ext {H H' : Hp} {v : V} {r : V ⊕ Option (Int × Int)} (h : TolP H v r) (s : LamX.ExtN H H') : TolP H' v r := by
  cases r with
  | inl z =>
    obtain ⟨a, e, h1⟩ := h
    exact ⟨a, e, s _ _ h1 (fun ps z => by cases z)⟩
  | inr r => exact Told.ext h s
theorem TolP.tw {H : Hp} {v v' : V} {r : V ⊕ Option (Int × Int)} {n : Nat} (h : TolP H v r) (h' : TolP H v' r) (hz : ∀ z, r = .inl z → Tw (Trk H) (Trk H) (n + 1) H z z) : Tw (Trk H) (Trk H) (n + 2) H v v' := by
  cases r with
  | inl z =>
    obtain ⟨a, rfl, ha⟩ := h
    obtain ⟨b, rfl, hb⟩ := h'
    exact .inr ⟨a, b, _, _, rfl, rfl, (by show 2 ≤ 60; decide), ⟨_, ha⟩, ⟨_, hb⟩, .cons (Tw.flat rfl) (.cons (hz z rfl) .nil), .inl ⟨ha, hb⟩⟩
  | inr r => exact Told.tw h h'
def powR (u l i : Int) : V ⊕ Option (Int × Int) :=
  if 64 < i.natAbs then .inl (.int i) else if u = 0 ∧ i < 0 then .inr none else .inr (some (if i < 0 then (if 0 < u ^ i.natAbs then (l ^ i.natAbs, u ^ i.natAbs) else (-(l ^ i.natAbs), -(u ^ i.natAbs))) else (u ^ i.natAbs, l ^ i.natAbs)))
/-- a value that is no power -/
def Odd (K : PySem.W.Frag) (H : Hp) (v : V) : Prop := (∃ b, WhV K H v b ∧ (b = true → ∃ i : Int, v = .int i ∧ 64 < i.natAbs)) ∧ Tw (Trk H) (Trk H) 1 H v v
theorem rd_pow {K : PySem.W.Frag} {H : Hp} {Q : VK} {CP CZ : Addr} {x : V} {u l i : Int} {E : XK} {Q' : VK} (hE : ∀ cls d H', Flt H' CP CZ cls d Q → E cls d H') (hQ : ∀ v H1, (2 ≤ sizeLine ∧ ∀ t, H1 t = none → Q (.ref t) (upd H1 t (.lst [.str "told", v]))) → Q' v H1)
    (hx : Fr H 1000 x u l) (cop : Nat.gcd u.natAbs l.natAbs = 1) (k : ∀ t H', Same H H' → TolP H' t (powR u l i) → Q t H') : spPow K CP CZ [x, .int i] H Q' E := by
  refine ⟨x, .int i, rfl, ?_⟩
  by_cases h64 : 64 < i.natAbs
  · refine .inl ⟨true, wh_int i, fun _ => ⟨i, rfl, h64⟩, fun dd H' s n e => hE _ _ _ (.inl ⟨rfl, dd, _, rfl, e, fun t H2 s2 n2 e2 => k _ _ (s.trans s2) ?_⟩)⟩
    unfold powR
    rw [if_pos h64]
    exact ⟨t, rfl, e2⟩
  · have told : ∀ {p q : Int} {t : Addr} {H' : Hp}, Same H H' → H' t = some (.tup [.int p, .int q]) → powR u l i = .inr (some (p, q)) → Q' (.ref t) H' := fun {p q t H'} s e r => hQ _ _ ⟨by decide, fun t2 n2 => k _ _ (s.trans (new_same n2 _)) (by rw [r]; exact ⟨t2, _, rfl, upd_same, t, rfl, new_same n2 _ _ _ e⟩)⟩
    refine .inr ⟨i, u, l, rfl, by omega, hx, cop, fun i0 t H' s n e => told s e ?_, fun i0 => ⟨fun u0 t H' s n e => told s e ?_, fun u0 => ?_⟩⟩
    · unfold powR
      rw [if_neg h64, if_neg (fun z => by omega), if_neg (by omega)]
    · have cp : Nat.gcd (l ^ i.natAbs).natAbs (u ^ i.natAbs).natAbs = 1 := by
        rw [Int.natAbs_pow, Int.natAbs_pow]
        exact Nat.Coprime.pow _ _ (Nat.Coprime.symm cop)
      have un : u ^ i.natAbs ≠ 0 := Int.pow_ne_zero u0
      unfold powR
      rw [if_neg h64, if_neg (fun z => u0 z.1), if_pos i0, (low_cop cp).1, (low_cop cp).2]
      by_cases c : 0 < u ^ i.natAbs
      · rw [if_pos c, if_neg (by omega), if_neg (by omega)]
      · rw [if_neg c, if_pos (by omega), if_pos (by omega)]
    · refine fun dd H' s n e => hE _ _ _ (.inr ⟨rfl, dd, rfl, e, fun t H2 s2 n2 e2 => k _ _ (s.trans s2) ?_⟩)
      unfold powR
      rw [if_neg h64, if_pos ⟨u0, i0⟩]
      exact ⟨t, rfl, e2⟩
theorem rd_odd {K : PySem.W.Frag} {H : Hp} {Q : VK} {CP CZ : Addr} {x z : V} {E : XK} {Q' : VK} (hE : ∀ cls d H', Flt H' CP CZ cls d Q → E cls d H') (ho : Odd K H z) (k : ∀ t H', Same H H' → TolP H' t (.inl z) → Q t H') : spPow K CP CZ [x, z] H Q' E := by
  obtain ⟨⟨b, hw, hb⟩, _⟩ := ho
  exact ⟨x, z, rfl, .inl ⟨b, hw, hb, fun dd H' s n e => hE _ _ _ (.inl ⟨rfl, dd, _, rfl, e, fun t H2 s2 n2 e2 => k _ _ (s.trans s2) ⟨t, rfl, e2⟩⟩)⟩⟩
theorem kb_odd : (kitB "NoneType" "int" = some false ∧ kitB "NoneType" "bool" = some false) ∧ (kitB "bool" "int" = some true ∧ kitB "bool" "bool" = some true) ∧ (kitB "str" "int" = some false ∧ kitB "str" "bool" = some false) ∧
  (kitB "tuple" "int" = some false ∧ kitB "tuple" "bool" = some false) ∧ (kitB "list" "int" = some false ∧ kitB "list" "bool" = some false) := by decide +kernel
section
variable {K : PySem.W.Frag} {H : Hp}
theorem odd_non : Odd K H .non := ⟨⟨false, fun _ _ => ⟨_, false, false, ty_flat rfl, kit_ty kb_odd.1.1, kit_ty kb_odd.1.2, rfl⟩, fun z => Bool.noConfusion z⟩, Tw.flat rfl⟩
theorem odd_bl {b : Bool} : Odd K H (.bl b) := ⟨⟨false, fun _ _ => ⟨_, true, true, ty_flat rfl, kit_ty kb_odd.2.1.1, kit_ty kb_odd.2.1.2, rfl⟩, fun z => Bool.noConfusion z⟩, Tw.flat rfl⟩
theorem odd_str {z : Str} : Odd K H (.str z) := ⟨⟨false, fun _ _ => ⟨_, false, false, ty_flat rfl, kit_ty kb_odd.2.2.1.1, kit_ty kb_odd.2.2.1.2, rfl⟩, fun z => Bool.noConfusion z⟩, Tw.flat rfl⟩
theorem odd_int {i : Int} (h : 64 < i.natAbs) : Odd K H (.int i) := ⟨⟨true, wh_int i, fun _ => ⟨i, rfl, h⟩⟩, Tw.flat rfl⟩
theorem flat_pr {xs : List V} (h : xs.all flatV = true) : Paired (Tw (Trk H) (Trk H) 0 H) xs xs := by
  induction xs with
  | nil => exact .nil
  | cons v r ih =>
    rw [List.all_cons, Bool.and_eq_true] at h
    exact .cons (Tw.flat h.1) (ih h.2)
theorem odd_tup {a : Addr} {xs : List V} (e : H a = some (.tup xs)) (l : xs.length ≤ 60) (h : xs.all flatV = true) : Odd K H (.ref a) := ⟨⟨false, fun _ s => ⟨_, false, false, .base (.tup (s _ _ e)), kit_ty kb_odd.2.2.2.1.1, kit_ty kb_odd.2.2.2.1.2, rfl⟩, fun z => Bool.noConfusion z⟩,
  .inr ⟨a, a, xs, xs, rfl, rfl, l, ⟨_, e⟩, ⟨_, e⟩, flat_pr h, .inr ⟨e, e⟩⟩⟩
theorem odd_lst {a : Addr} {xs : List V} (e : H a = some (.lst xs)) (l : xs.length ≤ 60) (h : xs.all flatV = true) : Odd K H (.ref a) := ⟨⟨false, fun _ s => ⟨_, false, false, .base (.lst (s _ _ e)), kit_ty kb_odd.2.2.2.2.1, kit_ty kb_odd.2.2.2.2.2, rfl⟩, fun z => Bool.noConfusion z⟩,
  .inr ⟨a, a, xs, xs, rfl, rfl, l, ⟨_, e⟩, ⟨_, e⟩, flat_pr h, .inl ⟨e, e⟩⟩⟩
end
def spPs (T : List (Addr × Str)) : Sp := fun vs H Q _ => ∃ (B p : Addr) (x : V) (u l : Int), vs = [.ref B, x] ∧ Bag H B p ∧ Fr H 1000 x u l ∧ 0 < l ∧ Nat.gcd u.natAbs l.natAbs = 1 ∧ LamX.Tabs T H ∧ ∀ H', Bag H' B p → Go B H H' → LamX.Tabs T H' → Q (.bl true) H'
section
variable {P : Program} {w : World} {K : PySem.W.Frag} {mg : Str → Option Value} {base : Heap} {f c Pt CP CZ CE CN : Addr} {fd : FuncData} {T : List (Addr × Str)}
theorem ok_ps (F : FunC K "_law_power_so" "_law_power_so" (top 93) f fd c) (U : Kit P w K mg base CP CZ CE CN) (TB : LamX.TabB base mg c Pt) (hmT : (Pt, ((("_law_power_so" : Str) ++ ".<locals>.") ++ "<lambda>" : Str)) ∈ T)
    (hu : ∀ p ∈ T, p.1 = Pt → p.2 = ((("_law_power_so" : Str) ++ ".<locals>.") ++ "<lambda>" : Str)) : FnOk P w K mg base CX0 7 f fd ["_law_bag_here", "_law_a"] (spPs T) := by
  refine F.ok scPs (fun vs H Q E h => ?_) (fun A outer s H vs Q E hr h => ?_)
  · obtain ⟨B, p, x, u, l, rfl, _⟩ := h
    rfl
  obtain ⟨B, p, x, u, l, rfl, hb, fx, l0, cop, hT, q⟩ := h
  have hr1 := hr.mono (show 1 ≤ 6 by decide)
  have hr2 := hr.mono (show 2 ≤ 6 by decide)
  obtain ⟨gA, fdA, FA, bA, mA⟩ := U.ask
  obtain ⟨oc, od, kV, doc, pm, an, cdv, ct, osl, rfl, lkA, hcdA⟩ := FA.ex
  obtain ⟨fF, fdF, PF, bF, kF, mF⟩ := U.flt
  have neg1 : ∀ {X : Cx} {j : Nat} {i : Int} {p1 p2 : Pos}, PE X (.UnaryOp .USub (.Constant (.int i) j p1) p2) (tUn (rU fun i => .int (-i)) (tC (.int i))) := pe_un un_neg pe_int
  refine ⟨_, C8.pss_cut (ps_set (i := 2) scPs.nd rfl (Or.inr rfl) (pe_use U.ofL hr2 rfl pass0 (pa_cons (pv 0) (pa_cons (pe_lst (pa_cons pe_int (pa_cons pe_int (pa_cons pe_int (pa_cons pe_int (pa_cons pe_int (pa_cons neg1 (pa_cons neg1 (pa_cons pe_int (pa_cons neg1 (pa_cons pe_int (pa_cons neg1 (pa_cons pe_int (pa_cons neg1 (pa_cons (pe_op op_pow pe_int pe_int)
        (pa_cons (pe_op op_sub (pe_use U.draw hr1 rfl pass0 (pa_cons (pv 0) (pa_cons pe_int pa_nil))) pe_int) pa_nil)))))))))))))))) pa_nil))))
    (C8.pss_cut (ps_if (PW.pt (pw_or (pt_cmpR op_gt (pe_callB call_abs rfl U.mabs (by decide +kernel) (pa_cons (pe_ix ix_tup (pv 1) pe_int (fun _ _ => rfl)) pa_nil)) (pe_op op_pow pe_int pe_int) (nomark _)) (pw_or1 (pt_cmpR op_gt (pe_ix ix_tup (pv 1) pe_int (fun _ _ => rfl)) (pe_op op_pow pe_int pe_int) (nomark _)))))
        (pss_one (ps_set (i := 2) scPs.nd rfl (Or.inr rfl) (pe_use U.ofL hr2 rfl pass0 (pa_cons (pv 0) (pa_cons (pe_lst (pa_cons (pv 2) (pa_cons pe_int (pa_cons neg1 pa_nil)))) pa_nil))))) pss_nil)
    (C8.pss_cut (ps_if (pt_cmpR op_gt (pe_callB call_abs rfl U.mabs (by decide +kernel) (pa_cons (pv 2) pa_nil)) pe_int (nomark _)) (pss_one (ps_set (i := 3) scPs.nd rfl (Or.inl rfl) (pe_lst (pa_cons pe_str (pa_cons (pv 2) pa_nil)))))
        (pss_one (ps_if (PW.pt (pw_and (pt_cmpR op_eq (pe_ix ix_tup (pv 1) pe_int (fun _ _ => rfl)) pe_int (nomark _)) (pw_and1 (pt_cmpR op_lt (pv 2) pe_int (nomark _))))) (pss_one (ps_set (i := 3) scPs.nd rfl (Or.inl rfl) (pe_lst (pa_cons pe_str pa_nil))))
          (pss_cons (ps_asg (pe_use U.lra hr1 rfl pass0 (pa_cons (pv 1) (pa_cons (pe_callB call_abs rfl U.mabs (by decide +kernel) (pa_cons (pv 2) pa_nil)) pa_nil))) (pg_tup rfl (pgs_cons (pg_name (i := 4) scPs.nd rfl (Or.inl rfl)) (pgs_cons (pg_name (i := 5) scPs.nd rfl (Or.inl rfl)) pgs_nil))))
          (pss_cons (ps_if (pt_cmpR op_lt (pv 2) pe_int (nomark _)) (pss_one (ps_asg (pe_ifExp (pt_cmpR op_gt (pv 4) pe_int (nomark _)) (pe_tup (pa_cons (pv 5) (pa_cons (pv 4) pa_nil))) (pe_tup (pa_cons (pe_un un_neg (pv 5)) (pa_cons (pe_un un_neg (pv 4)) pa_nil)))) (pg_tup rfl (pgs_cons (pg_name (i := 4) scPs.nd rfl (Or.inl rfl)) (pgs_cons (pg_name (i := 5) scPs.nd rfl (Or.inl rfl)) pgs_nil))))) pss_nil)
          (pss_one (ps_set (i := 3) scPs.nd rfl (Or.inl rfl) (pe_lst (pa_cons pe_str (pa_cons (pe_tup (pa_cons (pv 4) (pa_cons (pv 5) pa_nil))) pa_nil))))))))))
    (C8.pss_cut (ps_if (pt_not (pt_val (pe_use U.lik hr rfl pass0 (pa_cons (pe_lst (pa_cons
        (LamX.pe_lamcall (k := 4) (t := fun E => tCall (spPow K CP CZ) [] E (tCons (tVar 1) (tCons (tVar 2) tNil))) (TT := TAsk CP CZ) rfl mA FA.kp lkA hcdA bA scAsk rfl (Or.inl rfl) (ask_gives (hr.mono (by decide)) PF bF kF mF U.mC U.mN U.e1 U.e2 U.e3) TB rfl hmT hu hr (LamX.lamS_by (show LamX.lamSB (defScope (top 93)) _ = true by decide +kernel)) rfl (fun _ _ _ _ _ => rfl)
          (fun A outer s H E f c' hk => pe_use U.pow hk rfl (passes_call (takes_of rfl rfl rfl rfl) (fun _ _ _ _ h => h)) (pa_cons (pv 1) (pa_cons (pv 2) pa_nil))))
        (pa_cons (LamX.pe_lamcallD (k := 4) (kd := 0) (px := "_law_x") (t := fun E => tCallR 2 (spPow K CP CZ) E (tCons (tVar 2) (tCons (tVar 1) tNil))) (TT := TAsk CP CZ) rfl mA FA.kp lkA hcdA bA scAsk rfl (Or.inl rfl) (ask_gives (hr.mono (by decide)) PF bF kF mF U.mC U.mN U.e1 U.e2 U.e3) TB rfl hmT hu hr (LamX.lamD_by (show LamX.lamDB nPs (defScope (top 93)) _ "_law_x" = true by decide +kernel)) rfl (fun _ _ _ _ _ _ _ => ⟨_, rfl, rfl⟩)
          (fun A outer s H E f c' hk => pe_useR (ks := ["n", "value"]) U.pow hk rfl (passes_call (takes_of rfl rfl rfl rfl) (fun _ _ _ _ h => h)) rfl (pk_cons (pv 2) (pk_cons (pv 1) pk_nil)) (by simp)))
        pa_nil))) (pa_cons (pe_lst (pa_cons (pv 3) (pa_cons (pv 3) pa_nil))) pa_nil))))) (pss_one (ps_ret pe_bl)) pss_nil)
    (C8.pss_cut (ps_set (i := 6) scPs.nd rfl (Or.inr rfl) (pe_use U.ofL hr2 rfl pass0 (pa_cons (pv 0) (pa_cons (pe_lst (pa_cons pe_non (pa_cons pe_bl (pa_cons pe_bl (pa_cons pe_str (pa_cons pe_str (pa_cons (pe_tup (pa_cons pe_int (pa_cons pe_int pa_nil))) (pa_cons (pe_tup (pa_cons pe_int (pa_cons pe_int pa_nil))) (pa_cons (pe_lst (pa_cons pe_int pa_nil)) (pa_cons (pe_tup pa_nil)
        (pa_cons pe_int (pa_cons neg1 (pa_cons (pe_op op_pow pe_int pe_int) pa_nil))))))))))))) pa_nil))))
    (pss_one (ps_ret (pe_use U.lik hr rfl pass0 (pa_cons
        (LamX.pe_lamcall (k := 4) (t := fun E => tCall (spPow K CP CZ) [] E (tCons (tVar 1) (tCons (tVar 6) tNil))) (TT := TAsk CP CZ) rfl mA FA.kp lkA hcdA bA scAsk rfl (Or.inl rfl) (ask_gives (hr.mono (by decide)) PF bF kF mF U.mC U.mN U.e1 U.e2 U.e3) TB rfl hmT hu hr (LamX.lamS_by (show LamX.lamSB (defScope (top 93)) _ = true by decide +kernel)) rfl (fun _ _ _ _ _ => rfl)
          (fun A outer s H E f c' hk => pe_use U.pow hk rfl (passes_call (takes_of rfl rfl rfl rfl) (fun _ _ _ _ h => h)) (pa_cons (pv 1) (pa_cons (pv 6) pa_nil))))
        (pa_cons (pe_lst (pa_cons pe_str (pa_cons (pv 6) pa_nil))) pa_nil))))))))), ?_⟩
  obtain ⟨xa, rfl, hx, a1, b1, bz⟩ := id fx
  have sxx : ∀ {H1 : Hp}, But B H H1 → SqT K H1 xa [.int u, .int l] := fun {H1} ub => by
    obtain ⟨a', e', h', _⟩ := fx.but hb ub
    cases e'
    exact SqT.of h'
  refine ⟨fun σ H1 => ∃ i : Int, σ = [some (.ref B), some (.ref xa), some (.int i), none, none, none, none] ∧ i.natAbs < 2 ^ 68 ∧ Bag H1 B p ∧ But B H H1, ?_, ?_⟩
  · refine ⟨_, rfl, 1, rfl, 2, rfl, 64, rfl, 65, rfl, 33, rfl, 10, 20, rfl, rfl, ⟨by decide, by decide, by decide⟩, _, rfl, B, p, 133, rfl, by decide, by decide, hb, fun H1 d b1 u1 d0 d1 => ?_⟩
    refine ⟨d, 66, rfl, rfl, (by show 15 ≤ sizeLine; decide), fun t nt => ⟨B, p, t, _, rfl, upd_same, (b1.at nt).1, (by show 0 < 15; decide), (by show 15 ≤ 1000; decide), b1.put nt, fun H2 z b2 u2 hz => ?_⟩⟩
    obtain ⟨i, rfl, hi⟩ : ∃ i : Int, z = .int i ∧ i.natAbs < 2 ^ 68 := by
      simp only [List.mem_cons, List.not_mem_nil, or_false] at hz
      rcases hz with rfl | rfl | rfl | rfl | rfl | rfl | rfl | rfl | rfl | rfl | rfl | rfl | rfl | rfl | rfl <;> first | exact ⟨_, rfl, by decide⟩ | exact ⟨d - 66, rfl, by omega⟩
    exact ⟨i, rfl, hi, b2, u1.trans ((But.new nt).trans u2)⟩
  rintro σ H1 ⟨i0, rfl, hi0, c1, v1⟩
  refine ⟨fun σ H1 => ∃ i : Int, σ = [some (.ref B), some (.ref xa), some (.int i), none, none, none, none] ∧ i.natAbs < 2 ^ 68 ∧ Bag H1 B p ∧ But B H H1, ?_, ?_⟩
  · have sx := sxx v1
    refine ⟨_, rfl, xa, _, 0, _, rfl, rfl, sx, rfl, u, rfl, 10, 9, rfl, rfl, ⟨by decide, by decide, by decide⟩, _, _, rfl, rfl, _, rfl, ite2 (fun _ => ?_) (fun _ => ⟨_, rfl, xa, _, 1, _, rfl, rfl, sx, rfl, 10, 9, rfl, rfl, ⟨by decide, by decide, by decide⟩, _, _, rfl, rfl, _, rfl, ite2 (fun _ => ?_) (fun _ => ?_)⟩)⟩
    rotate_left 2
    · exact ⟨i0, rfl, hi0, c1, v1⟩
    all_goals
      refine ⟨_, rfl, _, rfl, 3, rfl, (by show 3 ≤ sizeLine; decide), fun t nt => ⟨B, p, t, _, rfl, upd_same, (c1.at nt).1, (by show 0 < 3; decide), (by show 3 ≤ 1000; decide), c1.put nt, fun H2 z b2 u2 hz => ?_⟩⟩
      obtain ⟨i, rfl, hi⟩ : ∃ i : Int, z = .int i ∧ i.natAbs < 2 ^ 68 := by
        simp only [List.mem_cons, List.not_mem_nil, or_false] at hz
        rcases hz with rfl | rfl | rfl <;> first | exact ⟨_, rfl, hi0⟩ | exact ⟨_, rfl, by decide⟩
      exact ⟨i, rfl, hi, b2, v1.trans ((But.new nt).trans u2)⟩
  clear c1 v1 hi0 i0
  rintro σ H1 ⟨i, rfl, hi, c1, v1⟩
  refine ⟨fun σ H2 => ∃ dv pv qv, σ = [some (.ref B), some (.ref xa), some (.int i), some dv, pv, qv, none] ∧ Same H1 H2 ∧ TolP H2 dv (powR u l i), ?_, ?_⟩
  · have sx := sxx v1
    have fx1 := fx.but hb v1
    have ab := abs_nat i
    refine ⟨_, rfl, i, rfl, _, _, rfl, rfl, _, rfl, ite2 (fun e => ?_) (fun e => ?_)⟩
    · have e := of_decide_eq_true e
      refine ⟨_, rfl, (by show 2 ≤ sizeLine; decide), fun t nt => ⟨_, _, _, rfl, new_same nt _, ?_⟩⟩
      unfold powR
      rw [if_pos (by omega)]
      exact ⟨t, rfl, upd_same⟩
    · have e := of_decide_eq_false (Bool.eq_false_iff.mpr e)
      have i64 : ¬ 64 < i.natAbs := by omega
      refine ⟨_, rfl, xa, _, 0, _, rfl, rfl, sx, rfl, rfl, _, rfl, ite2 (fun e1 => ⟨_, rfl, i, 0, rfl, rfl, _, rfl, ite2 (fun e2 => ?_) (fun e2 => ?_)⟩) (fun e1 => ?_)⟩
      · refine ⟨(by show 1 ≤ sizeLine; decide), fun t nt => ⟨_, _, _, rfl, new_same nt _, ?_⟩⟩
        unfold powR
        rw [if_neg i64, if_pos ⟨V.int.inj (of_decide_eq_true e1), of_decide_eq_true e2⟩]
        exact ⟨t, rfl, upd_same⟩
      all_goals
        have hne : ¬ (u = 0 ∧ i < 0) := by
          rintro ⟨z1, z2⟩
          first
            | exact (of_decide_eq_false (Bool.eq_false_iff.mpr e2)) z2
            | exact of_decide_eq_false (Bool.eq_false_iff.mpr e1) (congrArg V.int z1)
        have fin : ∀ {H2 : Hp} {t4 t5 : Addr} {pp qq : Int}, Same H1 H2 → H2 t4 = none → upd H2 t4 (.tup [.int pp, .int qq]) t5 = none → powR u l i = .inr (some (pp, qq)) →
            Same H1 (upd (upd H2 t4 (.tup [.int pp, .int qq])) t5 (.lst [.str "told", .ref t4])) ∧ TolP (upd (upd H2 t4 (.tup [.int pp, .int qq])) t5 (.lst [.str "told", .ref t4])) (.ref t5) (powR u l i) := fun {H2 t4 t5 pp qq} s n4 n5 r =>
          ⟨(s.trans (new_same n4 _)).trans (new_same n5 _), by rw [r]; exact ⟨t5, _, rfl, upd_same, t4, rfl, new_same n5 _ _ _ upd_same⟩⟩
        refine ⟨_, rfl, _, rfl, i, rfl, _, u, l, i.natAbs, congrArg (fun z => [V.ref xa, .int z]) ab, by omega, fx1, fun t1 H2 s2 n2 g2 => ?_⟩
        refine ⟨t1, _, rfl, SqT.of g2, rfl, _, _, rfl, _, _, rfl, rfl, ?_⟩
        refine ⟨_, rfl, i, 0, rfl, rfl, _, rfl, ite2 (fun ng => ?_) (fun ng => ?_)⟩
        · have ng := of_decide_eq_true ng
          refine ⟨_, rfl, _, 0, rfl, rfl, _, rfl, ite2 (fun ps => ?_) (fun ps => ?_)⟩
          · refine ⟨_, rfl, _, rfl, (by show 2 ≤ sizeLine; decide), fun t3 n3 => ⟨t3, _, rfl, SqT.of upd_same, rfl, _, _, rfl, _, _, rfl, rfl, ?_⟩⟩
            refine ⟨_, rfl, _, rfl, (by show 2 ≤ sizeLine; decide), fun t4 n4 => ⟨(by show 2 ≤ sizeLine; decide), fun t5 n5 => ⟨_, _, _, rfl, fin (s2.trans (new_same n3 _)) n4 n5 ?_⟩⟩⟩
            unfold powR
            rw [if_neg i64, if_neg hne, if_pos ng, if_pos (of_decide_eq_true ps)]
          · refine ⟨_, rfl, _, rfl, _, rfl, _, rfl, (by show 2 ≤ sizeLine; decide), fun t3 n3 => ⟨t3, _, rfl, SqT.of upd_same, rfl, _, _, rfl, _, _, rfl, rfl, ?_⟩⟩
            refine ⟨_, rfl, _, rfl, (by show 2 ≤ sizeLine; decide), fun t4 n4 => ⟨(by show 2 ≤ sizeLine; decide), fun t5 n5 => ⟨_, _, _, rfl, fin (s2.trans (new_same n3 _)) n4 n5 ?_⟩⟩⟩
            unfold powR
            rw [if_neg i64, if_neg hne, if_pos ng, if_neg (of_decide_eq_false (Bool.eq_false_iff.mpr ps))]
        · refine ⟨_, rfl, _, rfl, (by show 2 ≤ sizeLine; decide), fun t4 n4 => ⟨(by show 2 ≤ sizeLine; decide), fun t5 n5 => ⟨_, _, _, rfl, fin s2 n4 n5 ?_⟩⟩⟩
          unfold powR
          rw [if_neg i64, if_neg hne, if_neg (of_decide_eq_false (Bool.eq_false_iff.mpr ng))]
  rintro σ H5 ⟨v, pv, qv, rfl, s1, tv⟩
  have T5 : LamX.Tabs T H5 := (tabs_but hT hb v1).ext s1
  have fx5 : Fr H5 1000 (.ref xa) u l := (fx.but hb v1).same s1
  have c5 : Bag H5 B p := c1.same s1
  have g5 : Go B H H5 := (Go.of v1).trans (Go.ext (.of s1))
  have flatI : ∀ {H' : Hp} (z : V), powR u l i = .inl z → Tw (Trk H') (Trk H') (1 + 1) H' z z := fun {H'} z e => by
    unfold powR at e
    by_cases h : 64 < i.natAbs
    · rw [if_pos h] at e
      cases e
      exact Tw.flat rfl
    · rw [if_neg h] at e
      split at e <;> cases e
  refine ⟨fun σ H6 => σ = [some (.ref B), some (.ref xa), some (.int i), some v, pv, qv, none] ∧ Bag H6 B p ∧ Go B H H6 ∧ LamX.Tabs T H6 ∧ Fr H6 1000 (.ref xa) u l, ?_, ?_⟩
  · refine ⟨T5, fun H6 x6 T6 => ?_⟩
    refine ⟨_, rfl, _, rfl, rd_pow (fun _ _ _ h => h) (fun _ _ h => h) (fx5.ext x6) cop (fun r1 H7 s7 t7 => ?_)⟩
    refine ⟨T6.ext s7, fun H8 tu x8 T8 htu => ⟨htu, _, rfl, _, rfl, rfl, rd_pow (fun _ _ _ h => h) (fun _ _ h => h) (((fx5.ext x6).same s7).ext x8) cop (fun r2 H9 s9 t9 => ?_)⟩⟩
    refine ⟨(by show 2 ≤ sizeLine; decide), fun l1 n1 => ⟨_, rfl, _, rfl, (by show 2 ≤ sizeLine; decide), fun l2 n2 => ?_⟩⟩
    have z1 := new_same n1 (HO.lst [r1, r2])
    have z2 := new_same n2 (HO.lst [v, v])
    have tvE := ((((tv.ext x6).same s7).ext x8).same s9).same (z1.trans z2)
    have t7E := ((t7.ext x8).same s9).same (z1.trans z2)
    have t9E := t9.same (z1.trans z2)
    refine ⟨.ref l1, .ref l2, _, _, rfl, .inr ⟨l1, l2, _, _, rfl, rfl, (by show 2 ≤ 60; decide), ⟨_, z2 _ _ upd_same⟩, ⟨_, upd_same⟩, .cons (t7E.tw (n := 1) tvE flatI) (.cons (t9E.tw (n := 1) tvE flatI) .nil), .inl ⟨z2 _ _ upd_same, upd_same⟩⟩, fun H' s' => ?_⟩
    have fin : Same H9 H' := z1.trans (z2.trans s')
    have e1 : LamX.ExtN H5 H' := ((x6.trans (.of s7)).trans x8).trans (.of (s9.trans fin))
    exact ⟨_, rfl, iteF ⟨rfl, c5.ext e1, g5.trans (Go.ext e1), T8.ext (s9.trans fin), fx5.ext e1⟩⟩
  clear flatI g5 c5 fx5 T5 tv s1
  rintro σ H6 ⟨rfl, c6, g6, T6, fx6⟩
  refine ⟨fun σ H7 => ∃ o, σ = [some (.ref B), some (.ref xa), some (.int i), some v, pv, qv, some o] ∧ Bag H7 B p ∧ Go B H H7 ∧ LamX.Tabs T H7 ∧ (∀ H', LamX.ExtN H7 H' → Odd K H' o), ?_, ?_⟩
  · refine ⟨_, rfl, (by show 2 ≤ sizeLine; decide), fun t1 n1 => ⟨(by show 2 ≤ sizeLine; decide), fun t2 n2 => ⟨(by show 1 ≤ sizeLine; decide), fun t3 n3 => ⟨(by show 0 ≤ sizeLine; decide), fun t4 n4 => ?_⟩⟩⟩⟩
    have m1 := new_same n1 (HO.tup [.int 2, .int 1])
    have m2 := new_same n2 (HO.tup [.int 1, .int 2])
    have m3 := new_same n3 (HO.lst [.int 2])
    have m4 := new_same n4 (HO.tup [])
    have d1 := c6.put (o := HO.tup [.int 2, .int 1]) n1
    have d2 := d1.put (o := HO.tup [.int 1, .int 2]) n2
    have d3 := d2.put (o := HO.lst [.int 2]) n3
    have d4 := d3.put (o := HO.tup []) n4
    refine ⟨66, rfl, 10, 59, rfl, rfl, ⟨by decide, by decide, by decide⟩, (by show 12 ≤ sizeLine; decide), fun t5 n5 => ⟨B, p, t5, _, rfl, upd_same, (d4.at n5).1, (by show 0 < 12; decide), (by show 12 ≤ 1000; decide), d4.put n5, fun H7 z b7 u7 hz => ?_⟩⟩
    have all : But B H6 H7 := (But.same (m1.trans (m2.trans (m3.trans m4)))).trans ((But.new n5).trans u7)
    have m5 := new_same n5 (HO.lst [.non, .bl true, .bl false, .str "2", .str "", .ref t1, .ref t2, .ref t3, .ref t4, .int 66, .int (-66), .int (10 ^ Int.toNat 59)])
    have e1 : H7 t1 = some (.tup [.int 2, .int 1]) := u7 _ _ (c6.at n1).1 (m5 _ _ (m4 _ _ (m3 _ _ (m2 _ _ upd_same))))
    have e2 : H7 t2 = some (.tup [.int 1, .int 2]) := u7 _ _ (d1.at n2).1 (m5 _ _ (m4 _ _ (m3 _ _ upd_same)))
    have e3 : H7 t3 = some (.lst [.int 2]) := u7 _ _ (d2.at n3).1 (m5 _ _ (m4 _ _ upd_same))
    have e4 : H7 t4 = some (.tup []) := u7 _ _ (d3.at n4).1 (m5 _ _ upd_same)
    refine ⟨z, rfl, b7, g6.trans (Go.of all), tabs_but T6 c6 all, fun H8 x8 => ?_⟩
    simp only [List.mem_cons, List.not_mem_nil, or_false] at hz
    rcases hz with rfl | rfl | rfl | rfl | rfl | rfl | rfl | rfl | rfl | rfl | rfl | rfl
    · exact odd_non
    · exact odd_bl
    · exact odd_bl
    · exact odd_str
    · exact odd_str
    · exact odd_tup (x8 _ _ e1 (fun ps z => by cases z)) (by show 2 ≤ 60; decide) rfl
    · exact odd_tup (x8 _ _ e2 (fun ps z => by cases z)) (by show 2 ≤ 60; decide) rfl
    · exact odd_lst (x8 _ _ e3 (fun ps z => by cases z)) (by show 1 ≤ 60; decide) rfl
    · exact odd_tup (x8 _ _ e4 (fun ps z => by cases z)) (by show 0 ≤ 60; decide) rfl
    · exact odd_int (by decide)
    · exact odd_int (by decide)
    · exact odd_int (by decide)
  clear c6 g6 T6 fx6
  rintro σ H7 ⟨o, rfl, c7, g7, T7, ho⟩
  refine ⟨T7, fun H8 x8 T8 => ?_⟩
  refine ⟨_, rfl, _, rfl, rd_odd (fun _ _ _ h => h) (ho _ x8) (fun r1 H9 s9 t9 => ?_)⟩
  refine ⟨_, rfl, (by show 2 ≤ sizeLine; decide), fun l1 n1 => ?_⟩
  have z1 := new_same n1 (HO.lst [.str "InvalidPower", o])
  have oT := (ho _ (x8.trans (.of (s9.trans z1)))).2
  refine ⟨r1, .ref l1, _, _, rfl, TolP.tw (n := 2) (r := .inl o) (TolP.same t9 z1) ⟨l1, rfl, upd_same⟩ (fun z e => ?_), fun H' s' => ?_⟩
  · cases e
    exact Tw.succ (Tw.succ oT)
  · have fin : Same H9 H' := z1.trans s'
    have e1 : LamX.ExtN H7 H' := x8.trans (.of (s9.trans fin))
    exact q H' (c7.ext e1) (g7.trans (Go.ext e1)) (T8.ext (s9.trans fin))
end
end Kq
end
section
set_option maxHeartbeats 4000000
namespace Kq
open PySem PySem.Spec PyProof.Rows L2 RZ
/-! ### C.m(..), m a staticmethod of the class C -/
structure CSta (K : PySem.W.Frag) (C : Addr) (mc : Value) (m : Str) (p g : Addr) : Prop where
  at_ : PySem.W.findCls K (.ref C) mc m = some (.get (.builtin "staticmethod.__get__") (.ref p) .none (.ref C))
  rc : ∃ rest, PySem.W.recIn K p "staticmethod" = some (.ref g :: rest)
  kp : PySem.W.keepIn K (.ref g) = true
def tStat (C : Addr) (sp : Sp) (E : XK) (ta : TE) (t : TA) : TE := fun σ H Q => ta σ H fun x H1 => x = .ref C ∧ t σ H1 fun vs H2 => sp vs H2 Q E
section
variable {X : Cx} {CX : CXT} {k : Nat} {C p g : Addr} {mc : Value} {fd : FuncData} {ps : List Str} {sp : Sp} {E : XK} {o e : Expr} {es : List Expr} {m : Str} {pos apos : Pos} {ta : TE} {t : TA} {pl : Sem Bool}
theorem pe_static (he : PE X o ta) (r : ClX.CRead X.K C mc) (c : CSta X.K C mc m p g) (F : FnOk X.prog X.w X.K X.mg X.base CX k g fd ps sp) (hr : Room k X.A) (hb : Binds X.K fd ps []) (hx : Passes CX X E) (ha : PA X (e :: es) t)
    (hst : starEach (e :: es) X.env = (false, eval e X.env) :: starEach es X.env := by rfl) (hpl : (backTo pos (starEach es X.env)).any (·.1) = false := by rfl)
    (ht : eval (.Call (.Attribute o m apos) (e :: es) [] pos) X.env = (do
      let ov ← eval o X.env
      standAt apos.atName
      let (f, first) ← holding [ov] (getMethod ov m pl)
      callWith pos f first (backTo pos (starEach (e :: es) X.env)) (backToKw pos (keywordEach [] X.env))) := by rfl) :
    PE X (.Call (.Attribute o m apos) (e :: es) [] pos) (tStat C sp E ta t) := by
  refine ⟨fun pins s σ H Q I h => ?_⟩
  refine PySem.W.methodCall_KW (pl := pl) (thn (he.run pins s σ H _ I h) fun u s1 ⟨x, H1, I1, rx, ex, q⟩ => ?_) ht
  subst ex
  obtain rfl : u = Value.ref C := rx
  obtain ⟨rest, hp⟩ := c.rc
  refine PySem.W.method_cls I1.kIn r.ga (PySem.W.cls_bind I1.kIn r.rd c.at_ (wpAny_call (PySem.W.sm_get (s := { s1 with toks := s1.toks + 1 }) I1.kIn hp (PySem.W.handed_on rfl ?_))))
  have I2 : Inv X pins σ H1 { s1 with toks := s1.toks + 1 } := I1.tok _
  refine PySem.W.callWith_K (h₀ := X.base) I2.ok.mod.kin c.kp (thn (ha.run pos pins _ σ H1 _ I2 q) fun us s3 ⟨vs, H2, I3, rv, q2⟩ => ⟨I3.kIn, ?_⟩) hst hpl
  exact run_fn F hr hb .nil hx I3 rv (by rw [List.append_nil]; exact q2)
end
/-! ### pairs of the module -/
structure KP (K : PySem.W.Frag) (a : Addr) (x y : Int) : Prop where
  ex : ∃ (o : Obj) (its : Array Value) (n : Nat), K.lookup a = some o ∧ o.cls = .type "tuple" ∧ o.data = .seq its n ∧ its.size ≤ sizeLine ∧ Vals [.int x, .int y] its.toList
theorem KP.t {K : PySem.W.Frag} {a : Addr} {x y : Int} (k : KP K a x y) (H : Hp) : SqT K H a [.int x, .int y] := .inr k.ex
theorem KP.ty {K : PySem.W.Frag} {a : Addr} {x y : Int} (k : KP K a x y) (H : Hp) : TyX K H (.ref a) (.type "tuple") := by
  obtain ⟨o, its, n, h1, h2, _⟩ := k.ex
  exact .kTuple h1 h2
theorem KP.dp {K : PySem.W.Frag} {a : Addr} {x y : Int} (k : KP K a x y) (H : Hp) : Dp K H (.ref a) (.tuple [.int x, .int y]) := .tup (k.t H) (.cons (.int _) (.cons (.int _) .nil))
/-- is v a fraction: r; v may stand in the module, too -/
def IsG (K : PySem.W.Frag) (H : Hp) (v : V) (r : Bool) : Prop :=
  (∃ T, TyX K H v T ∧ PySem.W.kitOne K T (.type "tuple") = some false ∧ r = false) ∨
  (∃ a xs, v = .ref a ∧ SqT K H a xs ∧ TyX K H (.ref a) (.type "tuple") ∧ xs.length ≠ 2 ∧ r = false) ∨
  (∃ a x y b1 b2, v = .ref a ∧ SqT K H a [x, y] ∧ TyX K H (.ref a) (.type "tuple") ∧ WhV K H x b1 ∧ WhV K H y b2 ∧ (((b1 && b2) = false ∧ r = false) ∨ ∃ u l : Int, b1 = true ∧ b2 = true ∧ x = .int u ∧ y = .int l ∧ r = (decide (1 ≤ l) && decide (Nat.gcd u.natAbs l.natAbs = 1))))
def spIsG (K : PySem.W.Frag) : Sp := fun vs H Q _ => ∃ (v : V) (r : Bool), vs = [v] ∧ IsG K H v r ∧ Q (.bl r) H
theorem IsF.g {K : PySem.W.Frag} {H : Hp} {v : V} {r : Bool} (h : IsF K H v r) : IsG K H v r := by
  rcases h with h | ⟨a, xs, h1, h2, h3, h4⟩ | ⟨a, x, y, b1, b2, h1, h2, h3⟩
  · exact .inl h
  · exact .inr (.inl ⟨a, xs, h1, SqT.of h2, .base (.tup h2), h3, h4⟩)
  · exact .inr (.inr ⟨a, x, y, b1, b2, h1, SqT.of h2, .base (.tup h2), h3⟩)
/-- the number u over l stands at v -/
def Nm (K : PySem.W.Frag) (H : Hp) (v : V) (u l : Int) : Prop := ∃ a, v = .ref a ∧ (H a = some (.tup [.int u, .int l]) ∨ KP K a u l)
theorem Nm.same {K : PySem.W.Frag} {H H' : Hp} {v : V} {u l : Int} (h : Nm K H v u l) (s : Same H H') : Nm K H' v u l := by
  obtain ⟨a, e, h⟩ := h
  exact ⟨a, e, h.imp (fun h => s _ _ h) id⟩
theorem Nm.isG {K : PySem.W.Frag} {H : Hp} {v : V} {u l : Int} (h : Nm K H v u l) (h1 : 1 ≤ l) (h2 : Nat.gcd u.natAbs l.natAbs = 1) : IsG K H v true := by
  obtain ⟨a, rfl, h⟩ := h
  have e : true = (decide (1 ≤ l) && decide (Nat.gcd u.natAbs l.natAbs = 1)) := by rw [decide_eq_true h1, decide_eq_true h2]; rfl
  rcases h with h | k
  · exact .inr (.inr ⟨a, _, _, true, true, rfl, SqT.of h, .base (.tup h), wh_int _, wh_int _, .inr ⟨u, l, rfl, rfl, rfl, rfl, e⟩⟩)
  · exact .inr (.inr ⟨a, _, _, true, true, rfl, k.t H, k.ty H, wh_int _, wh_int _, .inr ⟨u, l, rfl, rfl, rfl, rfl, e⟩⟩)
theorem Nm.dp {K : PySem.W.Frag} {H : Hp} {v : V} {u l : Int} (h : Nm K H v u l) : Dp K H v (.tuple [.int u, .int l]) := by
  obtain ⟨a, rfl, h⟩ := h
  rcases h with h | k
  · exact .tup (SqT.of h) (.cons (.int _) (.cons (.int _) .nil))
  · exact k.dp H
def AllF (K : PySem.W.Frag) (H : Hp) (xs : List V) : Prop := ∀ x ∈ xs, ∃ u l, Nm K H x u l ∧ 1 ≤ l ∧ Nat.gcd u.natAbs l.natAbs = 1
theorem AllF.same {K : PySem.W.Frag} {H H' : Hp} {xs : List V} (h : AllF K H xs) (s : Same H H') : AllF K H' xs := fun x hx => by
  obtain ⟨u, l, n, r⟩ := h x hx
  exact ⟨u, l, n.same s, r⟩
section
variable {P : Program} {w : World} {K : PySem.W.Frag} {mg : Str → Option Value} {base : Heap} {f fW : Addr} {fd fdW : FuncData}
theorem ok_isg (F : Fun K "is_fraction" "is_fraction" (top 21) f fd) (mI : mg "isinstance" = none) (mt : mg "tuple" = none) (mn : mg "len" = none) (mG : mg "gcd" = some (.builtin "math.gcd"))
    (GW : FnOk P w K mg base CX0 1 fW fdW ["value"] (spWhole K)) (bW : Binds K fdW ["value"] []) (kW : PySem.W.keepIn K (.ref fW) = true) (mW : mg "is_whole" = some (.ref fW)) : FnOk P w K mg base CX0 2 f fd ["value"] (spIsG K) := by
  refine F.ok scIF (fun vs H Q E h => ?_) (fun cdv A outer s H vs Q E hr h => ?_)
  · obtain ⟨v, r, rfl, _⟩ := h
    rfl
  obtain ⟨v, r, rfl, hf, q⟩ := h
  refine ⟨_, pss_cons (ps_if (PW.pt (pw_or (pt_not (pt_val (pe_callB call_isi rfl mI (by decide +kernel) (pa_cons (pv 0) (pa_cons (pe_bltn rfl mt boot_tuple (rel_ty _)) pa_nil))))) (pw_or1 (pt_cmpR op_ne (pe_callB call_len_seq rfl mn PySem.boot_len (pa_cons (pv 0) pa_nil)) pe_int (nomark _))))) (pss_one (ps_ret pe_bl)) pss_nil)
    (pss_cons (ps_asg (pv 0) (pg_tup rfl (pgs_cons (pg_name (i := 1) scIF.nd rfl (Or.inl rfl)) (pgs_cons (pg_name (i := 2) scIF.nd rfl (Or.inl rfl)) pgs_nil))))
    (pss_cons (ps_if (PW.pt (pw_or (pt_not (pt_val (pe_call GW hr rfl mW kW bW .nil pass0 (pa_cons (pv 1) pa_nil)))) (pw_or1 (pt_not (pt_val (pe_call GW hr rfl mW kW bW .nil pass0 (pa_cons (pv 2) pa_nil))))))) (pss_one (ps_ret pe_bl)) pss_nil)
    (pss_one (ps_ret (pe_and (pe_cmpR op_ge (pv 2) pe_int (nomark _)) (pe_one (pe_cmpR op_eq (pe_callBfun cr_gcd rfl mG (pa_cons (pv 1) (pa_cons (pv 2) pa_nil))) pe_int (nomark _)))))))), ?_⟩
  have tk : PySem.W.kitOne K (.type "tuple") (.type "tuple") = some true := kit_ty kb_l.2.2.2
  rcases hf with ⟨T, ty, k, rfl⟩ | ⟨a, xs, rfl, ha, ht, hl, rfl⟩ | ⟨a, x, y, b1, b2, rfl, ha, ht, hx, hy, hh⟩
  · exact ⟨_, rfl, v, _, T, _, false, rfl, .ty _, ty, k, _, rfl, iteT q⟩
  · refine ⟨_, rfl, _, _, _, _, true, rfl, .ty _, ht, tk, _, rfl, iteF ?_⟩
    refine ⟨_, rfl, a, xs, rfl, .inr (ha), rfl, _, rfl, ?_⟩
    rw [decide_eq_false (fun e => hl (by have := V.int.inj e; omega))]
    exact iteT q
  · refine ⟨_, rfl, _, _, _, _, true, rfl, .ty _, ht, tk, _, rfl, iteF ?_⟩
    refine ⟨_, rfl, a, _, rfl, .inr (ha), rfl, _, rfl, iteF ?_⟩
    refine ⟨_, rfl, a, _, rfl, ha, rfl, _, _, rfl, _, _, rfl, rfl, ?_⟩
    rcases hh with ⟨hb, rfl⟩ | ⟨u, l, rfl, rfl, rfl, rfl, rfl⟩
    · cases b1 with
      | false => exact ⟨_, rfl, x, false, rfl, hx, _, rfl, iteT q⟩
      | true =>
        obtain rfl : b2 = false := hb
        exact ⟨_, rfl, x, true, rfl, hx, _, rfl, iteF ⟨_, rfl, y, false, rfl, hy, _, rfl, iteT q⟩⟩
    · refine ⟨_, rfl, _, true, rfl, wh_int u, _, rfl, iteF ⟨_, rfl, _, true, rfl, wh_int l, _, rfl, iteF ?_⟩⟩
      refine ⟨_, rfl, l, 1, rfl, rfl, _, rfl, ?_⟩
      by_cases c : (1 : Int) ≤ l
      · rw [decide_eq_true c] at q ⊢
        refine iteT ⟨_, rfl, _, rfl, u, l, rfl, rfl, ?_⟩
        have e : (decide (V.int ((Nat.gcd u.natAbs l.natAbs : Nat) : Int) = V.int 1)) = (true && decide (Nat.gcd u.natAbs l.natAbs = 1)) := by
          rw [Bool.true_and]
          exact decide_eq_decide.mpr ⟨fun h => by have := V.int.inj h; omega, fun h => by rw [h]; rfl⟩
        rw [← e] at q
        exact q
      · rw [decide_eq_false c] at q ⊢
        exact iteF q
end
end Kq
end
section
set_option maxHeartbeats 4000000
namespace Kq
open PySem PySem.Spec PyProof.Rows L2 RZ
def spCo : Sp := fun vs H Q _ => ∃ n : Int, vs = [.int n] ∧ 2 ≤ n ∧ n ≤ 24 ∧ Q .non H
def spCk (K : PySem.W.Frag) : Sp := fun vs H Q _ => ∃ v : V, vs = [v] ∧ IsG K H v true ∧ Q .non H
def spIl : Sp := fun vs H Q _ => ∃ (a : Addr) (xs : List V), vs = [.ref a] ∧ H a = some (.lst xs) ∧ ∀ H', Same H H' → Q (.bl true) H'
def spCn (K : PySem.W.Frag) : Sp := fun vs H Q _ => ∃ (a : Addr) (xs : List V) (fu : Int), vs = [.ref a, .int fu] ∧ H a = some (.lst xs) ∧ AllF K H xs ∧ 2 ≤ (xs.length : Int) + fu ∧ (xs.length : Int) + fu ≤ 24 ∧ ∀ H' b, Same H H' → H b = none → H' b = some (.lst xs) → Q (.ref b) H'
def spIz (o0 : Addr) : Sp := fun vs H Q _ => ∃ (a : Addr) (n : Nat), vs = [.ref a] ∧ H a = some (.lst (List.replicate n (.ref o0))) ∧ n ≤ 100 ∧ ∀ H', Same H H' → Q (.bl true) H'
def spLp (K : PySem.W.Frag) : Sp := fun vs H Q _ => ∃ (a : Addr) (xs : List V) (fi : Int), vs = [.ref a, .int fi] ∧ H a = some (.lst xs) ∧ AllF K H xs ∧ ∀ H' v, Same H H' → Q v H'
def spKo (o1 o0 : Addr) : Sp := fun vs H Q _ => ∃ (a : Addr) (n : Nat), vs = [.ref a] ∧ (n = 1 ∨ n = 2) ∧ H a = some (.lst (.ref o1 :: List.replicate n (.ref o0))) ∧ ∀ H', Same H H' → Q (.str "still") H'
def spSn (o1 o0 : Addr) : Sp := fun vs H Q _ => ∃ n : Nat, vs = [.int ((n + 1 : Nat) : Int)] ∧ (n = 1 ∨ n = 2) ∧ ∀ H' b, Same H H' → H b = none → H' b = some (.lst (.ref o1 :: List.replicate n (.ref o0))) → Q (.ref b) H'
section
variable {P : Program} {w : World} {K : PySem.W.Frag} {mg : Str → Option Value} {base : Heap} {f fI o1 o0 : Addr} {fd : FuncData}
theorem scCo : FnScope ["order"] ["order"] (defScope (top 36)) := ⟨rfl, rfl, rfl, by decide +kernel, rfl, by decide +kernel, by decide +kernel⟩
theorem ok_corder (G : Fun K "check_order" "check_order" (top 36) f fd) (UB : Use P w K mg base CX0 2 "is_between" ["value", "low", "high"] (spBtw K) [])
    (mL : ∃ u, mg "LOWEST_ORDER" = some u ∧ RelV (.int 2) u) (mH : ∃ u, mg "HIGHEST_ORDER" = some u ∧ RelV (.int 24) u) : FnOk P w K mg base CX0 3 f fd ["order"] spCo := by
  refine G.ok scCo (fun vs H Q E h => ?_) (fun cdv A outer s H vs Q E hr h => ?_)
  · obtain ⟨n, rfl, _⟩ := h
    rfl
  obtain ⟨n, rfl, h1, h2, q⟩ := h
  refine ⟨_, pss_one (ps_if (pt_not (pt_val (pe_use UB hr rfl pass0 (pa_cons (pv 0) (pa_cons (C8.pe_gc rfl mL) (pa_cons (C8.pe_gc rfl mH) pa_nil)))))) (pss_one ps_never) pss_nil), ?_⟩
  refine ⟨_, rfl, _, 2, 24, true, rfl, wh_int n, .inr ⟨n, rfl, rfl, _, rfl, ?_⟩⟩
  rw [decide_eq_true h1, decide_eq_true h2]
  exact iteF q
theorem scCk : FnScope ["value"] ["value"] (defScope (top 39)) := ⟨rfl, rfl, rfl, by decide +kernel, rfl, by decide +kernel, by decide +kernel⟩
theorem ok_cnum (G : Fun K "check_number" "check_number" (top 39) f fd) (UF : Use P w K mg base CX0 2 "is_fraction" ["value"] (spIsG K) [["value"]]) : FnOk P w K mg base CX0 3 f fd ["value"] (spCk K) := by
  refine G.ok scCk (fun vs H Q E h => ?_) (fun cdv A outer s H vs Q E hr h => ?_)
  · obtain ⟨v, rfl, _⟩ := h
    rfl
  obtain ⟨v, rfl, h1, q⟩ := h
  refine ⟨_, pss_one (ps_if (pt_not (pt_val (pe_use UF hr rfl pass0 (pa_cons (pv 0) pa_nil)))) (pss_one ps_never) pss_nil), ?_⟩
  exact ⟨_, rfl, v, true, rfl, h1, _, rfl, iteF q⟩
theorem scIl : FnScope ["value"] ["value"] (defScope (top 35)) := ⟨rfl, rfl, rfl, by decide +kernel, rfl, by decide +kernel, by decide +kernel⟩
theorem ok_listing (G : Fun K "is_listing" "is_listing" (top 35) f fd) (mI : mg "isinstance" = none) (ml : mg "list" = none) (mt : mg "tuple" = none) : FnOk P w K mg base CX0 1 f fd ["value"] spIl := by
  refine G.ok scIl (fun vs H Q E h => ?_) (fun cdv A outer s H vs Q E hr h => ?_)
  · obtain ⟨a, xs, rfl, _⟩ := h
    rfl
  obtain ⟨a, xs, rfl, ha, q⟩ := h
  refine ⟨_, pss_one (ps_ret (pe_callB call_isiT rfl mI (by decide +kernel) (pa_cons (pv 0) (pa_cons (pe_tup (pa_cons (pe_bltn rfl ml boot_list (rel_ty _)) (pa_cons (pe_bltn rfl mt boot_tuple (rel_ty _)) pa_nil))) pa_nil)))), ?_⟩
  refine ⟨_, rfl, (by show 2 ≤ sizeLine; decide), fun p np => ?_⟩
  have g1 := new_same np (.tup [.ty "list", .ty "tuple"])
  exact ⟨_, p, _, .type "list", _, true, rfl, upd_same, .cons (.ty _) (.cons (.ty _) .nil), .base (.lst (g1 _ _ ha)), kit2 kb_l.1 kb_l.2.1 rfl, q _ g1⟩
abbrev nCn : List Str := ["numbers", "further"]
theorem scCn : FnScope nCn ["numbers", "further"] (defScope (top 42)) := ⟨rfl, rfl, rfl, by decide +kernel, rfl, by decide +kernel, by decide +kernel⟩
def spWi (K : PySem.W.Frag) : Sp := fun vs H Q _ => ∃ (a : Addr) (xs : List V), vs = [.ref a] ∧ H a = some (.lst xs) ∧ AllF K H xs ∧ ∀ H', Same H H' → Q .non H'
abbrev nWi : List Str := ["numbers", "at", "number"]
theorem scWi : FnScope nWi ["numbers"] (defScope (top 40)) := ⟨rfl, rfl, rfl, by decide +kernel, rfl, by decide +kernel, by decide +kernel⟩
theorem ok_wrong (G : Fun K "wrong_item" "wrong_item" (top 40) f fd) (me : mg "enumerate" = none) (UF : Use P w K mg base CX0 2 "is_fraction" ["value"] (spIsG K) [["value"]]) : FnOk P w K mg base CX0 3 f fd ["numbers"] (spWi K) := by
  refine G.ok scWi (fun vs H Q E h => ?_) (fun cdv A outer s H vs Q E hr h => ?_)
  · obtain ⟨a, xs, rfl, _⟩ := h
    rfl
  obtain ⟨a, xs, rfl, ha, af, q⟩ := h
  refine ⟨_, pss_cons (ps_for PassesOwn.never rfl (pi_enum rfl me (pa_cons (pv 0) pa_nil)) (pg_tup rfl (pgs_cons (pg_name (i := 1) scWi.nd rfl (Or.inl rfl)) (pgs_cons (pg_name (i := 2) scWi.nd rfl (Or.inl rfl)) pgs_nil)))
      (pss_one (ps_if (pt_not (pt_val (pe_use UF hr rfl pass0 (pa_cons (pv 2) pa_nil)))) (pss_one (ps_ret (pv 1))) pss_nil)))
    (pss_one (ps_ret pe_non)), ?_⟩
  refine ⟨_, rfl, a, _, rfl, SqL.of ha, ?_⟩
  refine for_it (walk_enum (K := K) (a := a) (xs := xs)) (fun i σ H' => Same H H' ∧ ∃ v v', σ = [some (.ref a), v, v']) ⟨Same.refl H, none, none, rfl⟩ (fun i σ H' _ h => SqL.of (h.1 _ _ ha)) ?_ ?_
  · rintro i x σ H2 H3 hi ⟨s2, v, v', rfl⟩ ⟨T, y, z, rfl, hT, rfl, hy, hz⟩
    refine ⟨T, [y, z], rfl, SqT.of upd_same, rfl, y, [z], rfl, z, [], rfl, rfl, ?_⟩
    have s3 := s2.trans (new_same hT (.tup [y, z]))
    generalize upd H2 T (.tup [y, z]) = H3 at s3
    obtain ⟨u, l, nm, g1, g2⟩ := af z (List.mem_of_getElem? hz)
    exact ⟨_, rfl, z, true, rfl, (nm.same s3).isG g1 g2, _, rfl, iteF ⟨s3, _, _, rfl⟩⟩
  · rintro σ H2 ⟨s2, v, v', rfl⟩
    exact q _ s2
theorem scCf : FnScope ["numbers", "at"] ["numbers"] (defScope (top 41)) := ⟨rfl, rfl, rfl, by decide +kernel, rfl, by decide +kernel, by decide +kernel⟩
theorem ok_cfrac (G : Fun K "check_fractions" "check_fractions" (top 41) f fd) (UW : Use P w K mg base CX0 3 "wrong_item" ["numbers"] (spWi K) []) : FnOk P w K mg base CX0 4 f fd ["numbers"] (spWi K) := by
  refine G.ok scCf (fun vs H Q E h => ?_) (fun cdv A outer s H vs Q E hr h => ?_)
  · obtain ⟨a, xs, rfl, _⟩ := h
    rfl
  obtain ⟨a, xs, rfl, ha, af, q⟩ := h
  refine ⟨_, pss_cons (ps_set (i := 1) scCf.nd rfl (Or.inl rfl) (pe_use UW hr rfl pass0 (pa_cons (pv 0) pa_nil)))
    (pss_one (ps_if (pt_cmpR op_notN (pv 1) pe_non (nomark _)) (pss_one ps_never) pss_nil)), ?_⟩
  exact ⟨_, rfl, a, xs, rfl, ha, af, fun H1 s1 => ⟨_, rfl, rfl, _, rfl, iteF (q _ s1)⟩⟩
theorem ok_checked (G : Fun K "checked_numbers" "checked_numbers" (top 42) f fd) (mn : mg "len" = none) (ml : mg "list" = none)
    (UI : Use P w K mg base CX0 1 "is_listing" ["value"] spIl []) (UC : Use P w K mg base CX0 3 "check_order" ["order"] spCo []) (UF : Use P w K mg base CX0 4 "check_fractions" ["numbers"] (spWi K) []) :
    FnOk P w K mg base CX0 5 f fd ["numbers", "further"] (spCn K) := by
  refine G.ok scCn (fun vs H Q E h => ?_) (fun cdv A outer s H vs Q E hr h => ?_)
  · obtain ⟨a, xs, fu, rfl, _⟩ := h
    rfl
  obtain ⟨a, xs, fu, rfl, ha, af, l1, l2, q⟩ := h
  have hr1 := hr.mono (show 1 ≤ 4 by decide)
  have hr3 := hr.mono (show 3 ≤ 4 by decide)
  refine ⟨_, pss_cons (ps_if (pt_not (pt_val (pe_use UI hr1 rfl pass0 (pa_cons (pv 0) pa_nil)))) (pss_one ps_never) pss_nil)
    (pss_cons (ps_expr (pe_use UC hr3 rfl pass0 (pa_cons (pe_op op_add (pe_callB call_len_seq rfl mn PySem.boot_len (pa_cons (pv 0) pa_nil)) (pv 1)) pa_nil)))
    (pss_cons (ps_expr (pe_use UF hr rfl pass0 (pa_cons (pv 0) pa_nil)))
    (pss_one (ps_ret (pe_callTy call_list_of rfl ml (by decide +kernel) (pa_cons (pv 0) pa_nil)))))), ?_⟩
  refine ⟨_, rfl, a, _, rfl, ha, fun H1 s1 => ⟨_, rfl, iteF ?_⟩⟩
  have ha1 := s1 _ _ ha
  refine ⟨_, rfl, a, _, rfl, .inl (SqL.of ha1), _, rfl, _, _, rfl, rfl, _, rfl, l1, l2, ?_⟩
  refine ⟨_, rfl, a, xs, rfl, ha1, af.same s1, fun H2 s2' => ?_⟩
  have s2 := s1.trans s2'
  exact ⟨_, rfl, a, _, rfl, .inl (SqL.of (s2 _ _ ha)), fun b nb => q _ b (s2.trans (new_same nb _)) (s2.free nb) upd_same⟩
abbrev nIz : List Str := ["numbers", "number"]
theorem scIz : FnScope nIz ["numbers"] (defScope (top 46)) := ⟨rfl, rfl, rfl, by decide +kernel, rfl, by decide +kernel, by decide +kernel⟩
theorem eqD_at {X : Cx} (K : PySem.W.Frag) (h : X.K = K) (hu : X.A.units + 64 < cLine) : OpR X (compareOp .Eq) (rEqD K) := by
  subst h
  exact op_eqD hu
theorem ok_iszero (G : Fun K "is_zero" "is_zero" (top 46) f fd) (k0 : KP K o0 0 1) (ma : mg "all" = none) (mZ : mg "ZERO" = some (.ref o0)) : FnOk P w K mg base CX0 1 f fd ["numbers"] (spIz o0) := by
  refine G.ok scIz (fun vs H Q E h => ?_) (fun cdv A outer s H vs Q E hr h => ?_)
  · obtain ⟨a, n, rfl, _⟩ := h
    rfl
  obtain ⟨a, n, rfl, ha, hn, q⟩ := h
  refine ⟨_, pss_one (ps_ret (pe_callB (cr_all rfl) rfl ma (by decide +kernel) (pa_cons (pe_lc (own := [("number", 1)]) (g := gName 1) (tt := tYes) rfl scIz.nd (pi_list (pv 0)) (blkOk_by (N := nIz) (sc := defScope (top 46)) (by decide +kernel)) (fun _ _ _ _ _ => pg_name (i := 1) scIz.nd rfl (Or.inl rfl)) (fun _ _ _ _ _ => pts_nil)
        (fun _ _ _ _ _ => pe_cmpR (eqD_at K rfl hr.units) (pv 1) (C8.pe_gc (v := .ref o0) rfl ⟨_, mZ, rfl⟩) (nomark _))) pa_nil))), ?_⟩
  refine ⟨_, rfl, a, rfl, ⟨_, SqL.of ha⟩, fun D nD => ?_⟩
  refine lc_list (K := K) (a := a) (xs := List.replicate n (.ref o0)) (fun i H2 => Same H H2 ∧ H2 D = some (.lst ((List.replicate i true).map V.bl))) ⟨new_same nD _, upd_same⟩ (fun i H' _ h => SqL.of (h.1 _ _ ha)) ?_ ?_
  · rintro i x H2 hx ⟨g, hD⟩
    obtain ⟨hi, rfl⟩ : i < n ∧ x = .ref o0 := by
      rw [List.getElem?_replicate] at hx
      split at hx
      · exact ⟨by assumption, (Option.some.inj hx).symm⟩
      · cases hx
    refine ⟨rfl, yesT ⟨_, rfl, _, _, k0.dp H2, k0.dp H2, rfl, rfl, ?_⟩⟩
    refine ⟨_, hD, small1000 (by rw [List.length_map, List.length_replicate]; omega), fun e o h => by rw [upd_ne (ne_of_none h nD)]; exact g _ _ h, ?_⟩
    rw [upd_same, List.replicate_succ', List.map_append]
    rfl
  · rintro H2 ⟨g, hD⟩
    refine ⟨D, List.replicate n true, rfl, ?_, ?_⟩
    · rw [List.length_replicate] at hD
      exact SqL.of hD
    · rw [show (List.replicate n true).all id = true by simp]
      exact q _ g
abbrev nLp : List Str := ["numbers", "first", "at", "number"]
theorem scLp : FnScope nLp ["numbers", "first"] (defScope (top 47)) := ⟨rfl, rfl, rfl, by decide +kernel, rfl, by decide +kernel, by decide +kernel⟩
theorem ok_least (G : Fun K "least_place" "least_place" (top 47) f fd) (k0 : KP K o0 0 1) (me : mg "enumerate" = none) (mZ : mg "ZERO" = some (.ref o0)) : FnOk P w K mg base CX0 1 f fd ["numbers", "first"] (spLp K) := by
  refine G.ok scLp (fun vs H Q E h => ?_) (fun cdv A outer s H vs Q E hr h => ?_)
  · obtain ⟨a, xs, fi, rfl, _⟩ := h
    rfl
  obtain ⟨a, xs, fi, rfl, ha, af, q⟩ := h
  refine ⟨_, pss_cons (ps_for PassesOwn.never rfl (pi_enum rfl me (pa_cons (pv 0) pa_nil)) (pg_tup rfl (pgs_cons (pg_name (i := 2) scLp.nd rfl (Or.inl rfl)) (pgs_cons (pg_name (i := 3) scLp.nd rfl (Or.inl rfl)) pgs_nil)))
      (pss_one (ps_if (pt_cmpR (op_neD hr.units) (pv 3) (C8.pe_gc (v := .ref o0) rfl ⟨_, mZ, rfl⟩) (nomark _)) (pss_one (ps_ret (pe_op op_add (pv 1) (pv 2)))) pss_nil)))
    (pss_one (ps_ret pe_non)), ?_⟩
  refine ⟨_, rfl, a, _, rfl, SqL.of ha, ?_⟩
  refine for_it (walk_enum (K := K) (a := a) (xs := xs)) (fun i σ H' => Same H H' ∧ ∃ v v', σ = [some (.ref a), some (.int fi), v, v']) ⟨Same.refl H, none, none, rfl⟩ (fun i σ H' _ h => SqL.of (h.1 _ _ ha)) ?_ ?_
  · rintro i x σ H2 H3 hi ⟨s2, v, v', rfl⟩ ⟨T, y, z, rfl, hT, rfl, hy, hz⟩
    refine ⟨T, [_, _], rfl, SqT.of upd_same, rfl, _, [_], rfl, _, [], rfl, rfl, ?_⟩
    have s3 := s2.trans (new_same hT (.tup [y, z]))
    obtain ⟨u, l, nm, g1, g2⟩ := af z (List.mem_of_getElem? hz)
    obtain rfl : y = .int ((i : Nat) : Int) := (Option.some.inj hy).symm
    refine ⟨_, rfl, _, _, (nm.same s3).dp, k0.dp _, rfl, rfl, _, rfl, ite2 (fun _ => ⟨_, rfl, _, rfl, fi, _, rfl, rfl, q _ _ s3⟩) (fun _ => ⟨s3, _, _, rfl⟩)⟩
  · rintro σ H2 ⟨s2, v, v', rfl⟩
    exact q _ _ s2
abbrev nKo : List Str := ["numbers", "lead", "bent"]
theorem scKo : FnScope nKo ["numbers"] (defScope (top 72)) := ⟨rfl, rfl, rfl, by decide +kernel, rfl, by decide +kernel, by decide +kernel⟩
theorem ok_kind (G : Fun K "kind_of" "kind_of" (top 72) f fd) (k1 : KP K o1 1 1) (k0 : KP K o0 0 1) (mZ : mg "ZERO" = some (.ref o0)) (mO : mg "ONE" = some (.ref o1))
    (UZ : Use P w K mg base CX0 1 "is_zero" ["numbers"] (spIz o0) []) : FnOk P w K mg base CX0 2 f fd ["numbers"] (spKo o1 o0) := by
  refine G.ok scKo (fun vs H Q E h => ?_) (fun cdv A outer s H vs Q E hr h => ?_)
  · obtain ⟨a, n, rfl, _⟩ := h
    rfl
  obtain ⟨a, n, rfl, hn, ha, q⟩ := h
  refine ⟨_, pss_cons (ps_set (i := 1) scKo.nd rfl (Or.inl rfl) (pe_ix ix_list (pv 0) pe_int (fun _ _ => rfl)))
    (pss_cons (ps_set (i := 2) scKo.nd rfl (Or.inl rfl) (pe_not (pe_use UZ hr rfl pass0 (pa_cons (pe_slice sl_list (pv 0) (po_some pe_int) po_none) pa_nil))))
    (pss_cons (ps_if (pt_cmpR (op_eqD hr.units) (pv 1) (C8.pe_gc (v := .ref o0) rfl ⟨_, mZ, rfl⟩) (nomark _)) (pss_one ps_never) pss_nil)
    (pss_cons (ps_if (pt_cmpR (op_eqD hr.units) (pv 1) (C8.pe_gc (v := .ref o1) rfl ⟨_, mO, rfl⟩) (nomark _)) (pss_one (ps_ret (pe_ifExp (pt_val (pv 2)) pe_str pe_str))) pss_nil)
    (pss_one ps_never)))), ?_⟩
  have at0 : atI (.ref o1 :: List.replicate n (.ref o0)) 0 = some (V.ref o1) := by
    rcases hn with rfl | rfl <;> rfl
  have cut1 : cutV (.ref o1 :: List.replicate n (.ref o0)) (some 1) none = List.replicate n (V.ref o0) := by
    rcases hn with rfl | rfl <;> rfl
  refine ⟨_, rfl, a, _, 0, _, rfl, rfl, SqL.of ha, at0, _, rfl, 1, rfl, a, _, rfl, SqL.of ha, fun b nb => ?_⟩
  rw [cut1]
  have s1 := new_same nb (.lst (List.replicate n (V.ref o0)))
  refine ⟨b, n, rfl, upd_same, by omega, fun H2 s2 => ?_⟩
  have s2 := s1.trans s2
  refine ⟨_, rfl, _, rfl, _, _, k1.dp _, k0.dp _, rfl, rfl, _, rfl, iteF ?_⟩
  exact ⟨_, rfl, _, _, k1.dp _, k1.dp _, rfl, rfl, _, rfl, iteT ⟨_, rfl, _, rfl, iteF (q _ s2)⟩⟩
theorem scSn : FnScope ["order"] ["order"] (defScope (top 54)) := ⟨rfl, rfl, rfl, by decide +kernel, rfl, by decide +kernel, by decide +kernel⟩
theorem ok_stilln (G : Fun K "still_numbers" "still_numbers" (top 54) f fd) (mZ : mg "ZERO" = some (.ref o0)) (mO : mg "ONE" = some (.ref o1)) : FnOk P w K mg base CX0 1 f fd ["order"] (spSn o1 o0) := by
  refine G.ok scSn (fun vs H Q E h => ?_) (fun cdv A outer s H vs Q E hr h => ?_)
  · obtain ⟨n, rfl, _⟩ := h
    rfl
  obtain ⟨n, rfl, hn, q⟩ := h
  refine ⟨_, pss_one (ps_ret (pe_op op_cat (pe_lst (pa_cons (C8.pe_gc (v := .ref o1) rfl ⟨_, mO, rfl⟩) pa_nil)) (pe_op op_rep (pe_lst (pa_cons (C8.pe_gc (v := .ref o0) rfl ⟨_, mZ, rfl⟩) pa_nil)) (pe_op op_sub (pv 0) pe_int)))), ?_⟩
  rcases hn with rfl | rfl
  all_goals
    refine ⟨(by show 1 ≤ sizeLine; decide), fun a na => ⟨(by show 1 ≤ sizeLine; decide), fun b nb => ⟨_, rfl, _, 1, rfl, rfl, b, _, _, rfl, rfl, upd_same, by decide, by decide, (by first | (show 1 * 1 ≤ sizeLine; decide) | (show 1 * 2 ≤ sizeLine; decide)), fun c nc => ?_⟩⟩⟩
    refine ⟨a, c, _, _, rfl, rfl, new_same nc _ _ _ (new_same nb _ _ _ upd_same), upd_same, (by first | (show 1 + 1 ≤ sizeLine; decide) | (show 1 + 2 ≤ sizeLine; decide)), fun d nd => ?_⟩
    refine q _ d ((new_same na _).trans ((new_same nb _).trans ((new_same nc _).trans (new_same nd _)))) ?_ ?_
    · exact (new_same na (.lst [V.ref o1])).free ((new_same nb _).free ((new_same nc _).free nd))
    · exact upd_same
end
end Kq
end
section
set_option maxHeartbeats 4000000
namespace Kq
open PySem PySem.Spec PyProof.Rows L2 RZ
def stN : List Str := ["_numbers", "order", "lead", "kind", "height", "flat", "strength"]
def rwN : List Str := ["_numbers", "order", "height"]
abbrev stL (o1 o0 : Addr) (n : Nat) : List V := .ref o1 :: List.replicate n (.ref o0)
def spSI (C o1 o0 : Addr) : Sp := fun vs H Q _ => ∃ (x a dx : Addr) (n : Nat), vs = [.ref x, .ref a] ∧ (n = 1 ∨ n = 2) ∧ H x = some (.ins C dx []) ∧ H a = some (.lst (stL o1 o0 n)) ∧ ∀ H' fs, But x H H' → H' x = some (.ins C dx fs) → Q .non H'
def spRI (K : PySem.W.Frag) (C : Addr) : Sp := fun vs H Q _ => ∃ (x a dx : Addr) (xs : List V), vs = [.ref x, .ref a] ∧ H x = some (.ins C dx []) ∧ H a = some (.lst xs) ∧ AllF K H xs ∧ 3 ≤ xs.length ∧ xs.length ≤ 25 ∧ ∀ H' fs, But x H H' → H' x = some (.ins C dx fs) → Q .non H'
abbrev nIn : List Str := ["self", "numbers"]
theorem but_put {x : Addr} {H : Hp} {o : HO} : But x H (upd H x o) := fun b u n h => by rw [upd_ne n]; exact h
theorem Nm.but {K : PySem.W.Frag} {H H' : Hp} {x C dx : Addr} {fs : List (Str × V)} {v : V} {u l : Int} (h : Nm K H v u l) (hx : H x = some (.ins C dx fs)) (s : But x H H') : Nm K H' v u l := by
  obtain ⟨a, e, h⟩ := h
  refine ⟨a, e, h.imp (fun h => s _ _ (fun z => ?_) h) id⟩
  rw [z, hx] at h
  cases h
theorem AllF.but {K : PySem.W.Frag} {H H' : Hp} {x C dx : Addr} {fs : List (Str × V)} {xs : List V} (h : AllF K H xs) (hx : H x = some (.ins C dx fs)) (s : But x H H') : AllF K H' xs := fun y hy => by
  obtain ⟨u, l, n, r⟩ := h y hy
  exact ⟨u, l, n.but hx s, r⟩
section
variable {P : Program} {w : World} {K : PySem.W.Frag} {mg : Str → Option Value} {base : Heap} {f fI C o1 o0 : Addr} {fd : FuncData}
theorem allF_st (k1 : KP K o1 1 1) (k0 : KP K o0 0 1) {H : Hp} {n : Nat} : AllF K H (stL o1 o0 n) := fun x hx => by
  rcases List.mem_cons.mp hx with rfl | hx
  · exact ⟨1, 1, ⟨_, rfl, .inr k1⟩, by decide, by decide⟩
  · rw [List.eq_of_mem_replicate hx]
    exact ⟨0, 1, ⟨_, rfl, .inr k0⟩, by decide, by decide⟩
theorem scSI : FnScope nIn ["self", "numbers"] (defScope (inClass (top 73) 0)) := ⟨rfl, rfl, rfl, by decide +kernel, rfl, by decide +kernel, by decide +kernel⟩
theorem ok_stinit (G : Fun K "__init__" "Step.__init__" (inClass (top 73) 0) f fd) (c : Cls K C) (nA : ∀ n ∈ stN, NoAttr K C n) (mn : mg "len" = none) (k1 : KP K o1 1 1) (k0 : KP K o0 0 1)
    (UN : Use P w K mg base CX0 5 "checked_numbers" ["numbers", "further"] (spCn K) []) (UD : Use P w K mg base CX0 2 "kind_of" ["numbers"] (spKo o1 o0) []) (UL : Use P w K mg base CX0 1 "least_place" ["numbers", "first"] (spLp K) []) :
    FnOk P w K mg base CX0 6 f fd ["self", "numbers"] (spSI C o1 o0) := by
  refine G.ok scSI (fun vs H Q E h => ?_) (fun cdv A outer s H vs Q E hr h => ?_)
  · obtain ⟨x, a, dx, n, rfl, _⟩ := h
    rfl
  obtain ⟨x, a, dx, n, rfl, hn, hx, ha, q⟩ := h
  have hr1 := hr.mono (show 1 ≤ 5 by decide)
  have hr2 := hr.mono (show 2 ≤ 5 by decide)
  have n1 := nA "_numbers" (by simp [stN])
  have n2 := nA "order" (by simp [stN])
  have n3 := nA "lead" (by simp [stN])
  have n4 := nA "kind" (by simp [stN])
  have n5 := nA "height" (by simp [stN])
  have n6 := nA "flat" (by simp [stN])
  have n7 := nA "strength" (by simp [stN])
  refine ⟨_, pss_cons (ps_fld (pv 0) (pe_use UN hr rfl pass0 (pa_cons (pv 1) (pa_cons pe_int pa_nil))) rfl)
    (pss_cons (ps_fld (pv 0) (pe_callB call_len_seq rfl mn PySem.boot_len (pa_cons (pv 1) pa_nil)) rfl)
    (pss_cons (ps_fld (pv 0) (pe_ix ix_list (pe_fld (pv 0) rfl) pe_int (fun _ _ => rfl)) rfl)
    (pss_cons (ps_fld (pv 0) (pe_use UD hr2 rfl pass0 (pa_cons (pe_fld (pv 0) rfl) pa_nil)) rfl)
    (pss_cons (ps_fld (pv 0) (pe_use UL hr1 rfl pass0 (pa_cons (pe_fld (pv 0) rfl) (pa_cons pe_int pa_nil))) rfl)
    (pss_cons (ps_fld (pv 0) pe_non rfl)
    (pss_cons (ps_fld (pv 0) pe_non rfl)
    (pss_cons (ps_if (pt_cmpR op_eq (pe_fld (pv 0) rfl) pe_str (nomark _)) (pss_cons ps_never (pss_one ps_never)) pss_nil)
    (pss_one (ps_if (pt_cmpR op_eq (pe_fld (pv 0) rfl) pe_str (nomark _)) (pss_one ps_never) pss_nil))))))))), ?_⟩
  have xa : a ≠ x := fun e => by rw [e, hx] at ha; cases ha
  have ll : (stL o1 o0 n).length = n + 1 := by rw [List.length_cons, List.length_replicate]
  have at0 : atI (stL o1 o0 n) 0 = some (V.ref o1) := by
    rcases hn with rfl | rfl <;> rfl
  refine ⟨_, rfl, a, _, 0, rfl, ha, allF_st k1 k0, by rw [ll]; omega, by rw [ll]; omega, fun H1 b s1 nb hb => ?_⟩
  have hx1 := s1 _ _ hx
  have ha1 := s1 _ _ ha
  have xb : b ≠ x := fun e => by rw [e, hx] at nb; cases nb
  refine ⟨_, rfl, x, C, dx, _, rfl, hx1, c, n1, by decide, ?_⟩
  have st : ∀ (Hk : Hp) (fs' : List (Str × V)), But x H Hk → Hk b = some (.lst (stL o1 o0 n)) → But x H (upd Hk x (.ins C dx fs')) ∧ upd Hk x (.ins C dx fs') b = some (.lst (stL o1 o0 n)) ∧ upd Hk x (.ins C dx fs') x = some (.ins C dx fs') := fun Hk fs' u h => ⟨u.trans but_put, by rw [upd_ne xb]; exact h, upd_same⟩
  obtain ⟨u2, hb2, hx2⟩ := st H1 (putF "_numbers" (.ref b) []) (But.same s1) hb
  have ha2 : upd H1 x (.ins C dx (putF "_numbers" (.ref b) [])) a = some (.lst (stL o1 o0 n)) := by rw [upd_ne xa]; exact ha1
  generalize upd H1 x (.ins C dx (putF "_numbers" (.ref b) [])) = H2 at u2 hb2 hx2 ha2
  refine ⟨_, rfl, a, _, rfl, .inl (SqL.of ha2), _, rfl, x, C, dx, _, rfl, hx2, c, n2, (by show 1 < 1000; decide), ?_⟩
  obtain ⟨u3, hb3, hx3⟩ := st H2 (putF "order" (.int (((stL o1 o0 n).length : Nat) : Int)) (putF "_numbers" (.ref b) [])) u2 hb2
  generalize upd H2 x (.ins C dx (putF "order" (.int (((stL o1 o0 n).length : Nat) : Int)) (putF "_numbers" (.ref b) []))) = H3 at u3 hb3 hx3
  refine ⟨_, rfl, x, C, dx, _, _, rfl, hx3, c, n1, rfl, b, _, 0, _, rfl, rfl, SqL.of hb3, at0, _, rfl, x, C, dx, _, rfl, hx3, c, n3, (by show 2 < 1000; decide), ?_⟩
  generalize (((stL o1 o0 n).length : Nat) : Int) = ln at hx3
  obtain ⟨u4, hb4, hx4⟩ := st H3 (putF "lead" (.ref o1) (putF "order" (.int ln) (putF "_numbers" (.ref b) []))) u3 hb3
  generalize upd H3 x (.ins C dx (putF "lead" (.ref o1) (putF "order" (.int ln) (putF "_numbers" (.ref b) [])))) = H4 at u4 hb4 hx4
  refine ⟨_, rfl, x, C, dx, _, _, rfl, hx4, c, n1, rfl, b, n, rfl, hn, hb4, fun H5 s5 => ?_⟩
  have hx5 := s5 _ _ hx4
  refine ⟨_, rfl, x, C, dx, _, rfl, hx5, c, n4, (by show 3 < 1000; decide), ?_⟩
  obtain ⟨u6, hb6, hx6⟩ := st H5 (putF "kind" (.str "still") (putF "lead" (.ref o1) (putF "order" (.int ln) (putF "_numbers" (.ref b) [])))) (u4.trans (But.same s5)) (s5 _ _ hb4)
  generalize upd H5 x (.ins C dx (putF "kind" (.str "still") (putF "lead" (.ref o1) (putF "order" (.int ln) (putF "_numbers" (.ref b) []))))) = H6 at u6 hb6 hx6
  refine ⟨_, rfl, x, C, dx, _, _, rfl, hx6, c, n1, rfl, b, _, 1, rfl, hb6, allF_st k1 k0, fun H7 vh s7 => ?_⟩
  have hx7 := s7 _ _ hx6
  refine ⟨_, rfl, x, C, dx, _, rfl, hx7, c, n5, (by show 4 < 1000; decide), ?_⟩
  obtain ⟨u8, hb8, hx8⟩ := st H7 (putF "height" vh (putF "kind" (.str "still") (putF "lead" (.ref o1) (putF "order" (.int ln) (putF "_numbers" (.ref b) []))))) (u6.trans (But.same s7)) (s7 _ _ hb6)
  generalize upd H7 x (.ins C dx (putF "height" vh (putF "kind" (.str "still") (putF "lead" (.ref o1) (putF "order" (.int ln) (putF "_numbers" (.ref b) [])))))) = H8 at u8 hb8 hx8
  refine ⟨_, rfl, x, C, dx, _, rfl, hx8, c, n6, (by show 5 < 1000; decide), ?_⟩
  obtain ⟨u9, hb9, hx9⟩ := st H8 (putF "flat" .non (putF "height" vh (putF "kind" (.str "still") (putF "lead" (.ref o1) (putF "order" (.int ln) (putF "_numbers" (.ref b) [])))))) u8 hb8
  generalize upd H8 x (.ins C dx (putF "flat" .non (putF "height" vh (putF "kind" (.str "still") (putF "lead" (.ref o1) (putF "order" (.int ln) (putF "_numbers" (.ref b) []))))))) = H9 at u9 hb9 hx9
  refine ⟨_, rfl, x, C, dx, _, rfl, hx9, c, n7, (by show 6 < 1000; decide), ?_⟩
  obtain ⟨u10, hb10, hx10⟩ := st H9 (putF "strength" .non (putF "flat" .non (putF "height" vh (putF "kind" (.str "still") (putF "lead" (.ref o1) (putF "order" (.int ln) (putF "_numbers" (.ref b) []))))))) u9 hb9
  generalize upd H9 x (.ins C dx (putF "strength" .non (putF "flat" .non (putF "height" vh (putF "kind" (.str "still") (putF "lead" (.ref o1) (putF "order" (.int ln) (putF "_numbers" (.ref b) [])))))))) = H10 at u10 hb10 hx10
  refine ⟨_, rfl, x, C, dx, _, _, rfl, hx10, c, n4, rfl, rfl, _, rfl, iteF ?_⟩
  exact ⟨_, rfl, x, C, dx, _, _, rfl, hx10, c, n4, rfl, rfl, _, rfl, iteF (q _ _ u10 hx10)⟩
theorem scRI : FnScope nIn ["self", "numbers"] (defScope (inClass (top 70) 0)) := ⟨rfl, rfl, rfl, by decide +kernel, rfl, by decide +kernel, by decide +kernel⟩
theorem ok_rwinit (G : Fun K "__init__" "Row.__init__" (inClass (top 70) 0) f fd) (c : Cls K C) (nA : ∀ n ∈ rwN, NoAttr K C n) (mn : mg "len" = none)
    (UN : Use P w K mg base CX0 5 "checked_numbers" ["numbers", "further"] (spCn K) []) (UL : Use P w K mg base CX0 1 "least_place" ["numbers", "first"] (spLp K) []) :
    FnOk P w K mg base CX0 6 f fd ["self", "numbers"] (spRI K C) := by
  refine G.ok scRI (fun vs H Q E h => ?_) (fun cdv A outer s H vs Q E hr h => ?_)
  · obtain ⟨x, a, dx, xs, rfl, _⟩ := h
    rfl
  obtain ⟨x, a, dx, xs, rfl, hx, ha, af, l1, l2, q⟩ := h
  have hr1 := hr.mono (show 1 ≤ 5 by decide)
  have n1 := nA "_numbers" (by simp [rwN])
  have n2 := nA "order" (by simp [rwN])
  have n3 := nA "height" (by simp [rwN])
  refine ⟨_, pss_cons (ps_fld (pv 0) (pe_use UN hr rfl pass0 (pa_cons (pv 1) (pa_cons (pe_un un_neg pe_int) pa_nil))) rfl)
    (pss_cons (ps_fld (pv 0) (pe_op op_sub (pe_callB call_len_seq rfl mn PySem.boot_len (pa_cons (pv 1) pa_nil)) pe_int) rfl)
    (pss_one (ps_fld (pv 0) (pe_use UL hr1 rfl pass0 (pa_cons (pe_fld (pv 0) rfl) (pa_cons pe_int pa_nil))) rfl))), ?_⟩
  have xa : a ≠ x := fun e => by rw [e, hx] at ha; cases ha
  refine ⟨_, rfl, 1, rfl, a, xs, -1, rfl, ha, af, by omega, by omega, fun H1 b s1 nb hb => ?_⟩
  have hx1 := s1 _ _ hx
  have ha1 := s1 _ _ ha
  have xb : b ≠ x := fun e => by rw [e, hx] at nb; cases nb
  refine ⟨_, rfl, x, C, dx, _, rfl, hx1, c, n1, by decide, ?_⟩
  have ha2 : upd H1 x (.ins C dx (putF "_numbers" (.ref b) [])) a = some (.lst xs) := by rw [upd_ne xa]; exact ha1
  have hb2 : upd H1 x (.ins C dx (putF "_numbers" (.ref b) [])) b = some (.lst xs) := by rw [upd_ne xb]; exact hb
  have u2 : But x H (upd H1 x (.ins C dx (putF "_numbers" (.ref b) []))) := (But.same s1).trans but_put
  have hx2 : upd H1 x (.ins C dx (putF "_numbers" (.ref b) [])) x = _ := upd_same
  have af2 : AllF K (upd H1 x (.ins C dx (putF "_numbers" (.ref b) []))) xs := af.but hx u2
  generalize upd H1 x (.ins C dx (putF "_numbers" (.ref b) [])) = H2 at u2 hb2 hx2 ha2 af2
  refine ⟨_, rfl, a, _, rfl, .inl (SqL.of ha2), _, 1, rfl, rfl, _, rfl, x, C, dx, _, rfl, hx2, c, n2, (by show 1 < 1000; decide), ?_⟩
  refine ⟨_, rfl, x, C, dx, _, _, rfl, upd_same, c, n1, rfl, b, xs, 0, rfl, by rw [upd_ne xb]; exact hb2, af2.but hx2 but_put, fun H7 vh s7 => ?_⟩
  have hx7 := s7 _ _ (show upd H2 x _ x = _ from upd_same)
  exact ⟨_, rfl, x, C, dx, _, rfl, hx7, c, n3, (by show 2 < 1000; decide), q _ _ (((u2.trans but_put).trans (But.same s7)).trans but_put) upd_same⟩
end
end Kq
end
section
set_option maxHeartbeats 4000000
namespace Kq
open PySem PySem.Spec PyProof.Rows L2 RZ
def spSt (C : Addr) : Sp := fun vs H Q _ => ∃ n : Nat, vs = [.int ((n + 1 : Nat) : Int)] ∧ (n = 1 ∨ n = 2) ∧ ∀ H' x dx fs, Same H H' → H x = none → H' x = some (.ins C dx fs) → Q (.ref x) H'
def spCt (K : PySem.W.Frag) (C : Addr) : Sp := fun vs H Q _ => ∃ (v : V) (u l : Int) (m : Nat), vs = [v, .int (m : Nat)] ∧ (m = 2 ∨ m = 3) ∧ Nm K H v u l ∧ 1 ≤ l ∧ Nat.gcd u.natAbs l.natAbs = 1 ∧ ∀ H' x dx fs, Same H H' → H x = none → H' x = some (.ins C dx fs) → Q (.ref x) H'
section
variable {P : Program} {w : World} {K : PySem.W.Frag} {mg : Str → Option Value} {base : Heap} {f fI C o1 o0 : Addr} {fd fdI : FuncData}
theorem scSt : FnScope ["order"] ["order"] (defScope (inClass (top 73) 1)) := ⟨rfl, rfl, rfl, by decide +kernel, rfl, by decide +kernel, by decide +kernel⟩
theorem ok_still (G : Fun K "still" "Step.still" (inClass (top 73) 1) f fd) (M : Mk K C fI) (mS : mg "Step" = some (.ref C))
    (GI : FnOk P w K mg base CX0 6 fI fdI ["self", "numbers"] (spSI C o1 o0)) (bI : Binds K fdI ["self", "numbers"] []) (UC : Use P w K mg base CX0 3 "check_order" ["order"] spCo []) (UN : Use P w K mg base CX0 1 "still_numbers" ["order"] (spSn o1 o0) []) :
    FnOk P w K mg base CX0 8 f fd ["order"] (spSt C) := by
  refine G.ok scSt (fun vs H Q E h => ?_) (fun cdv A outer s H vs Q E hr h => ?_)
  · obtain ⟨n, rfl, _⟩ := h
    rfl
  obtain ⟨n, rfl, hn, q⟩ := h
  have hr1 := hr.mono (show 1 ≤ 7 by decide)
  have hr3 := hr.mono (show 3 ≤ 7 by decide)
  refine ⟨_, pss_cons (ps_expr (pe_use UC hr3 rfl pass0 (pa_cons (pv 0) pa_nil)))
    (pss_one (ps_ret (pe_make M GI hr rfl mS bI .nil pass0 (pa_cons (pe_use UN hr1 rfl pass0 (pa_cons (pv 0) pa_nil)) pa_nil)))), ?_⟩
  refine ⟨_, rfl, _, rfl, by omega, by omega, _, rfl, n, rfl, hn, fun H1 b s1 nb hb => ?_⟩
  intro x dx nx ndx ne
  have e1 : upd (upd H1 dx (.own x)) x (.ins C dx []) x = some (.ins C dx []) := upd_same
  have sm : Same H1 (upd (upd H1 dx (.own x)) x (.ins C dx [])) := (new_same ndx _).trans (new_same (by rw [upd_ne (Ne.symm ne)]; exact nx) _)
  refine ⟨x, b, dx, n, rfl, hn, e1, sm _ _ hb, fun H' fs u hx => ⟨rfl, q H' x dx fs ?_ (s1.free nx) hx⟩⟩
  intro e o he
  have h1 := s1 _ _ he
  exact u e o (fun z => by rw [z, nx] at h1; cases h1) (sm _ _ h1)
theorem scCt : FnScope ["value", "order"] ["value", "order"] (defScope (inClass (top 70) 1)) := ⟨rfl, rfl, rfl, by decide +kernel, rfl, by decide +kernel, by decide +kernel⟩
theorem ok_const (G : Fun K "constant" "Row.constant" (inClass (top 70) 1) f fd) (M : Mk K C fI) (mR : mg "Row" = some (.ref C)) (mZ : mg "ZERO" = some (.ref o0)) (k0 : KP K o0 0 1)
    (GI : FnOk P w K mg base CX0 6 fI fdI ["self", "numbers"] (spRI K C)) (bI : Binds K fdI ["self", "numbers"] []) (UC : Use P w K mg base CX0 3 "check_order" ["order"] spCo []) (UK : Use P w K mg base CX0 3 "check_number" ["value"] (spCk K) []) :
    FnOk P w K mg base CX0 8 f fd ["value", "order"] (spCt K C) := by
  refine G.ok scCt (fun vs H Q E h => ?_) (fun cdv A outer s H vs Q E hr h => ?_)
  · obtain ⟨v, u, l, m, rfl, _⟩ := h
    rfl
  obtain ⟨v, u, l, m, rfl, hm, nm, g1, g2, q⟩ := h
  have hr3 := hr.mono (show 3 ≤ 7 by decide)
  refine ⟨_, pss_cons (ps_expr (pe_use UK hr3 rfl pass0 (pa_cons (pv 0) pa_nil))) (pss_cons (ps_expr (pe_use UC hr3 rfl pass0 (pa_cons (pv 1) pa_nil)))
    (pss_one (ps_ret (pe_make M GI hr rfl mR bI .nil pass0 (pa_cons (pe_op op_cat (pe_lst (pa_cons (pv 0) pa_nil)) (pe_op op_rep (pe_lst (pa_cons (C8.pe_gc (v := .ref o0) rfl ⟨_, mZ, rfl⟩) pa_nil)) (pv 1))) pa_nil))))), ?_⟩
  refine ⟨_, rfl, v, rfl, nm.isG g1 g2, _, rfl, _, rfl, by omega, by omega, ?_⟩
  rcases hm with rfl | rfl
  all_goals
    refine ⟨_, rfl, (by show 1 ≤ sizeLine; decide), fun a na => ⟨(by show 1 ≤ sizeLine; decide), fun b nb => ⟨_, rfl, b, _, _, rfl, rfl, upd_same, by decide, by decide, (by first | (show 1 * 2 ≤ sizeLine; decide) | (show 1 * 3 ≤ sizeLine; decide)), fun c nc => ?_⟩⟩⟩
    refine ⟨a, c, _, _, rfl, rfl, new_same nc _ _ _ (new_same nb _ _ _ upd_same), upd_same, (by first | (show 1 + 2 ≤ sizeLine; decide) | (show 1 + 3 ≤ sizeLine; decide)), fun d nd => ?_⟩
    have s1 := fun o => (new_same na (HO.lst [v])).trans ((new_same nb (HO.lst [V.ref o0])).trans ((new_same nc _).trans (new_same nd o)))
    intro x dx nx ndx ne
    have sm := fun (z : Unit) => (new_same ndx (HO.own x)).trans (new_same (o := HO.ins C dx []) (by rw [upd_ne (Ne.symm ne)]; exact nx))
    refine ⟨x, d, dx, _, rfl, upd_same, sm () _ _ upd_same, fun y hy => ?_, (by first | (show 3 ≤ 3; decide) | (show 3 ≤ 4; decide)), (by first | (show 3 ≤ 25; decide) | (show 4 ≤ 25; decide)), fun H' fs u hx => ⟨rfl, q H' x dx fs (fun e o he => ?_) ((s1 _).free nx) hx⟩⟩
    · have hy2 : y = v ∨ y = .ref o0 := by simpa using hy
      rcases hy2 with rfl | rfl
      · exact ⟨_, _, (nm.same (s1 _)).same (sm ()), g1, g2⟩
      · exact ⟨0, 1, ⟨_, rfl, .inr k0⟩, by decide, by decide⟩
    · have sg := (s1 _).trans (sm ())
      have hx0 := (s1 _).free nx
      exact u e o (fun z => by rw [z, hx0] at he; cases he) (sg e o he)
end
end Kq
end
section
set_option maxHeartbeats 4000000
namespace Kq
open PySem PySem.Spec PyProof.Rows L2 RZ
/-- what stands of the class C: neither tuple nor int -/
structure OwC (K : PySem.W.Frag) (C : Addr) : Prop where
  c : Cls K C
  ha : PySem.W.findIn K (.ref C) "__class__" = some (some (.builtin "object.__class__"))
  hn : PySem.W.specialIn K (.builtin "object.__class__") "__get__" = some (some (.builtin "getset_descriptor.__get__"))
  htk : PySem.W.takesIn K (.builtin "object.__class__") = some true
  hm : PySem.W.mroIn K C (.type "object") = some true
  kt : PySem.W.kitOne K (.ref C) (.type "tuple") = some false
  ki : PySem.W.kitOne K (.ref C) (.type "int") = some false
  kb : PySem.W.kitOne K (.ref C) (.type "bool") = some false
/-- a part of a pair -/
def Kn (K : PySem.W.Frag) (H : Hp) (v : V) (b : Bool) : Prop :=
  (∃ i : Int, v = .int i ∧ b = true) ∨ (b = false ∧ (v = .non ∨ (∃ x, v = .bl x) ∨ (∃ x, v = .str x) ∨ (∃ a xs, v = .ref a ∧ H a = some (.tup xs)) ∨ ∃ a C dx fs, v = .ref a ∧ H a = some (.ins C dx fs) ∧ OwC K C))
/-- a drawn thing: a fraction or not -/
def Gd (K : PySem.W.Frag) (H : Hp) (v : V) : Prop :=
  (v = .non ∨ (∃ x, v = .bl x) ∨ (∃ x, v = .str x) ∨ ∃ i : Int, v = .int i) ∨ (∃ a C dx fs, v = .ref a ∧ H a = some (.ins C dx fs) ∧ OwC K C) ∨ (∃ a xs, v = .ref a ∧ H a = some (.lst xs) ∧ xs.length ≠ 5) ∨
  (∃ a xs, v = .ref a ∧ H a = some (.tup xs) ∧ xs.length ≠ 2) ∨ (∃ a x y b1 b2, v = .ref a ∧ H a = some (.tup [x, y]) ∧ Kn K H x b1 ∧ Kn K H y b2 ∧ (∀ l : Int, y = .int l → l.natAbs.log2 < 9000))
theorem kb_t : kitB "NoneType" "tuple" = some false ∧ kitB "bool" "tuple" = some false ∧ kitB "str" "tuple" = some false ∧ kitB "int" "tuple" = some false ∧ kitB "list" "tuple" = some false := by decide +kernel
section
variable {K : PySem.W.Frag} {H H' : Hp} {v : V} {b : Bool}
theorem Kn.wh (h : Kn K H v b) : WhV K H v b := by
  rcases h with ⟨i, rfl, rfl⟩ | ⟨rfl, rfl | ⟨x, rfl⟩ | ⟨x, rfl⟩ | ⟨a, xs, rfl, e⟩ | ⟨a, C, dx, fs, rfl, e, o⟩⟩
  · exact wh_int i
  · exact fun _ _ => ⟨_, false, false, ty_flat rfl, kit_ty kb_odd.1.1, kit_ty kb_odd.1.2, rfl⟩
  · exact fun _ _ => ⟨_, true, true, ty_flat rfl, kit_ty kb_odd.2.1.1, kit_ty kb_odd.2.1.2, rfl⟩
  · exact fun _ _ => ⟨_, false, false, ty_flat rfl, kit_ty kb_odd.2.2.1.1, kit_ty kb_odd.2.2.1.2, rfl⟩
  · exact fun _ s => ⟨_, false, false, .base (.tup (s _ _ e)), kit_ty kb_odd.2.2.2.1.1, kit_ty kb_odd.2.2.2.1.2, rfl⟩
  · exact fun _ s => ⟨_, false, false, .base (.ins (s _ _ e) o.c o.ha o.hn o.htk o.hm), o.ki, o.kb, rfl⟩
theorem Kn.look (k : ∀ a o, H a = some o → (∀ xs, o ≠ .lst xs) → H' a = some o) (h : Kn K H v b) : Kn K H' v b := by
  rcases h with h | ⟨rfl, h | h | h | ⟨a, xs, rfl, e⟩ | ⟨a, C, dx, fs, rfl, e, o⟩⟩
  · exact .inl h
  · exact .inr ⟨rfl, .inl h⟩
  · exact .inr ⟨rfl, .inr (.inl h)⟩
  · exact .inr ⟨rfl, .inr (.inr (.inl h))⟩
  · exact .inr ⟨rfl, .inr (.inr (.inr (.inl ⟨a, xs, rfl, k _ _ e (fun ys z => by cases z)⟩)))⟩
  · exact .inr ⟨rfl, .inr (.inr (.inr (.inr ⟨a, C, dx, fs, rfl, k _ _ e (fun ys z => by cases z), o⟩)))⟩
theorem Gd.look (k : ∀ a o, H a = some o → (∀ xs, o = .lst xs → xs.length ≠ 5) → H' a = some o) (h : Gd K H v) : Gd K H' v := by
  have kk : ∀ a o, H a = some o → (∀ xs, o ≠ .lst xs) → H' a = some o := fun a o e n => k a o e (fun xs z => absurd z (n xs))
  rcases h with h | ⟨a, C, dx, fs, rfl, e, o⟩ | ⟨a, xs, rfl, e, l⟩ | ⟨a, xs, rfl, e, l⟩ | ⟨a, x, y, b1, b2, rfl, e, k1, k2, l⟩
  · exact .inl h
  · exact .inr (.inl ⟨a, C, dx, fs, rfl, kk _ _ e (fun ys z => by cases z), o⟩)
  · exact .inr (.inr (.inl ⟨a, xs, rfl, k _ _ e (fun ys z => by cases z; exact l), l⟩))
  · exact .inr (.inr (.inr (.inl ⟨a, xs, rfl, kk _ _ e (fun ys z => by cases z), l⟩)))
  · exact .inr (.inr (.inr (.inr ⟨a, x, y, b1, b2, rfl, kk _ _ e (fun ys z => by cases z), k1.look kk, k2.look kk, l⟩)))
theorem Gd.same (h : Gd K H v) (s : Same H H') : Gd K H' v := h.look fun a o e _ => s _ _ e
theorem Gd.but {B p : Addr} (h : Gd K H v) (b : Bag H B p) (s : But B H H') : Gd K H' v := h.look fun a o e n => s _ _ (fun z => by
  obtain ⟨_, _, _, _, _, h1, _⟩ := b.ex
  rw [z, h1] at e
  exact n _ (Option.some.inj e).symm rfl) e
theorem Gd.isF (h : Gd K H v) : ∃ r, ∀ H', Same H H' → IsF K H' v r := by
  rcases h with (rfl | ⟨x, rfl⟩ | ⟨x, rfl⟩ | ⟨i, rfl⟩) | ⟨a, C, dx, fs, rfl, e, o⟩ | ⟨a, xs, rfl, e, l⟩ | ⟨a, xs, rfl, e, l⟩ | ⟨a, x, y, b1, b2, rfl, e, k1, k2, l⟩
  · exact ⟨false, fun _ _ => .inl ⟨_, ty_flat rfl, kit_ty kb_t.1, rfl⟩⟩
  · exact ⟨false, fun _ _ => .inl ⟨_, ty_flat rfl, kit_ty kb_t.2.1, rfl⟩⟩
  · exact ⟨false, fun _ _ => .inl ⟨_, ty_flat rfl, kit_ty kb_t.2.2.1, rfl⟩⟩
  · exact ⟨false, fun _ _ => .inl ⟨_, ty_flat rfl, kit_ty kb_t.2.2.2.1, rfl⟩⟩
  · exact ⟨false, fun _ s => .inl ⟨_, .base (.ins (s _ _ e) o.c o.ha o.hn o.htk o.hm), o.kt, rfl⟩⟩
  · exact ⟨false, fun _ s => .inl ⟨_, .base (.lst (s _ _ e)), kit_ty kb_t.2.2.2.2, rfl⟩⟩
  · exact ⟨false, fun _ s => .inr (.inl ⟨a, xs, rfl, s _ _ e, l, rfl⟩)⟩
  · cases hb : b1 && b2 with
    | false => exact ⟨false, fun _ s => .inr (.inr ⟨a, x, y, b1, b2, rfl, s _ _ e, (k1.look fun _ _ e _ => s _ _ e).wh, (k2.look fun _ _ e _ => s _ _ e).wh, .inl ⟨hb, rfl⟩⟩)⟩
    | true =>
      rw [Bool.and_eq_true] at hb
      obtain ⟨h1, h2⟩ := hb
      have u1 : ∃ i : Int, x = .int i := by
        rcases k1 with ⟨i, rfl, _⟩ | ⟨z, _⟩
        · exact ⟨i, rfl⟩
        · rw [z] at h1
          cases h1
      have u2 : ∃ i : Int, y = .int i := by
        rcases k2 with ⟨i, rfl, _⟩ | ⟨z, _⟩
        · exact ⟨i, rfl⟩
        · rw [z] at h2
          cases h2
      obtain ⟨u, rfl⟩ := u1
      obtain ⟨w, rfl⟩ := u2
      exact ⟨_, fun _ s => .inr (.inr ⟨a, _, _, b1, b2, rfl, s _ _ e, (k1.look fun _ _ e _ => s _ _ e).wh, (k2.look fun _ _ e _ => s _ _ e).wh, .inr ⟨u, w, h1, h2, rfl, rfl, rfl⟩⟩)⟩
theorem Gd.log (h : Gd K H v) : ∀ a (u l : Int), v = .ref a → H a = some (.tup [.int u, .int l]) → l.natAbs.log2 < 9000 := by
  rintro a' u l rfl e'
  rcases h with (h | ⟨x, h⟩ | ⟨x, h⟩ | ⟨i, h⟩) | ⟨a, C, dx, fs, h, e, o⟩ | ⟨a, xs, h, e, _⟩ | ⟨a, xs, h, e, n⟩ | ⟨a, x, y, b1, b2, h, e, k1, k2, n⟩ <;> first | (cases h; done) | skip
  all_goals
    cases h
    rw [e'] at e
    first
      | (cases e; done)
      | (cases e; exact absurd rfl n)
      | (cases e; exact n l rfl)
end
def AllG (K : PySem.W.Frag) (H : Hp) (xs : List V) : Prop := ∀ x ∈ xs, Gd K H x
theorem AllG.same {K : PySem.W.Frag} {H H' : Hp} {xs : List V} (h : AllG K H xs) (s : Same H H') : AllG K H' xs := fun x hx => (h x hx).same s
theorem AllG.app {K : PySem.W.Frag} {H : Hp} {xs ys : List V} (h : AllG K H xs) (h' : AllG K H ys) : AllG K H (xs ++ ys) := fun x hx => (List.mem_append.mp hx).elim (h x) (h' x)
theorem AllG.nil {K : PySem.W.Frag} {H : Hp} : AllG K H [] := fun x hx => nomatch hx
theorem AllG.cons {K : PySem.W.Frag} {H : Hp} {x : V} {xs : List V} (h : Gd K H x) (h' : AllG K H xs) : AllG K H (x :: xs) := fun y hy => (List.mem_cons.mp hy).elim (fun e => e ▸ h) (h' y)
section
variable {K : PySem.W.Frag} {H : Hp} {a : Addr}
theorem gd_non : Gd K H .non := .inl (.inl rfl)
theorem gd_bl {x : Bool} : Gd K H (.bl x) := .inl (.inr (.inl ⟨x, rfl⟩))
theorem gd_str {x : Str} : Gd K H (.str x) := .inl (.inr (.inr (.inl ⟨x, rfl⟩)))
theorem gd_int {i : Int} : Gd K H (.int i) := .inl (.inr (.inr (.inr ⟨i, rfl⟩)))
theorem gd_ins {C dx : Addr} {fs : List (Str × V)} (e : H a = some (.ins C dx fs)) (o : OwC K C) : Gd K H (.ref a) := .inr (.inl ⟨a, C, dx, fs, rfl, e, o⟩)
theorem gd_lst {xs : List V} (e : H a = some (.lst xs)) (l : xs.length ≠ 5) : Gd K H (.ref a) := .inr (.inr (.inl ⟨a, xs, rfl, e, l⟩))
theorem gd_tup {xs : List V} (e : H a = some (.tup xs)) (l : xs.length ≠ 2) : Gd K H (.ref a) := .inr (.inr (.inr (.inl ⟨a, xs, rfl, e, l⟩)))
theorem gd_two {x y : V} {b1 b2 : Bool} (e : H a = some (.tup [x, y])) (k1 : Kn K H x b1) (k2 : Kn K H y b2) (l : ∀ l : Int, y = .int l → l.natAbs.log2 < 9000) : Gd K H (.ref a) := .inr (.inr (.inr (.inr ⟨a, x, y, b1, b2, rfl, e, k1, k2, l⟩)))
theorem kn_int {i : Int} : Kn K H (.int i) true := .inl ⟨i, rfl, rfl⟩
theorem kn_bl {x : Bool} : Kn K H (.bl x) false := .inr ⟨rfl, .inr (.inl ⟨x, rfl⟩)⟩
theorem kn_non : Kn K H .non false := .inr ⟨rfl, .inl rfl⟩
theorem kn_str {x : Str} : Kn K H (.str x) false := .inr ⟨rfl, .inr (.inr (.inl ⟨x, rfl⟩))⟩
theorem kn_tup {xs : List V} (e : H a = some (.tup xs)) : Kn K H (.ref a) false := .inr ⟨rfl, .inr (.inr (.inr (.inl ⟨a, xs, rfl, e⟩)))⟩
theorem kn_ins {C dx : Addr} {fs : List (Str × V)} (e : H a = some (.ins C dx fs)) (o : OwC K C) : Kn K H (.ref a) false := .inr ⟨rfl, .inr (.inr (.inr (.inr ⟨a, C, dx, fs, rfl, e, o⟩)))⟩
end
theorem same_app {H H' : Hp} (s : Same H H') {a : Addr} {o : HO} (e : H a = some o) : H' a = some o := s _ _ e
theorem lg {z : Int} (h : z.natAbs < 2 ^ 400) : ∀ l : Int, V.int z = .int l → l.natAbs.log2 < 9000 := fun l e => by
  cases e
  exact Nat.lt_trans (log_bd h (by decide)) (by decide)
theorem lgn {v : V} (h : ∀ l : Int, v ≠ .int l) : ∀ l : Int, v = .int l → l.natAbs.log2 < 9000 := fun l e => absurd e (h l)
def spAny (K : PySem.W.Frag) : Sp := fun vs H Q _ => ∃ (B p : Addr) (x : V) (u l : Int), vs = [.ref B, x] ∧ Bag H B p ∧ Fr H 1000 x u l ∧ 0 < l ∧ ∀ H' z, Bag H' B p → But B H H' → Gd K H' z → Q z H'
abbrev nAny : List Str := ["_law_bag_here", "_law_a", "_law_p", "_law_q", "_law_some"]
section
variable {P : Program} {w : World} {K : PySem.W.Frag} {mg : Str → Option Value} {base : Heap} {f CS CR pS pR gS' gR : Addr} {fd fdS fdR : FuncData}
theorem scAny : FnScope nAny ["_law_bag_here", "_law_a"] (defScope (top 90)) := ⟨rfl, rfl, rfl, by decide +kernel, rfl, by decide +kernel, by decide +kernel⟩
theorem ok_any (F : Fun K "_law_any" "_law_any" (top 90) f fd) (mabs : mg "abs" = none) (ms : mg "str" = none) (UO : Use P w K mg base CX0 2 "_law_of" ["_law_bag_here", "_law_things"] spOfL [])
    (GS : FnOk P w K mg base CX0 8 gS' fdS ["order"] (spSt CS)) (bS : Binds K fdS ["order"] []) (mS : mg "Step" = some (.ref CS)) (rS : ClX.CRead K CS (.type "type")) (cS : CSta K CS (.type "type") "still" pS gS') (oS : OwC K CS)
    (GR : FnOk P w K mg base CX0 8 gR fdR ["value", "order"] (spCt K CR)) (bR : Binds K fdR ["value", "order"] []) (mR : mg "Row" = some (.ref CR)) (rR : ClX.CRead K CR (.type "type")) (cR : CSta K CR (.type "type") "constant" pR gR) (oR : OwC K CR) :
    FnOk P w K mg base CX0 9 f fd ["_law_bag_here", "_law_a"] (spAny K) := by
  refine F.ok scAny (fun vs H Q E h => ?_) (fun cdv A outer s H vs Q E hr h => ?_)
  · obtain ⟨B, p, x, u, l, rfl, _⟩ := h
    rfl
  obtain ⟨B, p, x, u, l, rfl, hb, fx, l0, q⟩ := h
  have hr2 := hr.mono (show 2 ≤ 8 by decide)
  have neg1 : ∀ {X : Cx} {j : Nat} {i : Int} {p1 p2 : Pos}, PE X (.UnaryOp .USub (.Constant (.int i) j p1) p2) (tUn (rU fun i => .int (-i)) (tC (.int i))) := pe_un un_neg pe_int
  refine ⟨_, C8.pss_cut (ps_asg (pe_ifExp (PW.pt (pw_and (pt_cmpR op_le (pe_callB call_abs rfl mabs (by decide +kernel) (pa_cons (pe_ix ix_tup (pv 1) pe_int (fun _ _ => rfl)) pa_nil)) (pe_op op_pow pe_int pe_int) (nomark _)) (pw_and1 (pt_cmpR op_le (pe_ix ix_tup (pv 1) pe_int (fun _ _ => rfl)) (pe_op op_pow pe_int pe_int) (nomark _))))) (pv 1) (pe_tup (pa_cons neg1 (pa_cons pe_int pa_nil))))
        (pg_tup rfl (pgs_cons (pg_name (i := 2) scAny.nd rfl (Or.inl rfl)) (pgs_cons (pg_name (i := 3) scAny.nd rfl (Or.inl rfl)) pgs_nil))))
    (C8.pss_cut (ps_set (i := 4) scAny.nd rfl (Or.inl rfl) (pe_lst (pa_cons (pv 1) (pa_cons (pe_lst (pa_cons (pv 2) (pa_cons (pv 3) pa_nil))) (pa_cons (pe_tup (pa_cons (pv 2) (pa_cons (pe_un un_neg (pv 3)) pa_nil))) (pa_cons (pe_tup (pa_cons (pe_un un_neg (pv 2)) (pa_cons (pv 3) pa_nil))) (pa_cons (pe_tup (pa_cons (pe_op op_mulW (pv 2) pe_int) (pa_cons (pe_op op_mulW (pv 3) pe_int) pa_nil)))
        (pa_cons (pe_tup (pa_cons (pv 2) (pa_cons pe_int pa_nil))) (pa_cons (pe_tup (pa_cons (pv 3) (pa_cons (pv 2) pa_nil))) (pa_cons (pe_tup (pa_cons (pv 2) (pa_cons (pv 3) (pa_cons pe_int pa_nil)))) (pa_cons (pe_tup (pa_cons (pv 2) pa_nil)) (pa_cons (pe_tup (pa_cons (pv 1) (pa_cons (pv 3) pa_nil))) (pa_cons (pv 2) (pa_cons (pe_tup (pa_cons (pe_callTy call_str_int rfl ms (by decide +kernel) (pa_cons (pv 2) pa_nil)) (pa_cons (pv 3) pa_nil))) (pa_cons (pe_tup (pa_cons (pv 2) (pa_cons pe_non pa_nil))) pa_nil)))))))))))))))
    (C8.pss_cut (ps_set (i := 4) scAny.nd rfl (Or.inl rfl) (pe_op op_cat (pv 4) (pe_lst (pa_cons (pe_tup (pa_cons pe_bl (pa_cons pe_int pa_nil))) (pa_cons (pe_tup (pa_cons pe_int (pa_cons pe_bl pa_nil))) (pa_cons (pe_tup (pa_cons pe_bl (pa_cons pe_int pa_nil))) (pa_cons (pe_tup (pa_cons pe_int (pa_cons pe_int pa_nil))) (pa_cons (pe_tup (pa_cons pe_int (pa_cons pe_int pa_nil)))
        (pa_cons (pe_tup (pa_cons pe_int (pa_cons neg1 pa_nil))) (pa_cons (pe_tup (pa_cons pe_int (pa_cons pe_int pa_nil))) (pa_cons (pe_tup (pa_cons (pv 2) (pa_cons (pe_op op_add (pv 3) pe_int) pa_nil))) (pa_cons (pe_tup (pa_cons (pe_op op_add (pv 2) (pv 3)) (pa_cons (pv 3) pa_nil))) (pa_cons pe_non (pa_cons pe_bl (pa_cons pe_str (pa_cons pe_str pa_nil))))))))))))))))
    (C8.pss_cut (ps_set (i := 4) scAny.nd rfl (Or.inl rfl) (pe_op op_cat (pv 4) (pe_lst (pa_cons (pe_tup pa_nil) (pa_cons (pe_lst pa_nil) (pa_cons (pe_lst (pa_cons (pv 1) pa_nil)) (pa_cons (pe_tup (pa_cons (pv 1) pa_nil)) (pa_cons (pe_static (C8.pe_gc (v := .ref CS) rfl ⟨_, mS, rfl⟩) rS cS GS hr bS pass0 (pa_cons pe_int pa_nil))
        (pa_cons (pe_tup (pa_cons (pe_static (C8.pe_gc (v := .ref CS) rfl ⟨_, mS, rfl⟩) rS cS GS hr bS pass0 (pa_cons pe_int pa_nil)) (pa_cons pe_int pa_nil))) (pa_cons (pe_static (C8.pe_gc (v := .ref CR) rfl ⟨_, mR, rfl⟩) rR cR GR hr bR pass0 (pa_cons (pe_tup (pa_cons pe_int (pa_cons pe_int pa_nil))) (pa_cons pe_int pa_nil)))
        (pa_cons (pe_tup (pa_cons pe_int (pa_cons (pe_static (C8.pe_gc (v := .ref CR) rfl ⟨_, mR, rfl⟩) rR cR GR hr bR pass0 (pa_cons (pe_tup (pa_cons pe_int (pa_cons pe_int pa_nil))) (pa_cons pe_int pa_nil))) pa_nil))) (pa_cons (pe_tup (pa_cons (pe_tup (pa_cons pe_int (pa_cons pe_int pa_nil))) (pa_cons (pe_tup (pa_cons pe_int (pa_cons pe_int pa_nil))) pa_nil))) pa_nil))))))))))))
    (pss_one (ps_ret (pe_use UO hr2 rfl pass0 (pa_cons (pv 0) (pa_cons (pv 4) pa_nil)))))))), ?_⟩
  obtain ⟨xa, rfl, hx, a1, b1, bz⟩ := id fx
  have sx0 := SqT.of (K := K) hx
  refine ⟨fun σ H1 => ∃ p' q' : Int, σ = [some (.ref B), some (.ref xa), some (.int p'), some (.int q'), none] ∧ p'.natAbs < 2 ^ 200 ∧ q'.natAbs < 2 ^ 200 ∧ Same H H1, ?_, ?_⟩
  · have ten : ∀ z : Int, z ≤ 10 ^ Int.toNat 59 → 0 ≤ z → z.natAbs < 2 ^ 200 := fun z h h0 => by
      have e : (10 : Int) ^ Int.toNat 59 ≤ ((2 ^ 200 : Nat) : Int) - 1 := by decide
      omega
    have no : ∀ {H1 : Hp}, True := fun {_} => trivial
    refine ⟨_, rfl, xa, _, 0, _, rfl, rfl, sx0, rfl, u, rfl, 10, 59, rfl, rfl, ⟨by decide, by decide, by decide⟩, _, _, rfl, rfl, _, rfl, ite2 (fun c1 => ⟨_, rfl, xa, _, 1, _, rfl, rfl, sx0, rfl, 10, 59, rfl, rfl, ⟨by decide, by decide, by decide⟩, _, _, rfl, rfl, _, rfl, ite2 (fun c2 => ?_) (fun _ => ?_)⟩) (fun _ => ?_)⟩
    · refine ⟨_, rfl, xa, _, rfl, sx0, rfl, _, _, rfl, _, _, rfl, rfl, u, l, rfl, ?_, ten l (of_decide_eq_true c2) (by omega), Same.refl H⟩
      have c1 := of_decide_eq_true c1
      have h2 := ten _ c1 (by split <;> omega)
      have e : (if u < 0 then -u else u).natAbs = u.natAbs := by split <;> omega
      rwa [e] at h2
    all_goals
      refine ⟨3, rfl, (by show 2 ≤ sizeLine; decide), fun t nt => ⟨t, _, rfl, SqT.of upd_same, rfl, _, _, rfl, _, _, rfl, rfl, -3, 2, rfl, by decide, by decide, new_same nt _⟩⟩
  rintro σ H1 ⟨p', q', rfl, hp, hq, s1⟩
  have hx1 := s1 _ _ hx
  have lp : p'.natAbs < 2 ^ 400 := Nat.lt_trans hp (Nat.pow_lt_pow_right (by decide) (by decide))
  have lq : q'.natAbs < 2 ^ 400 := Nat.lt_trans hq (Nat.pow_lt_pow_right (by decide) (by decide))
  have two : (2 : Int).natAbs < 2 ^ 8 := by decide
  have ll : ∀ l' : Int, V.int l = .int l' → l'.natAbs.log2 < 9000 := fun l' e => by
    cases e
    exact Nat.lt_trans (log_bd b1 (by decide)) (by decide)
  refine ⟨fun σ H2 => ∃ (L : Addr) (xs : List V), σ = [some (.ref B), some (.ref xa), some (.int p'), some (.int q'), some (.ref L)] ∧ Same H1 H2 ∧ H2 L = some (.lst xs) ∧ AllG K H2 xs ∧ xs.length = 13, ?_, ?_⟩
  · refine ⟨_, rfl, _, rfl, _, rfl, (by show 2 ≤ sizeLine; decide), fun t1 n1 => ⟨_, rfl, _, rfl, q', rfl, (by show 2 ≤ sizeLine; decide), fun t2 n2 => ⟨_, rfl, p', rfl, _, rfl, (by show 2 ≤ sizeLine; decide), fun t3 n3 => ?_⟩⟩⟩
    refine ⟨_, rfl, p', 2, rfl, rfl, wide_mul hp two (by decide) (by decide) (by decide), _, rfl, q', 2, rfl, rfl, wide_mul hq two (by decide) (by decide) (by decide), (by show 2 ≤ sizeLine; decide), fun t4 n4 => ⟨_, rfl, (by show 2 ≤ sizeLine; decide), fun t5 n5 => ?_⟩⟩
    refine ⟨_, rfl, _, rfl, (by show 2 ≤ sizeLine; decide), fun t6 n6 => ⟨_, rfl, _, rfl, (by show 3 ≤ sizeLine; decide), fun t7 n7 => ⟨_, rfl, (by show 1 ≤ sizeLine; decide), fun t8 n8 => ⟨_, rfl, _, rfl, (by show 2 ≤ sizeLine; decide), fun t9 n9 => ?_⟩⟩⟩⟩
    refine ⟨_, rfl, _, rfl, p', rfl, Nat.lt_trans (log_bd hp (by decide)) (by decide), _, rfl, (by show 2 ≤ sizeLine; decide), fun t10 n10 => ⟨_, rfl, (by show 2 ≤ sizeLine; decide), fun t11 n11 => ⟨(by show 13 ≤ sizeLine; decide), fun t12 n12 => ?_⟩⟩⟩
    refine ⟨t12, _, rfl, ?_, upd_same, ?_, rfl⟩
    · intro a o e
      (repeat' first | exact upd_same | assumption | refine new_same (by assumption) _ _ _ ?_ | refine same_app (by assumption) ?_)
    · have hq2 : (q' * 2).natAbs < 2 ^ 400 := Nat.lt_trans (show (q' * 2).natAbs < 2 ^ 208 from wide_lt (a := 200) (b := 8) hq two) (Nat.pow_lt_pow_right (by decide) (by decide))
      refine AllG.cons (gd_two (x := .int u) (y := .int l) (by (repeat' first | exact upd_same | assumption | refine new_same (by assumption) _ _ _ ?_ | refine same_app (by assumption) ?_)) kn_int kn_int ll) ?_
      refine AllG.cons (gd_lst (xs := [.int p', .int q']) (by (repeat' first | exact upd_same | assumption | refine new_same (by assumption) _ _ _ ?_ | refine same_app (by assumption) ?_)) (by show 2 ≠ 5; decide)) ?_
      refine AllG.cons (gd_two (x := .int p') (y := .int (-q')) (by (repeat' first | exact upd_same | assumption | refine new_same (by assumption) _ _ _ ?_ | refine same_app (by assumption) ?_)) kn_int kn_int (lg (by rw [Int.natAbs_neg]; exact lq))) ?_
      refine AllG.cons (gd_two (x := .int (-p')) (y := .int q') (by (repeat' first | exact upd_same | assumption | refine new_same (by assumption) _ _ _ ?_ | refine same_app (by assumption) ?_)) kn_int kn_int (lg lq)) ?_
      refine AllG.cons (gd_two (x := .int (p' * 2)) (y := .int (q' * 2)) (by (repeat' first | exact upd_same | assumption | refine new_same (by assumption) _ _ _ ?_ | refine same_app (by assumption) ?_)) kn_int kn_int (lg hq2)) ?_
      refine AllG.cons (gd_two (x := .int p') (y := .int 0) (by (repeat' first | exact upd_same | assumption | refine new_same (by assumption) _ _ _ ?_ | refine same_app (by assumption) ?_)) kn_int kn_int (lg (by decide))) ?_
      refine AllG.cons (gd_two (x := .int q') (y := .int p') (by (repeat' first | exact upd_same | assumption | refine new_same (by assumption) _ _ _ ?_ | refine same_app (by assumption) ?_)) kn_int kn_int (lg lp)) ?_
      refine AllG.cons (gd_tup (xs := [.int p', .int q', .int 1]) (by (repeat' first | exact upd_same | assumption | refine new_same (by assumption) _ _ _ ?_ | refine same_app (by assumption) ?_)) (by show 3 ≠ 2; decide)) ?_
      refine AllG.cons (gd_tup (xs := [.int p']) (by (repeat' first | exact upd_same | assumption | refine new_same (by assumption) _ _ _ ?_ | refine same_app (by assumption) ?_)) (by show 1 ≠ 2; decide)) ?_
      refine AllG.cons (gd_two (x := .ref xa) (y := .int q') (by (repeat' first | exact upd_same | assumption | refine new_same (by assumption) _ _ _ ?_ | refine same_app (by assumption) ?_)) (kn_tup (xs := [.int u, .int l]) (by (repeat' first | exact upd_same | assumption | refine new_same (by assumption) _ _ _ ?_ | refine same_app (by assumption) ?_))) kn_int (lg lq)) ?_
      refine AllG.cons gd_int ?_
      refine AllG.cons (gd_two (x := .str (toString p')) (y := .int q') (by (repeat' first | exact upd_same | assumption | refine new_same (by assumption) _ _ _ ?_ | refine same_app (by assumption) ?_)) kn_str kn_int (lg lq)) ?_
      exact AllG.cons (gd_two (x := .int p') (y := .non) (by (repeat' first | exact upd_same | assumption | refine new_same (by assumption) _ _ _ ?_ | refine same_app (by assumption) ?_)) kn_int kn_non (lgn (fun _ z => nomatch z))) AllG.nil
  rintro σ H2 ⟨L, xs, rfl, s2, hL, ag, xl⟩
  have s02 := s1.trans s2
  refine ⟨fun σ H3 => ∃ (L : Addr) (xs : List V), σ = [some (.ref B), some (.ref xa), some (.int p'), some (.int q'), some (.ref L)] ∧ Same H H3 ∧ H3 L = some (.lst xs) ∧ AllG K H3 xs ∧ xs.length = 26, ?_, ?_⟩
  · refine ⟨_, rfl, (by show 2 ≤ sizeLine; decide), fun t1 n1 => ⟨(by show 2 ≤ sizeLine; decide), fun t2 n2 => ⟨(by show 2 ≤ sizeLine; decide), fun t3 n3 => ⟨(by show 2 ≤ sizeLine; decide), fun t4 n4 => ⟨(by show 2 ≤ sizeLine; decide), fun t5 n5 => ⟨1, rfl, (by show 2 ≤ sizeLine; decide), fun t6 n6 => ⟨(by show 2 ≤ sizeLine; decide), fun t7 n7 => ?_⟩⟩⟩⟩⟩⟩⟩
    refine ⟨_, rfl, _, rfl, q', 1, rfl, rfl, (by show 2 ≤ sizeLine; decide), fun t8 n8 => ⟨_, rfl, _, rfl, p', q', rfl, rfl, _, rfl, (by show 2 ≤ sizeLine; decide), fun t9 n9 => ⟨(by show 13 ≤ sizeLine; decide), fun t10 n10 => ?_⟩⟩⟩
    refine ⟨L, t10, xs, _, rfl, rfl, ?_, upd_same, ?_, fun t11 n11 => ⟨t11, _, rfl, ?_, upd_same, ?_, ?_⟩⟩
    · (repeat' first | exact upd_same | assumption | refine new_same (by assumption) _ _ _ ?_ | refine same_app (by assumption) ?_)
    · rw [xl]
      show 13 + 13 ≤ sizeLine
      decide
    · intro a o e
      have e := s02 _ _ e
      (repeat' first | exact upd_same | assumption | refine new_same (by assumption) _ _ _ ?_ | refine same_app (by assumption) ?_)
    · refine AllG.app (ag.same fun a o e => by (repeat' first | exact upd_same | assumption | refine new_same (by assumption) _ _ _ ?_ | refine same_app (by assumption) ?_)) ?_
      have hq1 : (q' + 1).natAbs < 2 ^ 400 := Nat.lt_trans (show (q' + 1).natAbs < 2 ^ 201 from add_bd hq (by decide)) (Nat.pow_lt_pow_right (by decide) (by decide))
      refine AllG.cons (gd_two (x := .bl true) (y := .int 1) (by (repeat' first | exact upd_same | assumption | refine new_same (by assumption) _ _ _ ?_ | refine same_app (by assumption) ?_)) kn_bl kn_int (lg (by decide))) ?_
      refine AllG.cons (gd_two (x := .int 1) (y := .bl true) (by (repeat' first | exact upd_same | assumption | refine new_same (by assumption) _ _ _ ?_ | refine same_app (by assumption) ?_)) kn_int kn_bl (lgn (fun _ z => nomatch z))) ?_
      refine AllG.cons (gd_two (x := .bl false) (y := .int 1) (by (repeat' first | exact upd_same | assumption | refine new_same (by assumption) _ _ _ ?_ | refine same_app (by assumption) ?_)) kn_bl kn_int (lg (by decide))) ?_
      refine AllG.cons (gd_two (x := .int 0) (y := .int 1) (by (repeat' first | exact upd_same | assumption | refine new_same (by assumption) _ _ _ ?_ | refine same_app (by assumption) ?_)) kn_int kn_int (lg (by decide))) ?_
      refine AllG.cons (gd_two (x := .int 0) (y := .int 2) (by (repeat' first | exact upd_same | assumption | refine new_same (by assumption) _ _ _ ?_ | refine same_app (by assumption) ?_)) kn_int kn_int (lg (by decide))) ?_
      refine AllG.cons (gd_two (x := .int 0) (y := .int (-1)) (by (repeat' first | exact upd_same | assumption | refine new_same (by assumption) _ _ _ ?_ | refine same_app (by assumption) ?_)) kn_int kn_int (lg (by decide))) ?_
      refine AllG.cons (gd_two (x := .int 1) (y := .int 1) (by (repeat' first | exact upd_same | assumption | refine new_same (by assumption) _ _ _ ?_ | refine same_app (by assumption) ?_)) kn_int kn_int (lg (by decide))) ?_
      refine AllG.cons (gd_two (x := .int p') (y := .int (q' + 1)) (by (repeat' first | exact upd_same | assumption | refine new_same (by assumption) _ _ _ ?_ | refine same_app (by assumption) ?_)) kn_int kn_int (lg hq1)) ?_
      refine AllG.cons (gd_two (x := .int (p' + q')) (y := .int q') (by (repeat' first | exact upd_same | assumption | refine new_same (by assumption) _ _ _ ?_ | refine same_app (by assumption) ?_)) kn_int kn_int (lg lq)) ?_
      exact AllG.cons gd_non (AllG.cons gd_bl (AllG.cons gd_str (AllG.cons gd_str AllG.nil)))
    · rw [List.length_append, xl]
      rfl
  clear s1 s02 s2 hL ag xl hx1
  rintro σ H2 ⟨L, xs, rfl, s02, hL, ag, xl⟩
  have hx1 := s02 _ _ hx
  refine ⟨fun σ H3 => ∃ (L : Addr) (xs : List V), σ = [some (.ref B), some (.ref xa), some (.int p'), some (.int q'), some (.ref L)] ∧ Same H H3 ∧ H3 L = some (.lst xs) ∧ L ≠ B ∧ AllG K H3 xs ∧ xs.length = 35, ?_, ?_⟩
  · refine ⟨_, rfl, (by show 0 ≤ sizeLine; decide), fun t1 n1 => ⟨(by show 0 ≤ sizeLine; decide), fun t2 n2 => ⟨_, rfl, (by show 1 ≤ sizeLine; decide), fun t3 n3 => ⟨_, rfl, (by show 1 ≤ sizeLine; decide), fun t4 n4 => ?_⟩⟩⟩⟩
    refine ⟨rfl, 2, rfl, .inr rfl, fun G1 y1 dx1 fs1 g1 ny1 ey1 => ⟨rfl, 1, rfl, .inl rfl, fun G2 y2 dx2 fs2 g2 ny2 ey2 => ⟨(by show 2 ≤ sizeLine; decide), fun t5 n5 => ?_⟩⟩⟩
    refine ⟨rfl, (by show 2 ≤ sizeLine; decide), fun t6 n6 => ⟨_, 1, 2, 2, rfl, .inl rfl, ⟨t6, rfl, .inl upd_same⟩, by decide, by decide, fun G3 y3 dx3 fs3 g3 ny3 ey3 => ?_⟩⟩
    refine ⟨rfl, (by show 2 ≤ sizeLine; decide), fun t7 n7 => ⟨_, 0, 1, 3, rfl, .inr rfl, ⟨t7, rfl, .inl upd_same⟩, by decide, by decide, fun G4 y4 dx4 fs4 g4 ny4 ey4 => ⟨(by show 2 ≤ sizeLine; decide), fun t8 n8 => ?_⟩⟩⟩
    refine ⟨(by show 2 ≤ sizeLine; decide), fun t9 n9 => ⟨(by show 2 ≤ sizeLine; decide), fun t10 n10 => ⟨(by show 2 ≤ sizeLine; decide), fun t11 n11 => ⟨(by show 9 ≤ sizeLine; decide), fun t12 n12 => ?_⟩⟩⟩⟩
    refine ⟨L, t12, xs, _, rfl, rfl, ?_, upd_same, ?_, fun t13 n13 => ⟨t13, _, rfl, ?_, upd_same, ?_, ?_, ?_⟩⟩
    · (repeat' first | exact upd_same | assumption | refine new_same (by assumption) _ _ _ ?_ | refine same_app (by assumption) ?_)
    · rw [xl]
      show 26 + 9 ≤ sizeLine
      decide
    · intro a o e
      have e := s02 _ _ e
      (repeat' first | exact upd_same | assumption | refine new_same (by assumption) _ _ _ ?_ | refine same_app (by assumption) ?_)
    · intro z
      obtain ⟨_, _, _, _, _, hB, _⟩ := hb.ex
      have hB := s02 _ _ hB
      rw [z] at n13
      have n14 := n13.symm.trans (by (repeat' first | exact upd_same | assumption | refine new_same (by assumption) _ _ _ ?_ | refine same_app (by assumption) ?_) : _ = some (HO.lst _))
      cases n14
    · refine AllG.app (ag.same fun a o e => by (repeat' first | exact upd_same | assumption | refine new_same (by assumption) _ _ _ ?_ | refine same_app (by assumption) ?_)) ?_
      refine AllG.cons (gd_tup (xs := []) (by (repeat' first | exact upd_same | assumption | refine new_same (by assumption) _ _ _ ?_ | refine same_app (by assumption) ?_)) (by show 0 ≠ 2; decide)) ?_
      refine AllG.cons (gd_lst (xs := []) (by (repeat' first | exact upd_same | assumption | refine new_same (by assumption) _ _ _ ?_ | refine same_app (by assumption) ?_)) (by show 0 ≠ 5; decide)) ?_
      refine AllG.cons (gd_lst (xs := [.ref xa]) (by (repeat' first | exact upd_same | assumption | refine new_same (by assumption) _ _ _ ?_ | refine same_app (by assumption) ?_)) (by show 1 ≠ 5; decide)) ?_
      refine AllG.cons (gd_tup (xs := [.ref xa]) (by (repeat' first | exact upd_same | assumption | refine new_same (by assumption) _ _ _ ?_ | refine same_app (by assumption) ?_)) (by show 1 ≠ 2; decide)) ?_
      refine AllG.cons (gd_ins (C := CS) (dx := dx1) (fs := fs1) (by (repeat' first | exact upd_same | assumption | refine new_same (by assumption) _ _ _ ?_ | refine same_app (by assumption) ?_)) oS) ?_
      refine AllG.cons (gd_two (x := .ref y2) (y := .int 1) (by (repeat' first | exact upd_same | assumption | refine new_same (by assumption) _ _ _ ?_ | refine same_app (by assumption) ?_)) (kn_ins (C := CS) (dx := dx2) (fs := fs2) (by (repeat' first | exact upd_same | assumption | refine new_same (by assumption) _ _ _ ?_ | refine same_app (by assumption) ?_)) oS) kn_int (lg (by decide))) ?_
      refine AllG.cons (gd_ins (C := CR) (dx := dx3) (fs := fs3) (by (repeat' first | exact upd_same | assumption | refine new_same (by assumption) _ _ _ ?_ | refine same_app (by assumption) ?_)) oR) ?_
      refine AllG.cons (gd_two (x := .int 1) (y := .ref y4) (by (repeat' first | exact upd_same | assumption | refine new_same (by assumption) _ _ _ ?_ | refine same_app (by assumption) ?_)) kn_int (kn_ins (C := CR) (dx := dx4) (fs := fs4) (by (repeat' first | exact upd_same | assumption | refine new_same (by assumption) _ _ _ ?_ | refine same_app (by assumption) ?_)) oR) (lgn (fun _ z => nomatch z))) ?_
      exact AllG.cons (gd_two (x := .ref t9) (y := .ref t10) (by (repeat' first | exact upd_same | assumption | refine new_same (by assumption) _ _ _ ?_ | refine same_app (by assumption) ?_)) (kn_tup (xs := [.int 1, .int 2]) (by (repeat' first | exact upd_same | assumption | refine new_same (by assumption) _ _ _ ?_ | refine same_app (by assumption) ?_))) (kn_tup (xs := [.int 1, .int 3]) (by (repeat' first | exact upd_same | assumption | refine new_same (by assumption) _ _ _ ?_ | refine same_app (by assumption) ?_))) (lgn (fun _ z => nomatch z))) AllG.nil
    · rw [List.length_append, xl]
      rfl
  clear hx1 s02 hL ag xl
  rintro σ H3 ⟨L, xs, rfl, s3, hL, nB, ag, xl⟩
  exact ⟨_, rfl, _, rfl, B, p, L, xs, rfl, hL, nB, by omega, by omega, hb.same s3, fun H' z b' u' hz => q H' z b' ((But.same s3).trans u') ((ag z hz).but (hb.same s3) u')⟩
end
end Kq
end
section
set_option maxHeartbeats 4000000
namespace Kq
open PySem PySem.Spec PyProof.Rows L2 RZ
/-- a fraction that was drawn -/
def Fg (H : Hp) (v : V) : Prop := ∃ u l : Int, Fr H 240 v u l ∧ 0 < l ∧ Nat.gcd u.natAbs l.natAbs = 1
theorem Fr.le {H : Hp} {n m : Nat} {v : V} {u l : Int} (h : Fr H n v u l) (k : n ≤ m) : Fr H m v u l := by
  obtain ⟨a, e, h1, h2, h3, h4⟩ := h
  exact ⟨a, e, h1, Nat.lt_of_lt_of_le h2 (Nat.pow_le_pow_right (by decide) k), Nat.lt_of_lt_of_le h3 (Nat.pow_le_pow_right (by decide) k), h4⟩
theorem Fg.of {H0 H : Hp} {n : Nat} {v : V} (h : FrN H0 H n v) (k : n ≤ 240) : Fg H v := by
  obtain ⟨a, u, l, e, _, h1, h2, h3, h4, h5⟩ := h
  exact ⟨u, l, Fr.le ⟨a, e, h1, h2, h3, by omega⟩ k, h4, h5⟩
theorem Fg.go {H H' : Hp} {B p : Addr} {v : V} (h : Fg H v) (b : Bag H B p) (s : Go B H H') : Fg H' v := by
  obtain ⟨u, l, f, r⟩ := h
  exact ⟨u, l, f.go b s, r⟩
def spLaw (K : PySem.W.Frag) (T : List (Addr × Str)) : Sp := fun vs H Q _ => ∃ (a : Addr) (ns : List Int), vs = [.ref a] ∧ SqL K H a (ns.map V.int) ∧ LamX.Tabs T H ∧ ∀ H', Q (.bl true) H'
abbrev nLaw : List Str := ["_law_script", "_law_bag_here", "_law_lap", "_law_a", "_law_b", "_law_pick", "_law_turn", "_law_thing"]
structure Kit2 (P : Program) (w : World) (K : PySem.W.Frag) (mg : Str → Option Value) (base : Heap) (T : List (Addr × Str)) : Prop where
  bag : Use P w K mg base CX0 1 "_law_bag" ["_law_script"] (spBag K) []
  draw : Use P w K mg base CX0 1 "_law_draw" ["_law_bag_here", "_law_limit"] spDraw []
  ofL : Use P w K mg base CX0 2 "_law_of" ["_law_bag_here", "_law_things"] spOfL []
  wid : Use P w K mg base CX0 4 "_law_wide" ["_law_bag_here"] spWide []
  num : Use P w K mg base CX0 3 "_law_number" ["_law_bag_here"] spNum []
  big : Use P w K mg base CX0 3 "_law_big" ["_law_bag_here"] spBig []
  neg : Use P w K mg base CX0 1 "_law_neg" ["_law_a"] spNeg []
  ds : Use P w K mg base CX0 7 "_law_deeds_so" ["_law_a", "_law_b"] (spDs T) []
  rs : Use P w K mg base CX0 7 "_law_ratio_so" ["_law_bag_here", "_law_p", "_law_q"] (spRs T) []
  ps : Use P w K mg base CX0 7 "_law_power_so" ["_law_bag_here", "_law_a"] (spPs T) []
  any : Use P w K mg base CX0 9 "_law_any" ["_law_bag_here", "_law_a"] (spAny K) []
  isf : Use P w K mg base CX0 2 "is_fraction" ["value"] (spIsG K) [["value"]]
  lis : Use P w K mg base CX0 2 "_law_is" ["_law_thing"] (spIs K) []
  lik : Use P w K mg base CX0 6 "_law_like" ["_law_told", "_law_due"] (spLike 4) []
  mr : mg "range" = none
section
variable {P : Program} {w : World} {K : PySem.W.Frag} {mg : Str → Option Value} {base : Heap} {f : Addr} {fd : FuncData} {T : List (Addr × Str)}
theorem scLaw : FnScope nLaw ["_law_script"] (defScope (top 94)) := ⟨rfl, rfl, rfl, by decide +kernel, rfl, by decide +kernel, by decide +kernel⟩
theorem ok_law (F : Fun K "law" "law" (top 94) f fd) (U : Kit2 P w K mg base T) : FnOk P w K mg base CX0 10 f fd ["_law_script"] (spLaw K T) := by
  refine F.ok scLaw (fun vs H Q E h => ?_) (fun cdv A outer s H vs Q E hr h => ?_)
  · obtain ⟨a, ns, rfl, _⟩ := h
    rfl
  obtain ⟨a, ns, rfl, ha, hT, q⟩ := h
  have hr1 := hr.mono (show 1 ≤ 9 by decide)
  have hr2 := hr.mono (show 2 ≤ 9 by decide)
  have hr3 := hr.mono (show 3 ≤ 9 by decide)
  have hr4 := hr.mono (show 4 ≤ 9 by decide)
  have hr6 := hr.mono (show 6 ≤ 9 by decide)
  have hr7 := hr.mono (show 7 ≤ 9 by decide)
  refine ⟨_, pss_cons (ps_set (i := 1) scLaw.nd rfl (Or.inl rfl) (pe_use U.bag hr1 rfl pass0 (pa_cons (pv 0) pa_nil)))
    (pss_cons (ps_for PassesOwn.never rfl (pi_range1 rfl U.mr (pa_cons pe_int pa_nil)) (pg_name (i := 2) scLaw.nd rfl (Or.inl rfl))
      (C8.pss_cut (ps_par (i := 3) (j := 4) rfl scLaw.nd rfl rfl (by decide) rfl rfl (pa_cons (pe_use U.wid hr4 rfl pass0 (pa_cons (pv 1) pa_nil)) (pa_cons (pe_use U.wid hr4 rfl pass0 (pa_cons (pv 1) pa_nil)) pa_nil)) rfl)
      (pss_cons (ps_set (i := 5) scLaw.nd rfl (Or.inl rfl) (pe_use U.draw hr1 rfl pass0 (pa_cons (pv 1) (pa_cons pe_int pa_nil))))
      (C8.pss_cut (ps_if (pt_cmpR op_eq (pv 5) pe_int (nomark _)) (pss_one (ps_set (i := 4) scLaw.nd rfl (Or.inl rfl) (pv 3)))
          (pss_one (ps_if (pt_cmpR op_eq (pv 5) pe_int (nomark _)) (pss_one (ps_set (i := 4) scLaw.nd rfl (Or.inl rfl) (pe_use U.neg hr1 rfl pass0 (pa_cons (pv 3) pa_nil))))
          (pss_one (ps_if (pt_cmpR op_eq (pv 5) pe_int (nomark _)) (pss_one (ps_par (i := 3) (j := 4) rfl scLaw.nd rfl rfl (by decide) rfl rfl (pa_cons (pe_use U.num hr3 rfl pass0 (pa_cons (pv 1) pa_nil)) (pa_cons (pe_use U.num hr3 rfl pass0 (pa_cons (pv 1) pa_nil)) pa_nil)) rfl))
          (pss_one (ps_if (pt_cmpR op_eq (pv 5) pe_int (nomark _)) (pss_one (ps_set (i := 4) scLaw.nd rfl (Or.inl rfl) (pe_tup (pa_cons pe_int (pa_cons pe_int pa_nil))))) pss_nil)))))))
      (C8.pss_cut (ps_if (PW.pt (pw_or (pt_not (pt_val (pe_use U.ds hr7 rfl pass0 (pa_cons (pv 3) (pa_cons (pv 4) pa_nil))))) (pw_or1 (pt_not (pt_val (pe_use U.ds hr7 rfl pass0 (pa_cons (pv 4) (pa_cons (pv 3) pa_nil)))))))) (pss_one (ps_ret pe_bl)) pss_nil)
      (C8.pss_cut (ps_if (PW.pt (pw_or (pt_not (pt_val (pe_use U.rs hr7 rfl pass0 (pa_cons (pv 1) (pa_cons (pe_use U.big hr3 rfl pass0 (pa_cons (pv 1) pa_nil)) (pa_cons (pe_use U.big hr3 rfl pass0 (pa_cons (pv 1) pa_nil)) pa_nil))))))
          (pw_or1 (pt_not (pt_val (pe_use U.rs hr7 rfl pass0 (pa_cons (pv 1) (pa_cons (pe_ix ix_tup (pv 3) pe_int (fun _ _ => rfl)) (pa_cons (pe_ix ix_tup (pv 4) pe_int (fun _ _ => rfl)) pa_nil))))))))) (pss_one (ps_ret pe_bl)) pss_nil)
      (C8.pss_cut (ps_if (PW.pt (pw_or (pt_not (pt_val (pe_use U.ps hr7 rfl pass0 (pa_cons (pv 1) (pa_cons (pv 3) pa_nil))))) (pw_or1 (pt_not (pt_val (pe_use U.ps hr7 rfl pass0 (pa_cons (pv 1) (pa_cons (pe_use U.num hr3 rfl pass0 (pa_cons (pv 1) pa_nil)) pa_nil)))))))) (pss_one (ps_ret pe_bl)) pss_nil)
      (pss_one (ps_for PassesOwn.never rfl (pi_range1 rfl U.mr (pa_cons pe_int pa_nil)) (pg_name (i := 6) scLaw.nd rfl (Or.inl rfl))
        (pss_cons (ps_set (i := 7) scLaw.nd rfl (Or.inl rfl) (pe_use U.any hr rfl pass0 (pa_cons (pv 1) (pa_cons (pe_use U.ofL hr2 rfl pass0 (pa_cons (pv 1) (pa_cons (pe_lst (pa_cons (pv 3) (pa_cons (pv 4) (pa_cons (pe_tup (pa_cons pe_int (pa_cons pe_int pa_nil))) pa_nil)))) pa_nil))) pa_nil))))
        (pss_one (ps_if (pt_not (pt_val (pe_use U.lik hr6 rfl pass0 (pa_cons (pe_lst (pa_cons (pe_use U.isf hr2 rfl pass0 (pa_cons (pv 7) pa_nil)) (pa_cons (pe_useR (ks := ["value"]) U.isf hr2 rfl pass0 rfl (pk_cons (pv 7) pk_nil) (by simp)) pa_nil)))
          (pa_cons (pe_lst (pa_cons (pe_use U.lis hr2 rfl pass0 (pa_cons (pv 7) pa_nil)) (pa_cons (pe_use U.lis hr2 rfl pass0 (pa_cons (pv 7) pa_nil)) pa_nil))) pa_nil))))) (pss_one (ps_ret pe_bl)) pss_nil))))))))))))
    (pss_one (ps_ret pe_bl))), ?_⟩
  refine ⟨_, rfl, a, ns, rfl, ha, fun H1 B p s1 nb hb => ?_⟩
  refine ⟨3, rfl, by decide, by decide, for_range (lo := 0) (n := 3) (fun i σ H' => (∃ v2 v3 v4 v5 v6 v7 : Option V, σ = [some (.ref a), some (.ref B), v2, v3, v4, v5, v6, v7]) ∧ Bag H' B p ∧ LamX.Tabs T H') ⟨⟨none, none, none, none, none, none, rfl⟩, hb, hT.ext s1⟩ ?_ ?_⟩
  · rintro i σ H2 hi ⟨⟨v2, v3, v4, v5, v6, v7, rfl⟩, c2, T2⟩
    clear hb hT ha s1 nb
    refine ⟨fun σ H' => ∃ v2 x y, σ = [some (.ref a), some (.ref B), v2, some x, some y, v5, v6, v7] ∧ Bag H' B p ∧ LamX.Tabs T H' ∧ Fg H' x ∧ Fg H' y, ?_, ?_⟩
    · exact ⟨_, rfl, B, p, rfl, c2, fun H3 x b3 u3 fx => ⟨_, rfl, B, p, rfl, b3, fun H4 y b4 u4 fy => ⟨_, _, rfl, _, x, y, rfl, b4, tabs_but (tabs_but T2 c2 u3) b3 u4, (Fg.of fx (by decide)).go b3 (Go.of u4), Fg.of fy (by decide)⟩⟩⟩
    clear c2 T2 v2
    rintro σ H3 ⟨v2, x, y, rfl, c3, T3, fx, fy⟩
    refine ⟨_, rfl, B, p, 8, rfl, by decide, by decide, c3, fun H4 k c4 u4 k0 k1 => ?_⟩
    replace T3 := tabs_but T3 c3 u4
    replace fx := fx.go c3 (Go.of u4)
    replace fy := fy.go c3 (Go.of u4)
    clear c3 u4
    refine ⟨fun σ H' => ∃ v2 v5 x y, σ = [some (.ref a), some (.ref B), v2, some x, some y, v5, v6, v7] ∧ Bag H' B p ∧ LamX.Tabs T H' ∧ Fg H' x ∧ Fg H' y, ?_, ?_⟩
    · refine ⟨_, rfl, rfl, _, rfl, ite2 (fun _ => ⟨_, rfl, _, _, x, x, rfl, c4, T3, fx, fx⟩) (fun _ => ⟨_, rfl, rfl, _, rfl, ite2 (fun _ => ?_) (fun _ => ⟨_, rfl, rfl, _, rfl, ite2 (fun _ => ?_) (fun _ => ⟨_, rfl, rfl, _, rfl, ite2 (fun _ => ?_) (fun _ => ⟨_, _, x, y, rfl, c4, T3, fx, fy⟩)⟩)⟩)⟩)⟩
      · obtain ⟨u, l, fr, l0, cop⟩ := id fx
        refine ⟨_, rfl, x, u, l, rfl, fr.le (by decide), fun t H5 s5 n5 e5 => ⟨_, _, x, .ref t, rfl, c4.same s5, T3.ext s5, fx.go c4 (Go.of (But.same s5)), -u, l, ?_, l0, by rw [Int.natAbs_neg]; exact cop⟩⟩
        obtain ⟨_, _, _, h1, h2, h3⟩ := fr
        exact ⟨t, rfl, e5, by rw [Int.natAbs_neg]; exact h1, h2, h3⟩
      · exact ⟨_, rfl, B, p, rfl, c4, fun H5 x' b5 u5 fx' => ⟨_, rfl, B, p, rfl, b5, fun H6 y' b6 u6 fy' => ⟨_, _, rfl, _, _, x', y', rfl, b6, tabs_but (tabs_but T3 c4 u5) b5 u6, (Fg.of fx' (by decide)).go b5 (Go.of u6), Fg.of fy' (by decide)⟩⟩⟩
      · refine ⟨(by show 2 ≤ sizeLine; decide), fun t nt => ⟨_, _, x, .ref t, rfl, c4.put nt, T3.ext (new_same nt _), fx.go c4 (Go.of (But.same (new_same nt _))), 0, 1, ⟨t, rfl, upd_same, by decide, by decide, by decide⟩, by decide, by decide⟩⟩
    clear fx fy T3 c4 x y v2
    rintro σ H5 ⟨v2, v5', x, y, rfl, c5, T5, fx, fy⟩
    refine ⟨fun σ H' => σ = [some (.ref a), some (.ref B), v2, some x, some y, v5', v6, v7] ∧ Bag H' B p ∧ LamX.Tabs T H' ∧ Fg H' x ∧ Fg H' y, ?_, ?_⟩
    · obtain ⟨u, l, fr, l0, cop⟩ := id fx
      obtain ⟨u', l', fr', l0', cop'⟩ := id fy
      refine ⟨_, rfl, _, rfl, x, y, u, l, u', l', rfl, fr.le (by decide), fr'.le (by decide), T5, fun H6 e6 T6 => ⟨_, rfl, iteF ?_⟩⟩
      refine ⟨_, rfl, _, rfl, y, x, u', l', u, l, rfl, (fr'.le (by decide)).ext e6, (fr.le (by decide)).ext e6, T6, fun H7 e7 T7 => ⟨_, rfl, iteF ⟨rfl, (c5.ext e6).ext e7, T7, (fx.go c5 (Go.ext e6)).go (c5.ext e6) (Go.ext e7), (fy.go c5 (Go.ext e6)).go (c5.ext e6) (Go.ext e7)⟩⟩⟩
    clear fx fy T5 c5
    rintro σ H5 ⟨rfl, c5, T5, fx, fy⟩
    refine ⟨fun σ H' => σ = [some (.ref a), some (.ref B), v2, some x, some y, v5', v6, v7] ∧ Bag H' B p ∧ LamX.Tabs T H' ∧ Fg H' x ∧ Fg H' y, ?_, ?_⟩
    · refine ⟨_, rfl, _, rfl, B, p, rfl, c5, fun H6 n b6 u6 hn => ⟨_, rfl, B, p, rfl, b6, fun H7 m b7 u7 hm => ?_⟩⟩
      refine ⟨B, p, n, m, rfl, b7, hn, hm, tabs_but (tabs_but T5 c5 u6) b6 u7, fun H8 b8 g8 T8 => ⟨_, rfl, iteF ?_⟩⟩
      have fx8 := ((fx.go c5 (Go.of u6)).go b6 (Go.of u7)).go b7 g8
      have fy8 := ((fy.go c5 (Go.of u6)).go b6 (Go.of u7)).go b7 g8
      obtain ⟨u, l, ⟨xa, rfl, hx, x1, x2, x3⟩, l0, cop⟩ := id fx8
      obtain ⟨u', l', ⟨ya, rfl, hy, y1, y2, y3⟩, l0', cop'⟩ := id fy8
      refine ⟨_, rfl, _, rfl, xa, _, 1, _, rfl, rfl, SqT.of hx, rfl, _, rfl, ya, _, 0, _, rfl, rfl, SqT.of hy, rfl, B, p, l, u', rfl, b8, x2, y1, T8, fun H9 b9 g9 T9 => ⟨_, rfl, iteF ⟨rfl, b9, T9, fx8.go b8 g9, fy8.go b8 g9⟩⟩⟩
    clear fx fy T5 c5
    rintro σ H5 ⟨rfl, c5, T5, fx, fy⟩
    refine ⟨fun σ H' => σ = [some (.ref a), some (.ref B), v2, some x, some y, v5', v6, v7] ∧ Bag H' B p ∧ LamX.Tabs T H' ∧ Fg H' x ∧ Fg H' y, ?_, ?_⟩
    · obtain ⟨u, l, fr, l0, cop⟩ := id fx
      refine ⟨_, rfl, _, rfl, B, p, x, u, l, rfl, c5, fr.le (by decide), l0, cop, T5, fun H6 b6 g6 T6 => ⟨_, rfl, iteF ?_⟩⟩
      refine ⟨_, rfl, _, rfl, B, p, rfl, b6, fun H7 z b7 u7 fz => ?_⟩
      obtain ⟨u', l', fr', l0', cop'⟩ := Fg.of fz (by decide)
      exact ⟨B, p, z, u', l', rfl, b7, fr'.le (by decide), l0', cop', tabs_but T6 b6 u7, fun H8 b8 g8 T8 => ⟨_, rfl, iteF ⟨rfl, b8, T8, ((fx.go c5 g6).go b6 (Go.of u7)).go b7 g8, ((fy.go c5 g6).go b6 (Go.of u7)).go b7 g8⟩⟩⟩
    clear fx fy T5 c5
    rintro σ H5 ⟨rfl, c5, T5, fx, fy⟩
    refine ⟨4, rfl, by decide, by decide, for_range (lo := 0) (n := 4) (fun i σ H' => (∃ v6 v7 : Option V, σ = [some (.ref a), some (.ref B), v2, some x, some y, v5', v6, v7]) ∧ Bag H' B p ∧ LamX.Tabs T H' ∧ Fg H' x ∧ Fg H' y) ⟨⟨_, _, rfl⟩, c5, T5, fx, fy⟩ ?_ ?_⟩
    · clear fx fy T5 c5 v6 v7
      rintro j σ H6 hj ⟨⟨v6, v7, rfl⟩, c6, T6, fx, fy⟩
      refine ⟨_, rfl, _, rfl, _, rfl, _, rfl, (by show 2 ≤ sizeLine; decide), fun t1 n1 => ⟨(by show 3 ≤ sizeLine; decide), fun t2 n2 => ?_⟩⟩
      have c61 := c6.put (o := HO.tup [.int 3, .int 2]) n1
      refine ⟨B, p, t2, _, rfl, upd_same, (c61.at n2).1, (by show 0 < 3; decide), (by show 3 ≤ 1000; decide), c61.put n2, fun H7 z b7 u7 hz => ?_⟩
      have u67 : But B H6 H7 := (But.new n1).trans ((But.new n2).trans u7)
      have fx7 := fx.go c6 (Go.of u67)
      have fy7 := fy.go c6 (Go.of u67)
      have fz : Fg H7 z := by
        simp only [List.mem_cons, List.not_mem_nil, or_false] at hz
        rcases hz with rfl | rfl | rfl
        · exact fx7
        · exact fy7
        · exact ⟨3, 2, ⟨t1, rfl, u7 _ _ (c6.at n1).1 (new_same n2 _ _ _ upd_same), by decide, by decide, by decide⟩, by decide, by decide⟩
      obtain ⟨u, l, fr, l0, cop⟩ := fz
      refine ⟨B, p, z, u, l, rfl, b7, fr.le (by decide), l0, fun H8 th b8 u8 gd => ?_⟩
      obtain ⟨r, hr'⟩ := gd.isF
      have i0 := hr' H8 (Same.refl H8)
      refine ⟨_, rfl, th, r, rfl, i0.g, _, rfl, rfl, th, r, rfl, i0.g, (by show 2 ≤ sizeLine; decide), fun t3 n3 => ?_⟩
      have s3 := new_same n3 (HO.lst [.bl r, .bl r])
      refine ⟨_, rfl, th, r, rfl, hr' _ s3, (gd.same s3).log, fun H9 s9 => ?_⟩
      refine ⟨_, rfl, th, r, rfl, hr' _ (s3.trans s9), (gd.same (s3.trans s9)).log, fun H10 s10 => ⟨(by show 2 ≤ sizeLine; decide), fun t4 n4 => ?_⟩⟩
      have s4 := new_same n4 (HO.lst [.bl r, .bl r])
      refine ⟨.ref t3, .ref t4, Trk (upd H10 t4 (HO.lst [.bl r, .bl r])), Trk (upd H10 t4 (HO.lst [.bl r, .bl r])), rfl, .inr ⟨t3, t4, _, _, rfl, rfl, (by show 2 ≤ 60; decide), ⟨_, s4 _ _ (s10 _ _ (s9 _ _ upd_same))⟩, ⟨_, upd_same⟩, .cons (Tw.flat rfl) (.cons (Tw.flat rfl) .nil), .inl ⟨s4 _ _ (s10 _ _ (s9 _ _ upd_same)), upd_same⟩⟩, fun H11 s11 => ⟨_, rfl, iteF ?_⟩⟩
      have sA : Same H8 H11 := s3.trans (s9.trans (s10.trans (s4.trans s11)))
      have uA : But B H6 H11 := u67.trans (u8.trans (But.same sA))
      exact ⟨⟨_, _, rfl⟩, b8.same sA, tabs_but T6 c6 uA, fx.go c6 (Go.of uA), fy.go c6 (Go.of uA)⟩
    · rintro σ H6 ⟨⟨v6', v7', rfl⟩, c6, T6, _, _⟩
      exact ⟨⟨_, _, _, _, _, _, rfl⟩, c6, T6⟩
  · rintro σ H' ⟨⟨v2, v3, v4, v5, v6, v7, rfl⟩, _, _⟩
    exact q H'
end
end Kq
end
section
set_option maxHeartbeats 4000000
namespace Kq
open PySem PySem.Spec PyProof.Rows L2
/-- a def of the module: its name, its place in the text, its address -/
structure LD where
  nm : Str
  ix : Nat
  f : Addr
def ldT : List LD := [
  ⟨"is_whole", 19, 256⟩,
  ⟨"is_between", 20, 263⟩,
  ⟨"is_fraction", 21, 270⟩,
  ⟨"ratio", 22, 277⟩,
  ⟨"sum_of", 23, 284⟩,
  ⟨"difference_of", 24, 291⟩,
  ⟨"product_of", 25, 298⟩,
  ⟨"quotient_of", 26, 305⟩,
  ⟨"raised", 28, 319⟩,
  ⟨"power_of", 29, 326⟩,
  ⟨"is_below", 30, 333⟩,
  ⟨"is_listing", 35, 347⟩,
  ⟨"check_order", 36, 354⟩,
  ⟨"check_number", 39, 375⟩,
  ⟨"checked_numbers", 42, 396⟩,
  ⟨"is_zero", 46, 415⟩,
  ⟨"least_place", 47, 422⟩,
  ⟨"still_numbers", 54, 461⟩,
  ⟨"kind_of", 72, 680⟩,
  ⟨"_law_bag", 75, 826⟩,
  ⟨"_law_draw", 76, 833⟩,
  ⟨"_law_of", 77, 840⟩,
  ⟨"_law_like", 78, 845⟩,
  ⟨"_law_low", 79, 852⟩,
  ⟨"_law_add", 80, 859⟩,
  ⟨"_law_mul", 81, 866⟩,
  ⟨"_law_neg", 82, 873⟩,
  ⟨"_law_number", 83, 880⟩,
  ⟨"_law_big", 84, 887⟩,
  ⟨"_law_wide", 85, 894⟩,
  ⟨"_law_is", 86, 899⟩,
  ⟨"_law_raised", 87, 906⟩,
  ⟨"_law_fault", 88, 913⟩,
  ⟨"_law_ask", 89, 920⟩,
  ⟨"_law_any", 90, 927⟩,
  ⟨"_law_deeds_so", 91, 934⟩,
  ⟨"_law_ratio_so", 92, 941⟩,
  ⟨"_law_power_so", 93, 948⟩,
  ⟨"law", 94, 955⟩,
  ⟨"wrong_item", 40, 382⟩,
  ⟨"check_fractions", 41, 389⟩
]
abbrev stA : Addr := 815
abbrev rwA : Addr := 669
abbrev zeA : Addr := 247
abbrev onA : Addr := 248
abbrev ipA : Addr := 174
abbrev dzA : Addr := 244
abbrev ceA : Addr := 59
abbrev naA : Addr := 224
def freeN : List Str := ["isinstance", "len", "list", "tuple", "int", "range", "all", "zip", "bool", "str", "abs", "enumerate"]
def tabA : List Addr := [929, 936, 943]
def ldD (d : LD) : He5.DefA := { at_ := fun _ => d.f, name := d.nm, qual := d.nm, params := defArgs (top d.ix), body := defBody (top d.ix), scope := defScope (top d.ix) }
def mtD (q nm : Str) (f : Addr) (st : Stmt) : He5.DefA := { at_ := fun _ => f, name := nm, qual := q, params := defArgs st, body := defBody st, scope := defScope st }
def clT : List He5.DefA := [mtD "Step.__init__" "__init__" 694 (inClass (top 73) 0), mtD "Step.still" "still" 701 (inClass (top 73) 1), mtD "Row.__init__" "__init__" 560 (inClass (top 70) 0), mtD "Row.constant" "constant" 567 (inClass (top 70) 1),
  mtD "InvalidPower.__init__" "__init__" 171 (inClass (top 9) 0), mtD "DividedByZero.__init__" "__init__" 241 (inClass (top 13) 0)]
def fnT : List He5.DefA := clT ++ ldT.map ldD
def kpB (K : PySem.W.Frag) (a : Addr) (x y : Int) : Bool := match K.lookup a with
  | some ⟨.type c, _, .seq its _, _⟩ => decide (c = "tuple") && (decide (its.size ≤ sizeLine) && He.relAll [.int x, .int y] its.toList)
  | _ => false
theorem kpB_ok {K : PySem.W.Frag} {a : Addr} {x y : Int} (h : kpB K a x y = true) : KP K a x y := by
  unfold kpB at h
  split at h
  · rename_i c d its n sl q
    obtain ⟨h1, h⟩ := He.ba h
    obtain ⟨h2, h3⟩ := He.ba h
    exact ⟨_, its, n, q, congrArg Value.type (of_decide_eq_true h1), rfl, of_decide_eq_true h2, He.relAll_ok h3⟩
  · cases h
/-- an own class -/
def owB (K : PySem.W.Frag) (C iA sA gA : Addr) (m : Str) (ns : List Str) : Bool :=
  PySem.W.plainGet K C Str.empty && (PySem.W.hasDictIn K C && (PySem.W.plainOver K C && (He.eqO (PySem.W.findIn K (.ref C) "__setattr__") (some (some (.builtin "object.__setattr__"))) && (ns.all (fun x => He.eqO (PySem.W.findIn K (.ref C) x) (some none)) &&
  (PySem.W.makesIn K C && (He.eqO (PySem.W.findIn K (.ref C) "__init__") (some (some (.ref iA))) && (PySem.W.isFn K (.ref iA) && (PySem.W.keepIn K (.ref C) && (He5.wrapB K C "staticmethod" "staticmethod.__get__" m && (decide (He.ma K C m = sA) && (decide (He5.wf K C "staticmethod" m = gA) &&
  (PySem.W.readsIn K C (.type "type") && (He.eqO (PySem.W.specialIn K (.ref C) "__getattribute__") (some (some (.builtin "type.__getattribute__"))) && (He.eqO (PySem.W.findIn K (.ref C) "__class__") (some (some (.builtin "object.__class__"))) &&
  (He.eqO (PySem.W.specialIn K (.builtin "object.__class__") "__get__") (some (some (.builtin "getset_descriptor.__get__"))) && (decide (PySem.W.takesIn K (.builtin "object.__class__") = some true) && (decide (PySem.W.mroIn K C (.type "object") = some true) &&
  (decide (PySem.W.kitOne K (.ref C) (.type "tuple") = some false) && (decide (PySem.W.kitOne K (.ref C) (.type "int") = some false) && decide (PySem.W.kitOne K (.ref C) (.type "bool") = some false))))))))))))))))))))
theorem owB_ok {K : PySem.W.Frag} {C iA sA gA : Addr} {m : Str} {ns : List Str} (h : owB K C iA sA gA m ns = true) (hk : PySem.W.keepIn K (.ref gA) = true) :
    Cls K C ∧ (∀ n ∈ ns, NoAttr K C n) ∧ Mk K C iA ∧ ClX.CRead K C (.type "type") ∧ CSta K C (.type "type") m sA gA ∧ OwC K C := by
  unfold owB at h
  obtain ⟨a1, h⟩ := He.ba h
  obtain ⟨a2, h⟩ := He.ba h
  obtain ⟨a3, h⟩ := He.ba h
  obtain ⟨a4, h⟩ := He.ba h
  obtain ⟨a5, h⟩ := He.ba h
  obtain ⟨a6, h⟩ := He.ba h
  obtain ⟨a7, h⟩ := He.ba h
  obtain ⟨a8, h⟩ := He.ba h
  obtain ⟨a9, h⟩ := He.ba h
  obtain ⟨b1, h⟩ := He.ba h
  obtain ⟨b2, h⟩ := He.ba h
  obtain ⟨b3, h⟩ := He.ba h
  obtain ⟨b4, h⟩ := He.ba h
  obtain ⟨b5, h⟩ := He.ba h
  obtain ⟨b6, h⟩ := He.ba h
  obtain ⟨b7, h⟩ := He.ba h
  obtain ⟨b8, h⟩ := He.ba h
  obtain ⟨b9, h⟩ := He.ba h
  obtain ⟨c1, h⟩ := He.ba h
  obtain ⟨c2, c3⟩ := He.ba h
  have cls : Cls K C := ⟨a1, a2, a3, He.eqO_ok a4⟩
  obtain ⟨w1, w2⟩ := He5.wrapB_ok b1
  rw [of_decide_eq_true b2] at w1 w2
  rw [of_decide_eq_true b3] at w2
  exact ⟨cls, fun n hn => He.eqO_ok (List.all_eq_true.mp a5 n hn), ⟨a6, He.eqO_ok a7, a8, a9⟩, ⟨b4, He.eqO_ok b5⟩, ⟨w1, w2, hk⟩,
    ⟨cls, He.eqO_ok b6, He.eqO_ok b7, of_decide_eq_true b8, of_decide_eq_true b9, of_decide_eq_true c1, of_decide_eq_true c2, of_decide_eq_true c3⟩⟩
/-- an own exception class -/
def exB (K : PySem.W.Frag) (C iA : Addr) (mb : List Value) (nw : String) (ns : List Str) : Bool :=
  PySem.W.excInitIn K C mb nw && (PySem.W.excOver K C mb && ((PySem.W.clsIn K C).isSome && (PySem.W.hasDictIn K C && (He.eqO (PySem.W.findIn K (.ref C) "__setattr__") (some (some (.builtin "object.__setattr__"))) && (He.eqO (PySem.W.findIn K (.ref C) "__getattribute__") (some (some (.builtin "BaseException.__getattribute__"))) &&
  (He.eqO (PySem.W.findIn K (.ref C) "__getattr__") (some none) && (decide (PySem.W.subIn K (.ref C) (.type "BaseException") = some true) && (He.eqO (PySem.W.findIn K (.ref C) "__class__") (some (some (.builtin "object.__class__"))) && (He.eqO (PySem.W.specialIn K (.builtin "object.__class__") "__get__") (some (some (.builtin "getset_descriptor.__get__"))) &&
  (decide (PySem.W.takesIn K (.builtin "object.__class__") = some true) && (decide (PySem.W.mroIn K C (.type "object") = some true) && (PySem.W.keepIn K (.ref C) && (decide (PySem.W.typeIn K (.ref C) = some (.type "type")) && (He.eqO (PySem.W.findIn K (.ref C) "__init__") (some (some (.ref iA))) &&
  (PySem.W.isFn K (.ref iA) && ns.all (fun x => He.eqO (PySem.W.findIn K (.ref C) x) (some none)))))))))))))))))
theorem exB_ok {K : PySem.W.Frag} {C iA : Addr} {mb : List Value} {nw : String} {ns : List Str} (h : exB K C iA mb nw ns = true) (hb : ∃ B iid, ExcBaseFacts B nw iid mb ∧ StoreFacts B mb "object.__setattr__" "object") :
    XC K C ∧ PySem.W.typeIn K (.ref C) = some (.type "type") ∧ PySem.W.findIn K (.ref C) "__init__" = some (some (.ref iA)) ∧ PySem.W.isFn K (.ref iA) = true ∧ ∀ n ∈ ns, PySem.W.findIn K (.ref C) n = some none := by
  unfold exB at h
  obtain ⟨B, iid, FB, SF⟩ := hb
  obtain ⟨a1, h⟩ := He.ba h
  obtain ⟨a2, h⟩ := He.ba h
  obtain ⟨a3, h⟩ := He.ba h
  obtain ⟨a4, h⟩ := He.ba h
  obtain ⟨a5, h⟩ := He.ba h
  obtain ⟨a6, h⟩ := He.ba h
  obtain ⟨a7, h⟩ := He.ba h
  obtain ⟨a8, h⟩ := He.ba h
  obtain ⟨a9, h⟩ := He.ba h
  obtain ⟨b1, h⟩ := He.ba h
  obtain ⟨b2, h⟩ := He.ba h
  obtain ⟨b3, h⟩ := He.ba h
  obtain ⟨b4, h⟩ := He.ba h
  obtain ⟨b5, h⟩ := He.ba h
  obtain ⟨b6, h⟩ := He.ba h
  obtain ⟨b7, b8⟩ := He.ba h
  exact ⟨⟨⟨B, nw, iid, mb, FB, SF, a1, a2⟩, a3, a4, He.eqO_ok a5, He.eqO_ok a6, He.eqO_ok a7, of_decide_eq_true a8, He.eqO_ok a9, He.eqO_ok b1, of_decide_eq_true b2, of_decide_eq_true b3, b4⟩, of_decide_eq_true b5, He.eqO_ok b6, b7, fun n hn => He.eqO_ok (List.all_eq_true.mp b8 n hn)⟩
def veB : List Value := [.ref ceA, .type "ValueError", .type "Exception", .type "BaseException", .type "object"]
def codeB (K : PySem.W.Frag) (f c : Addr) : Bool := match K.lookup f with
  | some ⟨_, _, .func fd, _⟩ => (match fd.code with | .ref c' => decide (c' = c) | _ => false)
  | _ => false
/-- the looks -/
def faT : List (PySem.W.Frag → Bool) := [
  fun K => ldT.all fun d => He.eqO (PySem.W.nsIn K mainGlobals d.nm) (some (some (.ref d.f))),
  fun K => freeN.all fun x => He.eqO (PySem.W.nsIn K mainGlobals x) (some none),
  fun K => He.eqO (PySem.W.nsIn K mainGlobals "gcd") (some (some (.builtin "math.gcd"))),
  fun K => He.eqO (PySem.W.nsIn K mainGlobals "Step") (some (some (.ref stA))),
  fun K => He.eqO (PySem.W.nsIn K mainGlobals "ZERO") (some (some (.ref zeA))),
  fun K => He.eqO (PySem.W.nsIn K mainGlobals "ONE") (some (some (.ref onA))),
  (He.Fa.int "MOST_POWER" 64).ok,
  (He.Fa.int "LOWEST_ORDER" 2).ok,
  (He.Fa.int "HIGHEST_ORDER" 24).ok,
  fun K => He.eqO (PySem.W.nsIn K mainGlobals "Row") (some (some (.ref rwA))),
  fun K => kpB K zeA 0 1,
  fun K => kpB K onA 1 1,
  fun K => owB K stA 694 703 701 "still" stN,
  fun K => owB K rwA 560 569 567 "constant" rwN,
  fun K => exB K ipA 171 [.type "ValueError", .type "Exception", .type "BaseException", .type "object"] "ValueError.__new__" ["code", "value"],
  fun K => exB K dzA 241 [.type "ArithmeticError", .type "Exception", .type "BaseException", .type "object"] "ArithmeticError.__new__" ["code"],
  fun K => He.eqO (PySem.W.nsIn K mainGlobals "InvalidPower") (some (some (.ref ipA))),
  fun K => He.eqO (PySem.W.nsIn K mainGlobals "DividedByZero") (some (some (.ref dzA))),
  fun K => He.eqO (PySem.W.nsIn K mainGlobals "CreepError") (some (some (.ref ceA))),
  fun K => He.eqO (PySem.W.nsIn K mainGlobals "NoAnswer") (some (some (.ref naA))),
  fun K => decide (PySem.W.kitOne K (.ref ipA) (.ref ipA) = some true),
  fun K => decide (PySem.W.kitOne K (.ref dzA) (.ref ipA) = some false),
  fun K => decide (PySem.W.kitOne K (.ref dzA) (.ref dzA) = some true),
  fun K => decide (PySem.W.exmOne K (.ref ipA) (.ref ceA) = some true),
  fun K => decide (PySem.W.exmOne K (.ref dzA) (.ref ceA) = some false),
  fun K => decide (PySem.W.exmOne K (.ref dzA) (.ref naA) = some true),
  fun K => tabA.all fun a => (K.lookup a).isNone,
  fun K => codeB K 934 933 && (codeB K 941 940 && codeB K 948 947),
  fun K => PySem.W.codeHdIn K 933 929 && (PySem.W.codeHdIn K 940 936 && PySem.W.codeHdIn K 947 943)]
abbrev ObV : Type := Bool × List He5.FnW
def obK (K : PySem.W.Frag) : ObV := ((faT.all fun f => f K) && fnT.all fun d => d.ok K, fnT.map fun d => He5.fnA K (d.at_ K))
def valR : ObV := (true, fnT.map He5.DefA.val)
def adr : List Addr := [mainGlobals, cStatics, stA, 814, 694, 693, 701, 700, 703, 702, rwA, 668, 560, 559, 567, 566, 569, 568, ipA, 173, 171, 170, ceA, 58, dzA, 243, 241, 240, naA, 223, zeA, onA] ++ ldT.flatMap fun d => [d.f, d.f - 1]
def obR (g : Addr → Option Obj) : ObV := obK (He.frG g adr)
def tblB (g : Addr → Option Obj) : Bool := tabA.all fun a => match g a with
  | some ⟨.none, none, .fields vs, sl⟩ => decide (vs = #[]) && decide (sl.size = 0)
  | _ => false
theorem tblB_ok {g : Addr → Option Obj} (h : tblB g = true) : ∀ a ∈ tabA, g a = some { cls := .none, data := .fields #[] } := fun a ha => by
  have q := List.all_eq_true.mp h a ha
  split at q
  · rename_i vs sl e
    obtain ⟨q1, q2⟩ := He.ba q
    have e2 : sl = #[] := Array.eq_empty_of_size_eq_zero (of_decide_eq_true q2)
    rw [e, of_decide_eq_true q1, e2]
  · cases q
def SaysR (K : PySem.W.Frag) : Prop := obK K = valR
def hookR : PySem.W.Hook where
  α := ObV × Bool
  obs := fun s => (obR s.heap.get?, tblB s.heap.get?)
  val := fun _ => (valR, true)
  says := fun _ h => (∃ K : PySem.W.Frag, K.In h ∧ SaysR K) ∧ ∀ a ∈ tabA, h.get? a = some { cls := .none, data := .fields #[] }
  of := fun _ _ e => ⟨⟨_, He.frG_in, (Prod.mk.inj e).1⟩, tblB_ok (Prod.mk.inj e).2⟩
  keeps := fun _ _ _ ⟨⟨K, hK, c⟩, t⟩ k => ⟨⟨K, PySem.W.Frag.In.keeps hK k, c⟩, fun a ha => k _ _ (t a ha)⟩
section
variable {K : PySem.W.Frag}
theorem SaysR.fact (c : SaysR K) (i : Nat) {f : PySem.W.Frag → Bool} (h : faT[i]? = some f := by rfl) : f K = true :=
  List.all_eq_true.mp (He.ba (show ((faT.all fun f => f K) && fnT.all fun d => d.ok K) = true from congrArg (fun z : ObV => z.1) c)).1 f (List.mem_of_getElem? h)
theorem SaysR.def_ (c : SaysR K) (i : Nat) {d : He5.DefA} (h : fnT[i]? = some d) : ∃ fd, L2.FunD K d.name d.qual d.params d.body d.scope (d.dvs K) (d.kws K) (d.at_ K) fd := by
  have c2 := (He.ba (show ((faT.all fun f => f K) && fnT.all fun d => d.ok K) = true from congrArg (fun z : ObV => z.1) c)).2
  have e : fnT.map (fun d => He5.fnA K (d.at_ K)) = fnT.map He5.DefA.val := congrArg (fun z : ObV => z.2) c
  have e2 : (fnT.map fun d => He5.fnA K (d.at_ K))[i]? = (fnT.map He5.DefA.val)[i]? := by rw [e]
  rw [List.getElem?_map, List.getElem?_map, h] at e2
  exact He5.DefA.funD (Option.some.inj e2) (List.all_eq_true.mp c2 d (List.mem_of_getElem? h))
theorem fun_ld (c : SaysR K) (i : Nat) {d : LD} (h : ldT[i]? = some d) : ∃ fd, Fun K d.nm d.nm (top d.ix) d.f fd := by
  obtain ⟨fd, F⟩ := c.def_ (i + 6) (d := ldD d) (by
    show (clT ++ ldT.map ldD)[i + 6]? = _
    rw [List.getElem?_append_right (by show 6 ≤ i + 6; omega)]
    show (ldT.map ldD)[i + 6 - 6]? = _
    rw [Nat.add_sub_cancel, List.getElem?_map, h]
    rfl)
  exact ⟨fd, He5.fun_of F⟩
theorem fun_cl (c : SaysR K) (i : Nat) {q nm : Str} {f : Addr} {st : Stmt} (h : fnT[i]? = some (mtD q nm f st) := by rfl) : ∃ fd, Fun K nm q st f fd := by
  obtain ⟨fd, F⟩ := c.def_ i h
  exact ⟨fd, He5.fun_of F⟩
theorem fun_c {x q : Str} {st : Stmt} {f c : Addr} {fd : FuncData} (F : Fun K x q st f fd) (h : codeB K f c = true) : FunC K x q st f fd c := by
  obtain ⟨oc, od, kV, doc, pm, an, cdv, ct, osl, rfl, lk, hcd⟩ := F.ex
  have e : cdv = .ref c := by
    unfold codeB at h
    rw [lk] at h
    cases cdv <;> first | exact congrArg Value.ref (of_decide_eq_true h) | exact (Bool.false_ne_true h).elim
  subst e
  exact ⟨⟨oc, od, kV, doc, pm, an, ct, osl, rfl, lk, hcd⟩, F.kp⟩
section
variable {h : Heap} {mg : Str → Option Value}
theorem mg_ld (X : K.In h) (G : h.Ns mainGlobals mg) (c : SaysR K) {d : LD} (hd : d ∈ ldT) : mg d.nm = some (.ref d.f) := PySem.W.mg_of X G (He.eqO_ok (List.all_eq_true.mp (c.fact 0) d hd))
theorem mg_free (X : K.In h) (G : h.Ns mainGlobals mg) (c : SaysR K) {x : Str} (hx : x ∈ freeN) : mg x = none := PySem.W.mg_none_of X G (He.eqO_ok (List.all_eq_true.mp (c.fact 1) x hx))
theorem mg_at (X : K.In h) (G : h.Ns mainGlobals mg) {x : Str} {v : Value} (e : He.eqO (PySem.W.nsIn K mainGlobals x) (some (some v)) = true) : mg x = some v := PySem.W.mg_of X G (He.eqO_ok e)
theorem at_ld (X : K.In h) (G : h.Ns mainGlobals mg) (c : SaysR K) {d : LD} (i : Nat) (e : ldT[i]? = some d) : (∃ fd, Fun K d.nm d.nm (top d.ix) d.f fd) ∧ mg d.nm = some (.ref d.f) := ⟨fun_ld c i e, mg_ld X G c (List.mem_of_getElem? e)⟩
end
end
end Kq
end
section
set_option maxHeartbeats 4000000
namespace Kq
open PySem PySem.Spec PyProof.Rows L2
section
variable {P : Program} {w : World} {K : PySem.W.Frag} {mg : Str → Option Value} {h base : Heap} {CX : CXT} {k : Nat} {x : Str} {f : Addr} {fd : FuncData} {ps ks : List Str} {sp : Sp}
theorem use0 (G : FnOk P w K mg base CX k f fd ps sp) (b : Binds K fd ps []) (kp : PySem.W.keepIn K (.ref f) = true) (m : mg x = some (.ref f)) : Use P w K mg base CX k x ps sp [] := ⟨⟨f, fd, G, b, kp, m, (fun _ h => (nomatch h)), (fun _ h => (nomatch h))⟩⟩
theorem useR (G : FnOk P w K mg base CX k f fd ps sp) (b : Binds K fd ps []) (kp : PySem.W.keepIn K (.ref f) = true) (m : mg x = some (.ref f)) (kb : KBn K fd ps 0 ks revB revA) (hl : ¬ (ks.length = 1 ∧ ps.length = 2)) : Use P w K mg base CX k x ps sp [ks] :=
  ⟨⟨f, fd, G, b, kp, m, fun ks' h _ => by rw [List.mem_singleton.mp h]; exact kb, fun ks' h l1 l2 => absurd ⟨by rw [← List.mem_singleton.mp h]; exact l1, l2⟩ hl⟩⟩
theorem useN (G : FnOk P w K mg base CX k f fd ps sp) (b : Binds K fd ps []) (kp : PySem.W.keepIn K (.ref f) = true) (m : mg x = some (.ref f)) (kb : KBn K fd ps 1 ks appB appA) (hl : ks.length ≠ ps.length) : Use P w K mg base CX k x ps sp [ks] :=
  ⟨⟨f, fd, G, b, kp, m, fun ks' h l => absurd (by rw [← List.mem_singleton.mp h]; exact l) hl, fun ks' h _ _ => by rw [List.mem_singleton.mp h]; exact kb⟩⟩
end
def csT : List (Addr × Addr) := [(933, 929), (940, 936), (947, 943)]
theorem c1 : ((933 : Addr), (929 : Addr)) ∈ csT := List.mem_cons_self
theorem c2 : ((940 : Addr), (936 : Addr)) ∈ csT := List.mem_cons_of_mem _ List.mem_cons_self
theorem c3 : ((947 : Addr), (943 : Addr)) ∈ csT := List.mem_cons_of_mem _ (List.mem_cons_of_mem _ List.mem_cons_self)
abbrev lmN (x : Str) : Str := (x ++ ".<locals>.") ++ "<lambda>"
def tbT : List (Addr × Str) := [(929, lmN "_law_deeds_so"), (936, lmN "_law_ratio_so"), (943, lmN "_law_power_so")]
theorem t1 : ((929 : Addr), lmN "_law_deeds_so") ∈ tbT := List.mem_cons_self
theorem t2 : ((936 : Addr), lmN "_law_ratio_so") ∈ tbT := List.mem_cons_of_mem _ List.mem_cons_self
theorem t3 : ((943 : Addr), lmN "_law_power_so") ∈ tbT := List.mem_cons_of_mem _ (List.mem_cons_of_mem _ List.mem_cons_self)
theorem mem3 {α : Type} {p a b c : α} (h : p ∈ [a, b, c]) : p = a ∨ p = b ∨ p = c := by simpa using h
theorem tu1 : ∀ p ∈ tbT, p.1 = 929 → p.2 = lmN "_law_deeds_so" := fun p hp e => by
  rcases mem3 hp with h | h | h <;> rw [h] at e ⊢
  · exact absurd (show (936 : Nat) = 929 from e) (by decide)
  · exact absurd (show (943 : Nat) = 929 from e) (by decide)
theorem tu2 : ∀ p ∈ tbT, p.1 = 936 → p.2 = lmN "_law_ratio_so" := fun p hp e => by
  rcases mem3 hp with h | h | h <;> rw [h] at e ⊢
  · exact absurd (show (929 : Nat) = 936 from e) (by decide)
  · exact absurd (show (943 : Nat) = 936 from e) (by decide)
theorem tu3 : ∀ p ∈ tbT, p.1 = 943 → p.2 = lmN "_law_power_so" := fun p hp e => by
  rcases mem3 hp with h | h | h <;> rw [h] at e ⊢
  · exact absurd (show (929 : Nat) = 943 from e) (by decide)
  · exact absurd (show (936 : Nat) = 943 from e) (by decide)
section
variable {P : Program} {w : World} {K : PySem.W.Frag} {mg : Str → Option Value} {h : Heap}
theorem facts {f : Addr} (X : K.In h) (G : h.Ns mainGlobals mg) (hfa : mg ("law" : Str) = some (.ref f)) (c : SaysR K) :
    ∃ fd : FuncData, (∀ (s : Shared) (v : Value), BindsTo s fd ⟨[v], []⟩ [("_law_script", v)]) ∧ ∀ base : Heap, K.In base → base.Ns mainGlobals mg → (∀ p ∈ csT, LamX.TabB base mg p.1 p.2) → FnOk P w K mg base CX0 10 f fd ["_law_script"] (spLaw K tbT) := by
  have mf : ∀ x ∈ freeN, mg x = none := fun x hx => mg_free X G c hx
  have mn := mf "len" (by decide)
  have mI := mf "isinstance" (by decide)
  have ml := mf "list" (by decide)
  have mt := mf "tuple" (by decide)
  have mi := mf "int" (by decide)
  have mr := mf "range" (by decide)
  have ma := mf "all" (by decide)
  have mz := mf "zip" (by decide)
  have mb := mf "bool" (by decide)
  have ms := mf "str" (by decide)
  have mabs := mf "abs" (by decide)
  have men := mf "enumerate" (by decide)
  have mG : mg "gcd" = some (.builtin "math.gcd") := mg_at X G (c.fact 2)
  have mS : mg "Step" = some (.ref stA) := mg_at X G (c.fact 3)
  have mZ : mg "ZERO" = some (.ref zeA) := mg_at X G (c.fact 4)
  have mO : mg "ONE" = some (.ref onA) := mg_at X G (c.fact 5)
  have mM : ∃ u, mg "MOST_POWER" = some u ∧ RelV (.int 64) u := let ⟨t, e⟩ := He.int_ok X G (c.fact 6); ⟨_, e, t, rfl⟩
  have mLO : ∃ u, mg "LOWEST_ORDER" = some u ∧ RelV (.int 2) u := let ⟨t, e⟩ := He.int_ok X G (c.fact 7); ⟨_, e, t, rfl⟩
  have mHO : ∃ u, mg "HIGHEST_ORDER" = some u ∧ RelV (.int 24) u := let ⟨t, e⟩ := He.int_ok X G (c.fact 8); ⟨_, e, t, rfl⟩
  have mR : mg "Row" = some (.ref rwA) := mg_at X G (c.fact 9)
  have k0 : KP K zeA 0 1 := kpB_ok (c.fact 10)
  have k1 : KP K onA 1 1 := kpB_ok (c.fact 11)
  have mP : mg "InvalidPower" = some (.ref ipA) := mg_at X G (c.fact 16)
  have mD : mg "DividedByZero" = some (.ref dzA) := mg_at X G (c.fact 17)
  have mC : mg "CreepError" = some (.ref ceA) := mg_at X G (c.fact 18)
  have mN : mg "NoAnswer" = some (.ref naA) := mg_at X G (c.fact 19)
  obtain ⟨dSi, FSi⟩ := fun_cl c 0
  obtain ⟨dSs, FSs⟩ := fun_cl c 1
  obtain ⟨dRi, FRi⟩ := fun_cl c 2
  obtain ⟨dRc, FRc⟩ := fun_cl c 3
  obtain ⟨dPi, FPi⟩ := fun_cl c 4
  obtain ⟨dZi, FZi⟩ := fun_cl c 5
  obtain ⟨clS, nAS, MkS, rS, cS, oS⟩ := owB_ok (c.fact 12) FSs.kp
  obtain ⟨clR, nAR, MkR, rR, cR, oR⟩ := owB_ok (c.fact 13) FRc.kp
  obtain ⟨xP, tyP, iP, fP, nP⟩ := exB_ok (c.fact 14) ⟨_, _, F.excBase_ValueError, F.store_ValueError⟩
  obtain ⟨xZ, tyZ, iZ, fZ, nZ⟩ := exB_ok (c.fact 15) ⟨_, _, F.excBase_ArithmeticError, F.store_ArithmeticError⟩
  obtain ⟨⟨d_is_whole, F_is_whole⟩, g_is_whole⟩ := at_ld X G c 0 rfl
  obtain ⟨⟨d_is_between, F_is_between⟩, g_is_between⟩ := at_ld X G c 1 rfl
  obtain ⟨⟨d_is_fraction, F_is_fraction⟩, g_is_fraction⟩ := at_ld X G c 2 rfl
  obtain ⟨⟨d_ratio, F_ratio⟩, g_ratio⟩ := at_ld X G c 3 rfl
  obtain ⟨⟨d_sum_of, F_sum_of⟩, g_sum_of⟩ := at_ld X G c 4 rfl
  obtain ⟨⟨d_difference_of, F_difference_of⟩, g_difference_of⟩ := at_ld X G c 5 rfl
  obtain ⟨⟨d_product_of, F_product_of⟩, g_product_of⟩ := at_ld X G c 6 rfl
  obtain ⟨⟨d_quotient_of, F_quotient_of⟩, g_quotient_of⟩ := at_ld X G c 7 rfl
  obtain ⟨⟨d_raised, F_raised⟩, g_raised⟩ := at_ld X G c 8 rfl
  obtain ⟨⟨d_power_of, F_power_of⟩, g_power_of⟩ := at_ld X G c 9 rfl
  obtain ⟨⟨d_is_below, F_is_below⟩, g_is_below⟩ := at_ld X G c 10 rfl
  obtain ⟨⟨d_is_listing, F_is_listing⟩, g_is_listing⟩ := at_ld X G c 11 rfl
  obtain ⟨⟨d_check_order, F_check_order⟩, g_check_order⟩ := at_ld X G c 12 rfl
  obtain ⟨⟨d_check_number, F_check_number⟩, g_check_number⟩ := at_ld X G c 13 rfl
  obtain ⟨⟨d_checked_numbers, F_checked_numbers⟩, g_checked_numbers⟩ := at_ld X G c 14 rfl
  obtain ⟨⟨d_is_zero, F_is_zero⟩, g_is_zero⟩ := at_ld X G c 15 rfl
  obtain ⟨⟨d_least_place, F_least_place⟩, g_least_place⟩ := at_ld X G c 16 rfl
  obtain ⟨⟨d_still_numbers, F_still_numbers⟩, g_still_numbers⟩ := at_ld X G c 17 rfl
  obtain ⟨⟨d_kind_of, F_kind_of⟩, g_kind_of⟩ := at_ld X G c 18 rfl
  obtain ⟨⟨d__law_bag, F__law_bag⟩, g__law_bag⟩ := at_ld X G c 19 rfl
  obtain ⟨⟨d__law_draw, F__law_draw⟩, g__law_draw⟩ := at_ld X G c 20 rfl
  obtain ⟨⟨d__law_of, F__law_of⟩, g__law_of⟩ := at_ld X G c 21 rfl
  obtain ⟨⟨d__law_like, F__law_like⟩, g__law_like⟩ := at_ld X G c 22 rfl
  obtain ⟨⟨d__law_low, F__law_low⟩, g__law_low⟩ := at_ld X G c 23 rfl
  obtain ⟨⟨d__law_add, F__law_add⟩, g__law_add⟩ := at_ld X G c 24 rfl
  obtain ⟨⟨d__law_mul, F__law_mul⟩, g__law_mul⟩ := at_ld X G c 25 rfl
  obtain ⟨⟨d__law_neg, F__law_neg⟩, g__law_neg⟩ := at_ld X G c 26 rfl
  obtain ⟨⟨d__law_number, F__law_number⟩, g__law_number⟩ := at_ld X G c 27 rfl
  obtain ⟨⟨d__law_big, F__law_big⟩, g__law_big⟩ := at_ld X G c 28 rfl
  obtain ⟨⟨d__law_wide, F__law_wide⟩, g__law_wide⟩ := at_ld X G c 29 rfl
  obtain ⟨⟨d__law_is, F__law_is⟩, g__law_is⟩ := at_ld X G c 30 rfl
  obtain ⟨⟨d__law_raised, F__law_raised⟩, g__law_raised⟩ := at_ld X G c 31 rfl
  obtain ⟨⟨d__law_fault, F__law_fault⟩, g__law_fault⟩ := at_ld X G c 32 rfl
  obtain ⟨⟨d__law_ask, F__law_ask⟩, g__law_ask⟩ := at_ld X G c 33 rfl
  obtain ⟨⟨d__law_any, F__law_any⟩, g__law_any⟩ := at_ld X G c 34 rfl
  obtain ⟨⟨d__law_deeds_so, F__law_deeds_so⟩, g__law_deeds_so⟩ := at_ld X G c 35 rfl
  obtain ⟨⟨d__law_ratio_so, F__law_ratio_so⟩, g__law_ratio_so⟩ := at_ld X G c 36 rfl
  obtain ⟨⟨d__law_power_so, F__law_power_so⟩, g__law_power_so⟩ := at_ld X G c 37 rfl
  obtain ⟨⟨d_law, F_law⟩, g_law⟩ := at_ld X G c 38 rfl
  obtain ⟨⟨d_wrong_item, F_wrong_item⟩, g_wrong_item⟩ := at_ld X G c 39 rfl
  obtain ⟨⟨d_check_fractions, F_check_fractions⟩, g_check_fractions⟩ := at_ld X G c 40 rfl
  have b_is_whole : Binds K d_is_whole ["value"] [] := F_is_whole.binds fun _ _ _ _ _ _ us hl => match us, hl with | [_], _ => rfl
  have b_is_between : Binds K d_is_between ["value", "low", "high"] [] := F_is_between.binds fun _ _ _ _ _ _ us hl => match us, hl with | [_, _, _], _ => rfl
  have b_is_fraction : Binds K d_is_fraction ["value"] [] := F_is_fraction.binds fun _ _ _ _ _ _ us hl => match us, hl with | [_], _ => rfl
  have b_ratio : Binds K d_ratio ["upper", "lower"] [] := F_ratio.binds fun _ _ _ _ _ _ us hl => match us, hl with | [_, _], _ => rfl
  have b_sum_of : Binds K d_sum_of ["one", "other"] [] := F_sum_of.binds fun _ _ _ _ _ _ us hl => match us, hl with | [_, _], _ => rfl
  have b_difference_of : Binds K d_difference_of ["one", "other"] [] := F_difference_of.binds fun _ _ _ _ _ _ us hl => match us, hl with | [_, _], _ => rfl
  have b_product_of : Binds K d_product_of ["one", "other"] [] := F_product_of.binds fun _ _ _ _ _ _ us hl => match us, hl with | [_, _], _ => rfl
  have b_quotient_of : Binds K d_quotient_of ["one", "other"] [] := F_quotient_of.binds fun _ _ _ _ _ _ us hl => match us, hl with | [_, _], _ => rfl
  have b_raised : Binds K d_raised ["base", "n"] [] := F_raised.binds fun _ _ _ _ _ _ us hl => match us, hl with | [_, _], _ => rfl
  have b_power_of : Binds K d_power_of ["value", "n"] [] := F_power_of.binds fun _ _ _ _ _ _ us hl => match us, hl with | [_, _], _ => rfl
  have b_is_below : Binds K d_is_below ["one", "other"] [] := F_is_below.binds fun _ _ _ _ _ _ us hl => match us, hl with | [_, _], _ => rfl
  have b_is_listing : Binds K d_is_listing ["value"] [] := F_is_listing.binds fun _ _ _ _ _ _ us hl => match us, hl with | [_], _ => rfl
  have b_check_order : Binds K d_check_order ["order"] [] := F_check_order.binds fun _ _ _ _ _ _ us hl => match us, hl with | [_], _ => rfl
  have b_check_number : Binds K d_check_number ["value"] [] := F_check_number.binds fun _ _ _ _ _ _ us hl => match us, hl with | [_], _ => rfl
  have b_checked_numbers : Binds K d_checked_numbers ["numbers", "further"] [] := F_checked_numbers.binds fun _ _ _ _ _ _ us hl => match us, hl with | [_, _], _ => rfl
  have b_wrong_item : Binds K d_wrong_item ["numbers"] [] := F_wrong_item.binds fun _ _ _ _ _ _ us hl => match us, hl with | [_], _ => rfl
  have b_check_fractions : Binds K d_check_fractions ["numbers"] [] := F_check_fractions.binds fun _ _ _ _ _ _ us hl => match us, hl with | [_], _ => rfl
  have b_is_zero : Binds K d_is_zero ["numbers"] [] := F_is_zero.binds fun _ _ _ _ _ _ us hl => match us, hl with | [_], _ => rfl
  have b_least_place : Binds K d_least_place ["numbers", "first"] [] := F_least_place.binds fun _ _ _ _ _ _ us hl => match us, hl with | [_, _], _ => rfl
  have b_still_numbers : Binds K d_still_numbers ["order"] [] := F_still_numbers.binds fun _ _ _ _ _ _ us hl => match us, hl with | [_], _ => rfl
  have b_kind_of : Binds K d_kind_of ["numbers"] [] := F_kind_of.binds fun _ _ _ _ _ _ us hl => match us, hl with | [_], _ => rfl
  have b__law_bag : Binds K d__law_bag ["_law_script"] [] := F__law_bag.binds fun _ _ _ _ _ _ us hl => match us, hl with | [_], _ => rfl
  have b__law_draw : Binds K d__law_draw ["_law_bag_here", "_law_limit"] [] := F__law_draw.binds fun _ _ _ _ _ _ us hl => match us, hl with | [_, _], _ => rfl
  have b__law_of : Binds K d__law_of ["_law_bag_here", "_law_things"] [] := F__law_of.binds fun _ _ _ _ _ _ us hl => match us, hl with | [_, _], _ => rfl
  have b__law_like : Binds K d__law_like ["_law_told", "_law_due"] [] := F__law_like.binds fun _ _ _ _ _ _ us hl => match us, hl with | [_, _], _ => rfl
  have b__law_low : Binds K d__law_low ["_law_p", "_law_q"] [] := F__law_low.binds fun _ _ _ _ _ _ us hl => match us, hl with | [_, _], _ => rfl
  have b__law_add : Binds K d__law_add ["_law_a", "_law_b"] [] := F__law_add.binds fun _ _ _ _ _ _ us hl => match us, hl with | [_, _], _ => rfl
  have b__law_mul : Binds K d__law_mul ["_law_a", "_law_b"] [] := F__law_mul.binds fun _ _ _ _ _ _ us hl => match us, hl with | [_, _], _ => rfl
  have b__law_neg : Binds K d__law_neg ["_law_a"] [] := F__law_neg.binds fun _ _ _ _ _ _ us hl => match us, hl with | [_], _ => rfl
  have b__law_number : Binds K d__law_number ["_law_bag_here"] [] := F__law_number.binds fun _ _ _ _ _ _ us hl => match us, hl with | [_], _ => rfl
  have b__law_big : Binds K d__law_big ["_law_bag_here"] [] := F__law_big.binds fun _ _ _ _ _ _ us hl => match us, hl with | [_], _ => rfl
  have b__law_wide : Binds K d__law_wide ["_law_bag_here"] [] := F__law_wide.binds fun _ _ _ _ _ _ us hl => match us, hl with | [_], _ => rfl
  have b__law_is : Binds K d__law_is ["_law_thing"] [] := F__law_is.binds fun _ _ _ _ _ _ us hl => match us, hl with | [_], _ => rfl
  have b__law_raised : Binds K d__law_raised ["_law_a", "_law_k"] [] := F__law_raised.binds fun _ _ _ _ _ _ us hl => match us, hl with | [_, _], _ => rfl
  have b__law_fault : Binds K d__law_fault ["_law_error"] [] := F__law_fault.binds fun _ _ _ _ _ _ us hl => match us, hl with | [_], _ => rfl
  have b__law_ask : Binds K d__law_ask ["_law_deed"] [] := F__law_ask.binds fun _ _ _ _ _ _ us hl => match us, hl with | [_], _ => rfl
  have b__law_any : Binds K d__law_any ["_law_bag_here", "_law_a"] [] := F__law_any.binds fun _ _ _ _ _ _ us hl => match us, hl with | [_, _], _ => rfl
  have b__law_deeds_so : Binds K d__law_deeds_so ["_law_a", "_law_b"] [] := F__law_deeds_so.binds fun _ _ _ _ _ _ us hl => match us, hl with | [_, _], _ => rfl
  have b__law_ratio_so : Binds K d__law_ratio_so ["_law_bag_here", "_law_p", "_law_q"] [] := F__law_ratio_so.binds fun _ _ _ _ _ _ us hl => match us, hl with | [_, _, _], _ => rfl
  have b__law_power_so : Binds K d__law_power_so ["_law_bag_here", "_law_a"] [] := F__law_power_so.binds fun _ _ _ _ _ _ us hl => match us, hl with | [_, _], _ => rfl
  have b_law : Binds K d_law ["_law_script"] [] := F_law.binds fun _ _ _ _ _ _ us hl => match us, hl with | [_], _ => rfl
  have bSi : Binds K dSi ["self", "numbers"] [] := FSi.binds fun _ _ _ _ _ _ us hl => match us, hl with | [_, _], _ => rfl
  have bSs : Binds K dSs ["order"] [] := FSs.binds fun _ _ _ _ _ _ us hl => match us, hl with | [_], _ => rfl
  have bRi : Binds K dRi ["self", "numbers"] [] := FRi.binds fun _ _ _ _ _ _ us hl => match us, hl with | [_, _], _ => rfl
  have bRc : Binds K dRc ["value", "order"] [] := FRc.binds fun _ _ _ _ _ _ us hl => match us, hl with | [_, _], _ => rfl
  have bPi : Binds K dPi ["self", "value"] [] := FPi.binds fun _ _ _ _ _ _ us hl => match us, hl with | [_, _], _ => rfl
  have bZi : Binds K dZi ["self"] [] := FZi.binds fun _ _ _ _ _ _ us hl => match us, hl with | [_], _ => rfl
  have e : f = 955 := Value.ref.inj (Option.some.inj (hfa.symm.trans g_law))
  subst e
  refine ⟨d_law, fun s v => ?_, fun base _ _ hTB => ?_⟩
  · obtain ⟨oc, od, kV, doc, pm, an, cdv, ct, osl, e, lk, hcd⟩ := F_law.ex
    rw [e]
    exact .of_eq rfl
  have ZP : ErrC P w K mg base "InvalidPower" 1 fsP ipA := ⟨xP, tyP, mP, 171, dPi, _, iP, fP, init_P FPi xP (nP _ (by decide)) (nP _ (by decide)), bPi⟩
  have ZZ : ErrC P w K mg base "DividedByZero" 0 fsZ dzA := ⟨xZ, tyZ, mD, 241, dZi, _, iZ, fZ, init_Z FZi xZ (nZ _ (by decide)), bZi⟩
  have Gw := ok_whole (P := P) (w := w) (base := base) F_is_whole mI mi mb
  have Gb := ok_btw F_is_between Gw b_is_whole F_is_whole.kp g_is_whole
  have Gf := ok_isg F_is_fraction mI mt mn mG Gw b_is_whole F_is_whole.kp g_is_whole
  have Gr := ok_ratio (P := P) (w := w) (base := base) F_ratio mG
  have GrX := ok_ratioX F_ratio mG ZZ
  have Gra := ok_raised (P := P) (w := w) (base := base) F_raised mr
  have UF : Use P w K mg base CX0 2 "is_fraction" ["value"] (spIsG K) [["value"]] := useR Gf b_is_fraction F_is_fraction.kp g_is_fraction (kb_one F_is_fraction (fun _ _ _ _ _ _ _ => rfl)) (by decide)
  have UB : Use P w K mg base CX0 2 "is_between" ["value", "low", "high"] (spBtw K) [] := use0 Gb b_is_between F_is_between.kp g_is_between
  have UC : Use P w K mg base CX0 3 "check_order" ["order"] spCo [] := use0 (ok_corder F_check_order UB mLO mHO) b_check_order F_check_order.kp g_check_order
  have UK : Use P w K mg base CX0 3 "check_number" ["value"] (spCk K) [] := use0 (ok_cnum F_check_number UF) b_check_number F_check_number.kp g_check_number
  have UI : Use P w K mg base CX0 1 "is_listing" ["value"] spIl [] := use0 (ok_listing F_is_listing mI ml mt) b_is_listing F_is_listing.kp g_is_listing
  have UWi : Use P w K mg base CX0 3 "wrong_item" ["numbers"] (spWi K) [] := use0 (ok_wrong F_wrong_item men UF) b_wrong_item F_wrong_item.kp g_wrong_item
  have UCf : Use P w K mg base CX0 4 "check_fractions" ["numbers"] (spWi K) [] := use0 (ok_cfrac F_check_fractions UWi) b_check_fractions F_check_fractions.kp g_check_fractions
  have UN : Use P w K mg base CX0 5 "checked_numbers" ["numbers", "further"] (spCn K) [] := use0 (ok_checked F_checked_numbers mn ml UI UC UCf) b_checked_numbers F_checked_numbers.kp g_checked_numbers
  have UZ : Use P w K mg base CX0 1 "is_zero" ["numbers"] (spIz zeA) [] := use0 (ok_iszero F_is_zero k0 ma mZ) b_is_zero F_is_zero.kp g_is_zero
  have UL : Use P w K mg base CX0 1 "least_place" ["numbers", "first"] (spLp K) [] := use0 (ok_least F_least_place k0 men mZ) b_least_place F_least_place.kp g_least_place
  have USn : Use P w K mg base CX0 1 "still_numbers" ["order"] (spSn onA zeA) [] := use0 (ok_stilln F_still_numbers mZ mO) b_still_numbers F_still_numbers.kp g_still_numbers
  have UD : Use P w K mg base CX0 2 "kind_of" ["numbers"] (spKo onA zeA) [] := use0 (ok_kind F_kind_of k1 k0 mZ mO UZ) b_kind_of F_kind_of.kp g_kind_of
  have GSi := ok_stinit FSi clS nAS mn k1 k0 UN UD UL
  have GSs := ok_still FSs MkS mS GSi bSi UC USn
  have GRi := ok_rwinit FRi clR nAR mn UN UL
  have GRc := ok_const FRc MkR mR mZ k0 GRi bRi UC UK
  have Gdr := ok_draw (P := P) (w := w) (base := base) F__law_draw mn mi
  have Gof := ok_ofL F__law_of Gdr b__law_draw F__law_draw.kp g__law_draw mn
  have Glo := ok_low (P := P) (w := w) (base := base) F__law_low mabs mi
  have Gnu := ok_num Gdr b__law_draw F__law_draw.kp g__law_draw Gof b__law_of F__law_of.kp g__law_of Glo b__law_low F__law_low.kp g__law_low F__law_number
  have Gbi := ok_big Gdr b__law_draw F__law_draw.kp g__law_draw Gof b__law_of F__law_of.kp g__law_of F__law_big mr
  have Gwi := ok_wide Gdr b__law_draw F__law_draw.kp g__law_draw Gof b__law_of F__law_of.kp g__law_of Glo b__law_low F__law_low.kp g__law_low F__law_wide Gbi b__law_big F__law_big.kp g__law_big
  have L0 : FnOk P w K mg base CX0 1 _ _ _ (spLike 0) := ok_like F__law_like b__law_like g__law_like (fun n' e => by cases e) mI ml mt mb ms mi mn mz ma
  have L1 : FnOk P w K mg base CX0 2 _ _ _ (spLike 1) := ok_like F__law_like b__law_like g__law_like (fun n' e => by cases e; exact L0) mI ml mt mb ms mi mn mz ma
  have L2' : FnOk P w K mg base CX0 3 _ _ _ (spLike 2) := ok_like F__law_like b__law_like g__law_like (fun n' e => by cases e; exact L1) mI ml mt mb ms mi mn mz ma
  have L3 : FnOk P w K mg base CX0 4 _ _ _ (spLike 3) := ok_like F__law_like b__law_like g__law_like (fun n' e => by cases e; exact L2') mI ml mt mb ms mi mn mz ma
  have L4 : FnOk P w K mg base CX0 5 _ _ _ (spLike 4) := ok_like F__law_like b__law_like g__law_like (fun n' e => by cases e; exact L3) mI ml mt mb ms mi mn mz ma
  have Gfa := ok_fault (P := P) (w := w) (base := base) F__law_fault mI ZP ZZ (nP _ (by decide)) (nP _ (by decide)) (nZ _ (by decide)) (of_decide_eq_true (c.fact 20)) (of_decide_eq_true (c.fact 21)) (of_decide_eq_true (c.fact 22))
  have Glk : Use P w K mg base CX0 6 "_law_like" ["_law_told", "_law_due"] (spLike 4) [] := use0 (L4.mono (by decide)) b__law_like F__law_like.kp g__law_like
  have kit : Kit P w K mg base ipA dzA ceA naA := {
    add := use0 (ok_add F__law_add Glo b__law_low F__law_low.kp g__law_low) b__law_add F__law_add.kp g__law_add
    neg := use0 (ok_neg F__law_neg) b__law_neg F__law_neg.kp g__law_neg
    mul := use0 (ok_mul F__law_mul Glo b__law_low F__law_low.kp g__law_low) b__law_mul F__law_mul.kp g__law_mul
    low := use0 Glo b__law_low F__law_low.kp g__law_low
    sum := useR (ok_sum Gr b_ratio F_ratio.kp g_ratio F_sum_of) b_sum_of F_sum_of.kp g_sum_of (kb_two F_sum_of (fun _ _ _ _ _ _ _ _ => rfl)) (by decide)
    dif := useR (ok_dif Gr b_ratio F_ratio.kp g_ratio F_difference_of) b_difference_of F_difference_of.kp g_difference_of (kb_two F_difference_of (fun _ _ _ _ _ _ _ _ => rfl)) (by decide)
    pro := useN (ok_pro Gr b_ratio F_ratio.kp g_ratio F_product_of) b_product_of F_product_of.kp g_product_of (kb_mix F_product_of (fun _ _ _ _ _ _ _ _ => rfl)) (by decide)
    bel := useR (ok_bel F_is_below) b_is_below F_is_below.kp g_is_below (kb_two F_is_below (fun _ _ _ _ _ _ _ _ => rfl)) (by decide)
    quo := useR (ok_quoX F_quotient_of GrX b_ratio F_ratio.kp g_ratio) b_quotient_of F_quotient_of.kp g_quotient_of (kb_two F_quotient_of (fun _ _ _ _ _ _ _ _ => rfl)) (by decide)
    rat := useR GrX b_ratio F_ratio.kp g_ratio (kb_two F_ratio (fun _ _ _ _ _ _ _ _ => rfl)) (by decide)
    pow := useR (ok_pow F_power_of Gb b_is_between F_is_between.kp g_is_between Gra b_raised F_raised.kp g_raised GrX b_ratio F_ratio.kp g_ratio mM ZP) b_power_of F_power_of.kp g_power_of (kb_two F_power_of (fun _ _ _ _ _ _ _ _ => rfl)) (by decide)
    lra := use0 (ok_lraised F__law_raised mr) b__law_raised F__law_raised.kp g__law_raised
    draw := use0 Gdr b__law_draw F__law_draw.kp g__law_draw
    ofL := use0 Gof b__law_of F__law_of.kp g__law_of
    mabs := mabs
    lik := Glk
    flt := ⟨_, _, Gfa, b__law_fault, F__law_fault.kp, g__law_fault⟩
    ask := ⟨_, _, F__law_ask, b__law_ask, g__law_ask⟩
    mC := mC
    mN := mN
    e1 := of_decide_eq_true (c.fact 23)
    e2 := of_decide_eq_true (c.fact 24)
    e3 := of_decide_eq_true (c.fact 25) }
  obtain ⟨cd1, cd2⟩ := He.ba (c.fact 27)
  obtain ⟨cd2, cd3⟩ := He.ba cd2
  have kit2 : Kit2 P w K mg base tbT := {
    bag := use0 (ok_bag F__law_bag ml mi) b__law_bag F__law_bag.kp g__law_bag
    draw := use0 Gdr b__law_draw F__law_draw.kp g__law_draw
    ofL := use0 Gof b__law_of F__law_of.kp g__law_of
    wid := use0 Gwi b__law_wide F__law_wide.kp g__law_wide
    num := use0 Gnu b__law_number F__law_number.kp g__law_number
    big := use0 Gbi b__law_big F__law_big.kp g__law_big
    neg := use0 (ok_neg F__law_neg) b__law_neg F__law_neg.kp g__law_neg
    ds := use0 (ok_ds (fun_c F__law_deeds_so cd1) kit (hTB (933, 929) c1) t1 tu1) b__law_deeds_so F__law_deeds_so.kp g__law_deeds_so
    rs := use0 (ok_rs (fun_c F__law_ratio_so cd2) kit (hTB (940, 936) c2) t2 tu2) b__law_ratio_so F__law_ratio_so.kp g__law_ratio_so
    ps := use0 (ok_ps (fun_c F__law_power_so cd3) kit (hTB (947, 943) c3) t3 tu3) b__law_power_so F__law_power_so.kp g__law_power_so
    any := use0 (ok_any F__law_any mabs ms (use0 Gof b__law_of F__law_of.kp g__law_of) GSs bSs mS rS cS oS GRc bRc mR rR cR oR) b__law_any F__law_any.kp g__law_any
    isf := UF
    lis := use0 (ok_is F__law_is mI mt mn mi mb ma Glo b__law_low F__law_low.kp g__law_low) b__law_is F__law_is.kp g__law_is
    lik := Glk
    mr := mr }
  exact ok_law F_law kit2
end
end Kq
end
section
set_option maxHeartbeats 0
namespace Kq
open PySem PySem.Spec PyProof.Rows L2
abbrev R : PySem.W.OpenRow := PySem.W.OpenLaw.row PySem.Challenge.rw_creepclocks_k01_fractions_reckoned
def names0 : List PySem.Str := ["_wall", "CreepError", "InvalidNumber", "InvalidFraction", "InvalidOrder", "UnlikeOrders", "InvalidPlace", "InvalidPower", "CantTurn", "NotSlow", "NoAnswer", "DividedByZero", "ZERO", "ONE", "MINUS_ONE", "MOST_POWER", "is_whole", "is_between", "is_fraction", "ratio"]
def names1 : List PySem.Str := ["sum_of", "difference_of", "product_of", "quotient_of", "negative_of", "raised", "power_of", "is_below", "fraction_text", "LOWEST_ORDER", "HIGHEST_ORDER", "is_listing", "check_order", "check_orders", "check_place", "check_number", "wrong_item", "check_fractions", "checked_numbers", "check_slow"]
def names2 : List PySem.Str := ["check_turnable", "is_zero", "least_place", "sums_of", "differences_of", "dot", "mixed", "over_one_lower", "multiplied", "still_numbers", "table_lines", "row_behind", "put_behind", "solved", "turned_back", "done_times", "differences", "binomials", "binomial_power", "letter_text"]
def names3 : List PySem.Str := ["term_text", "term_words", "numbers_text", "Row", "kind_of", "Step", "_law_bag", "_law_draw", "_law_of", "_law_like", "_law_low", "_law_add", "_law_mul", "_law_neg", "_law_number", "_law_big", "_law_wide", "_law_is", "_law_raised", "_law_fault"]
def names4 : List PySem.Str := ["_law_ask", "_law_any", "_law_deeds_so", "_law_ratio_so", "_law_power_so"]
def names : List PySem.Str := names0 ++ names1 ++ names2 ++ names3 ++ names4
abbrev hk : PySem.W.Hook := hookR
def ob (s : PySem.W.SharedT) : ObV × Bool := (obR (HandSHeadRun.getT s), tblB (HandSHeadRun.getT s))
theorem ob_eq (s : PySem.W.SharedT) : ob s = hk.obs s.abs := by
  have e : HandSHeadRun.getT s = s.abs.heap.get? := funext fun a => HandSHeadRun.getT_eq s a
  unfold ob
  rw [e]
  rfl
noncomputable abbrev endI (w : World) := HandSHeadRun.wholeF (fun p => HandSHeadRun.stepQ (HandSHeadRun.denQ HandSHeadRun.tabQ) p w) HandSHeadRun.fenceQ 20000 R.prog
abbrev qv := PySem.W.view R.prog [0, 94]
theorem run1 (w : World) : (endI w).map (fun x => (HandSHeadRun.looksF R.prog x.1.heap x.2.abs, ob x.2)) = some (true, (valR, true)) := by
  kernel_rfl
theorem run2 (w : World) : (endI w).map (fun x => HandSHeadRun.seenQ qv names (importedModules R.prog.main.body) (fun s => PySem.W.xlAt qv [] s && PySem.W.recOk R.toRowW.records s) x.2.abs) = some (PySem.W.openGood qv names) := by
  kernel_rfl
theorem run (w : World) : HandSHeadRun.RunEqI R qv hk ob 20000 names w := by
  obtain ⟨x, e1, e2⟩ := Option.map_eq_some_iff.mp (run1 w)
  have e3 := run2 w
  show (endI w).map _ = _
  rw [e1] at e3 ⊢
  have e4 := Option.some.inj e3
  have e5 := (Prod.mk.inj e2).1
  have e6 := (Prod.mk.inj e2).2
  show some (HandSHeadRun.looksF R.prog x.1.heap x.2.abs, HandSHeadRun.seenQ qv names (importedModules R.prog.main.body) (fun s => PySem.W.xlAt qv [] s && PySem.W.recOk R.toRowW.records s) x.2.abs, ob x.2) = _
  rw [e5, e6]
  exact congrArg some (congrArg (Prod.mk true) (congrArg (fun z => (z, (valR, true))) e4))
end Kq
end
section
set_option maxHeartbeats 0
namespace Kq
open PySem PySem.Spec PyProof.Rows L2
theorem cs_tab {h : Heap} (hT : ∀ a ∈ tabA, h.get? a = some { cls := .none, data := .fields #[] }) : ∀ p ∈ csT, h.get? p.2 = some { cls := .none, data := .fields #[] } := fun p hp => by
  rcases mem3 hp with e | e | e <;> rw [e]
  · exact hT 929 List.mem_cons_self
  · exact hT 936 (List.mem_cons_of_mem _ List.mem_cons_self)
  · exact hT 943 (List.mem_cons_of_mem _ (List.mem_cons_of_mem _ List.mem_cons_self))
theorem cs_none {K : PySem.W.Frag} (c : SaysR K) : ∀ p ∈ csT, K.lookup p.2 = none := fun p hp => by
  have n := c.fact 26
  have nn : ∀ a ∈ tabA, K.lookup a = none := fun a ha => Option.isNone_iff_eq_none.mp (List.all_eq_true.mp n a ha)
  rcases mem3 hp with e | e | e <;> rw [e]
  · exact nn 929 List.mem_cons_self
  · exact nn 936 (List.mem_cons_of_mem _ List.mem_cons_self)
  · exact nn 943 (List.mem_cons_of_mem _ (List.mem_cons_of_mem _ List.mem_cons_self))
theorem cs_code {K : PySem.W.Frag} {h : Heap} (X : K.In h) (c : SaysR K) : ∀ p ∈ csT, PySem.W.CodeHd h p.1 p.2 := fun p hp => by
  obtain ⟨h1, h2⟩ := He.ba (c.fact 28)
  obtain ⟨h2, h3⟩ := He.ba h2
  rcases mem3 hp with e | e | e <;> rw [e]
  · exact PySem.W.codeHd_of_K X h1
  · exact PySem.W.codeHd_of_K X h2
  · exact PySem.W.codeHd_of_K X h3
theorem tabs_start {H : Hp} (hH : ∀ p ∈ csT, H p.2 = some (.tbl #[])) : LamX.Tabs tbT H := fun p hp => by
  rcases mem3 hp with e | e | e <;> rw [e]
  · exact LamX.TabS.nil (hH _ c1)
  · exact LamX.TabS.nil (hH _ c2)
  · exact LamX.TabS.nil (hH _ c3)
end Kq
open PySem PySem.W PySem.Calls PyProof.Rows
theorem PySem.Challenge.cw_creepclocks_k01_fractions_reckoned_holds : PySem.Challenge.rw_creepclocks_k01_fractions_reckoned.Holds := by
  w_on; o_law
  refine HandSHeadRun.head_imp (r := OpenLaw.row PySem.Challenge.rw_creepclocks_k01_fractions_reckoned) (q := view (OpenLaw.row PySem.Challenge.rw_creepclocks_k01_fractions_reckoned).prog [0, 94]) (H := Kq.hookR) (ob := Kq.ob) (M := 20000) (loose := Kq.names) (d := HandSHeadRun.topDef (OpenLaw.row PySem.Challenge.rw_creepclocks_k01_fractions_reckoned).prog 94) (kwd := []) Kq.ob_eq
    Kq.run (by kernel_rfl) (by kernel_rfl) (by kernel_rfl) (by rfl) (by first | assumption | decide +kernel) (by decide +kernel) ⟨rfl, rfl, rfl, rfl, rfl, by decide +kernel⟩ ?hw ?hc
  case hw => w_witness2
  case hc =>
    refine LamX.walk_ofTsE (l := PySem.Challenge.rw_creepclocks_k01_fractions_reckoned) (n := 63) (k := 10) (x := "_law_script") (CX := fun _ => L2.CX0) rfl (by decide) (by kernel_rfl) ⟨rfl, by decide, by decide⟩ ?F (fun _ _ _ _ _ z => z)
    intro w mg fa h Y G hmg0
    obtain ⟨⟨K, KX, c⟩, hT⟩ := Y
    have hmg : mg ("law" : PySem.Str) = some (.ref fa) := by
      have e : (HandSHeadRun.topDef (OpenLaw.row PySem.Challenge.rw_creepclocks_k01_fractions_reckoned).prog 94).name = ("law" : PySem.Str) := by kernel_rfl
      rw [← e]
      exact hmg0
    obtain ⟨fd, hb, hF⟩ := Kq.facts (P := (PySem.Challenge.rw_creepclocks_k01_fractions_reckoned).prog) (w := w) KX G hmg c
    exact ⟨K, KX, fd, Kq.csT, Kq.spLaw K Kq.tbT, Kq.cs_tab hT, Kq.cs_none c, Kq.cs_code KX c, hb, fun H a ns hl _ hH hS => ⟨a, ns, rfl, hS, Kq.tabs_start hH, fun _ => rfl⟩, hF⟩
end
