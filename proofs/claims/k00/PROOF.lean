import PyProof.Rows.All
import Wide.All
import OpenK.AllK
import Wide.FinOn
import HandS.ExcInit
import HandS.Defaults
import KE.KExcInit
import KE.KExcIs
import HandS.MakeKw
import HandS.IsInst
import HandS.HeadHook1
import HandS.HeadHook2
import HandS.Words
import KE.KStateDown
import Lean
import HandS.Head0
import HandS.Head1
import HandS.Head2
import HandS.HeadEnd
import HandS.ForMost
import HandS.Zip
import HandS.Codes
import HandS.Walk
import KE.DataEq
import PySem.Challenge.RW_creepclocks_k00_errors_by_themselves
set_option Elab.async false
set_option linter.all false
set_option maxRecDepth 100000
section
set_option maxHeartbeats 4000000
namespace PySem
namespace Xv
open PySem.W PySem.Calls PyProof.Rows PySem.HandSPX
section
variable {prog : Program} {w : World} {A : Around} {E : Value → Shared → Prop} {R : Result → Shared → Prop} {h : Heap} {g : Array GenState} {d : Drawn} {t : Nat} {os : OsState}
variable {nm q : Str} {C N : Addr} {bs bm mb : List Value} {hdct : Bool} {sn : List Str} {sub : List Value} {ab : Bool} {col : Option Bool} {dd : Option Addr} {k0 k1 k2 k3 k5 : Option Value} {B newId initId : String}
variable {kw : List (Str × Value)} {rest : List Value}

theorem chkNew {M : Model} (F : ExcBaseFacts B newId initId mb) (hT : ∀ Z : String, bm.contains (.type Z) = mb.contains (.type Z)) {Q : Unit → Shared → Prop}
    (hC : h.get? C = some (excClassObj nm q C N bs bm hdct sn sub ab col dd k0 k1 k2 k3 k5 newId)) (z : Q () ⟨h, g, d, t, os⟩) :
    wpAny M A (checkBuiltinCall newId ⟨.ref C :: rest, kw⟩) Q E ⟨h, g, d, t, os⟩ := by
  have h1 : (Value.ref C :: bm).contains (.type B) = true := by rw [List.contains_cons, hT, F.hasB]; simp
  have h2 := F.noStar
  simp only [checkBuiltinCall, F.newKind, F.newSplit, F.newRow]
  repeat (first | refine wpAny_loadPart_at hC ?_ | (refine wpAny_isSubtype_exc hC ?_; rw [h1]) | refine wpAny_staticBase_exc hC ?_ | refine wpAny_madeBy_exc hC ?_ | simp only [bne_self_eq_false, Bool.false_eq_true, if_false] | wp_step)
  exact z
theorem newAt (F : ExcBaseFacts B newId initId mb) (hT : ∀ Z : String, bm.contains (.type Z) = mb.contains (.type Z))
    (hC : h.get? C = some (excClassObj nm q C N bs bm hdct sn sub ab col dd k0 k1 k2 k3 k5 newId)) (hl : rest.length ≤ sizeLine)
    (z : R (.ok (.ret (.ref (h.objs.size + 1)))) ⟨(h.push (W.kdv_tup rest)).push (excO C h.objs.size), g, d, t, os⟩) :
    codeAny (model prog w) A (.builtin newId ⟨.ref C :: rest, kw⟩) R ⟨h, g, d, t, os⟩ := by
  have e0 := F.ends
  have e1 : (Value.ref C :: bm).contains (.type B) = true := by rw [List.contains_cons, hT, F.hasB]; simp
  have e2 : (Value.ref C :: bm).contains (.type "AttributeError") = false := by rw [List.contains_cons, hT, F.noAttr]; exact rfl
  have e3 : (Value.ref C :: bm).contains (.type "NameError") = false := by rw [List.contains_cons, hT, F.noName]; exact rfl
  refine codeAny_builtinAt F.entry ?_
  unfold Builtin.«BaseException.__new__»
  refine wpAt_bind ?_
  show wpAt _ _ _ (stack >>= _) _ _ _
  refine wpAt_bind (wpAt_stack fun p below => wpAt_of_wpAny ?_)
  wp_walk
  refine wpAt_of_wpAny ?_
  rw [F.owner]
  repeat (first | (with_reducible refine wpAny_isSubtype_exc hC ?_; first | rw [e1] | rw [e2] | rw [e3]) | with_reducible refine wpAny_madeHere_exc F.canon hC ?_ | with_reducible refine wpAny_loadPart_at hC ?_ | wp_step)
  show R _ _
  rw [Heap.size_push]
  exact z
theorem callAt (F : ExcBaseFacts B newId initId mb) (hT : ∀ Z : String, bm.contains (.type Z) = mb.contains (.type Z)) {fI : Addr} {Q : Fin → Shared → Prop}
    (hC : h.get? C = some (excClassObj nm q C N bs bm hdct sn sub ab col dd k0 k1 k2 k3 k5 newId))
    (hi : W.Looks (model prog w) h (typeLookup (.ref C) "__init__") (some (.ref fI))) (hb : ∀ self, W.Looks (model prog w) h (bindSpecial (.ref fI) self) (.ref fI, [self])) (hl : rest.length ≤ sizeLine)
    (z : codeAny (model prog w) A (.call (.ref fI) ⟨.ref (h.objs.size + 1) :: rest, kw⟩)
      (fun r s' => match r with | .ok (.ret v) => v = .none ∧ Q (.done (.ret (.ref (h.objs.size + 1)))) s' | .ok _ => False | .error e => E e s')
      ⟨(h.push (W.kdv_tup rest)).push (excO C h.objs.size), g, d, t, os⟩) :
    wpAny (model prog w) A (Builtin.«type.__call__» ⟨.ref C :: rest, kw⟩) Q E ⟨h, g, d, t, os⟩ := by
  repeat (first | with_reducible refine wpAny_madeBy_exc hC ?_ | with_reducible refine wpAny_loadPart_at hC ?_ | wp_step)
  refine codeAny_call_builtin_code (Code.quiet_builtin _ F.quiet) (chkNew F hT hC (newAt F hT hC hl ?_))
  show wpAny _ _ _ _ _ _
  have k : ∀ b o, h.get? b = some o → ((h.push (W.kdv_tup rest)).push (excO C h.objs.size)).get? b = some o := fun b o y => Heap.get?_push_of_some _ (Heap.get?_push_of_some _ y)
  have hC' := k _ _ hC
  have hg : ((h.push (W.kdv_tup rest)).push (excO C h.objs.size)).get? (h.objs.size + 1) = some (excO C h.objs.size) := by heap_get
  have cc : (Value.ref C :: bm).contains (.ref C) = true := by simp
  have i1 := hi.keeps k
  have b1 := (hb (.ref (h.objs.size + 1))).keeps k
  unfold isInstance
  repeat (first | (with_reducible refine wpAny_isSubtype_exc hC' ?_; rw [cc]) | with_reducible refine wpAny_loadPart_at hg ?_ | wp_step)
  show wpAny _ _ (typeLookup (.ref C) _) _ _ _
  refine i1.at (wpAny_holding (wpAny_bind (b1.at ?_)))
  refine wpAny_bind (wpAny_call (codeAny_mono z fun r s' y => ?_))
  rcases r with e | (v | _ | _ | _) <;> first | exact y | exact y.elim | skip
  obtain ⟨rfl, y⟩ := y
  first
    | exact wpAny_pure (wpAny_pure y)
    | (wp_walk; exact y)
theorem chkCall {M : Model} {Q : Unit → Shared → Prop} (hC : h.get? C = some (excClassObj nm q C N bs bm hdct sn sub ab col dd k0 k1 k2 k3 k5 newId))
    (z : Q () ⟨h, g, d, t, os⟩) : wpAny M A (checkBuiltinCall "type.__call__" ⟨.ref C :: rest, kw⟩) Q E ⟨h, g, d, t, os⟩ := by
  have f3 := tc_sub
  have hty : (⟨h, g, d, t, os⟩ : Shared).TypeIs (.ref C) "type" := ⟨_, hC, rfl⟩
  simp only [checkBuiltinCall, tc_kind, tc_split]
  repeat (any_goals (first | assumption | with_reducible refine wpAny_onRaise ?_ | with_reducible refine wpAny_loadPart_at hC ?_ | with_reducible refine wpAny_map ?_ | wp_step))
/-- an own exception class with its own __init__ is called, with keywords or without -/
theorem callK (F : ExcBaseFacts B newId initId mb) (hT : ∀ Z : String, bm.contains (.type Z) = mb.contains (.type Z)) {fI : Addr}
    (hC : h.get? C = some (excClassObj nm q C N bs bm hdct sn sub ab col dd k0 k1 k2 k3 k5 newId))
    (hi : W.Looks (model prog w) h (typeLookup (.ref C) "__init__") (some (.ref fI))) (hb : ∀ self, W.Looks (model prog w) h (bindSpecial (.ref fI) self) (.ref fI, [self])) (hl : rest.length ≤ sizeLine)
    (z : codeAny (model prog w) (A.under (.builtin "type.__call__" ⟨.ref C :: rest, kw⟩)) (.call (.ref fI) ⟨.ref (h.objs.size + 1) :: rest, kw⟩) (W.InitBack (h.objs.size + 1) R)
      ⟨(h.push (W.kdv_tup rest)).push (excO C h.objs.size), g, d, t, os⟩) :
    codeAny (model prog w) A (.call (.ref C) ⟨rest, kw⟩) R ⟨h, g, d, t, os⟩ := by
  have f1 := tc_lookup
  have f2 := tc_bind (.ref C)
  have hty : (⟨h, g, d, t, os⟩ : Shared).TypeIs (.ref C) "type" := ⟨_, hC, rfl⟩
  refine codeAny_of_tree ?_
  show wpAny _ _ (callAny (.ref C) _) _ _ _
  repeat (any_goals (first | assumption | with_reducible refine wpAny_loadPart_at hC ?_ | wp_step))
  refine ⟨rfl, ?_⟩
  refine codeAny_call_builtin_at (Code.quiet_builtin _ (by decide +kernel)) entry_typeCall (chkCall hC (callAt F hT hC hi hb hl ?_))
  refine codeAny_mono z fun r s' y => ?_
  rcases r with e | (v | _ | _ | _) <;> exact y
end
end Xv
end PySem
end
section
set_option maxHeartbeats 4000000
namespace L2
open PySem PySem.Spec PyProof.Rows Builtin.ObjectAttr
/-- what the written part says of an own exception class at C, so that its objects may be made, filled, read and asked -/
structure XC (K : PySem.W.Frag) (C : Addr) : Prop where
  base : ∃ B newId initId mb, ExcBaseFacts B newId initId mb ∧ StoreFacts B mb "object.__setattr__" "object" ∧ PySem.W.excInitIn K C mb newId = true ∧ PySem.W.excOver K C mb = true
  cl : (PySem.W.clsIn K C).isSome = true
  hd : PySem.W.hasDictIn K C = true
  sa : PySem.W.findIn K (.ref C) "__setattr__" = some (some (.builtin "object.__setattr__"))
  ga : PySem.W.findIn K (.ref C) "__getattribute__" = some (some (.builtin "BaseException.__getattribute__"))
  gg : PySem.W.findIn K (.ref C) "__getattr__" = some none
  ex : PySem.W.subIn K (.ref C) (.type "BaseException") = some true
  ha : PySem.W.findIn K (.ref C) "__class__" = some (some (.builtin "object.__class__"))
  hn : PySem.W.specialIn K (.builtin "object.__class__") "__get__" = some (some (.builtin "getset_descriptor.__get__"))
  ht : PySem.W.takesIn K (.builtin "object.__class__") = some true
  hm : PySem.W.mroIn K C (.type "object") = some true
  kC : PySem.W.keepIn K (.ref C) = true
def free3 (H H' : Hp) (a d : Addr) : Prop := ∀ b, b ≠ a → b ≠ d → H' b = H b
section
variable {X : Cx} {pins : List (Addr × Obj)} {σ : St} {H : Hp} {s : Shared} {a C dx : Addr} {f : Str} {y : V} {u : Value} {fs : List (Str × V)} {Q : Unit → Shared → Prop} {E : Value → Shared → Prop} {A : Around}
theorem taker_none {K : PySem.W.Frag} (h : PySem.W.findIn K (.ref C) f = some none) : PySem.W.takerIn K C f = some none := by
  unfold PySem.W.takerIn
  rw [h]
  rfl
theorem xst_new (T : XC X.K C) (I : Inv X pins σ H s) (e : H a = some (exo a C none)) (hno : PySem.W.findIn X.K (.ref C) f = some none) (ry : RelV y u)
    (h : ∀ d s' H', d ≠ a → H d = none → H' a = some (exo a C (some d)) → H' d = some (exd d [(f, y)]) → free3 H H' a d → Inv X pins σ H' s' → Q () s') : wpAny (model X.prog X.w) A (setAttr (.ref a) f u) Q E s := by
  obtain ⟨B, nid, iid, mb, FB, SF, q1, q2⟩ := T.base
  obtain ⟨t1, ho⟩ := exo_at I.hok e
  obtain ⟨cd, hc, hd'⟩ := PySem.W.any_some T.hd
  obtain ⟨hp, g, dr, t, os⟩ := s
  refine PySem.W.set_plain I.kIn (od := none) ⟨ho, rfl, rfl, trivial⟩ T.sa (PySem.W.osa_openX (od := none) SF I.kIn ⟨ho, rfl, rfl, trivial⟩ q2 (taker_none hno) fun b => ?_)
  have na : a ≠ hp.objs.size := Nat.ne_of_lt (Heap.lt_size ho)
  refine wpAny_bind (wpAny_pure (wpAny_bind (PySem.W.instanceDict_exc (c2 := .none) (t := t1) ho (PySem.W.looks_clsIn I.kIn hc) hd' ?_)))
  have hfr : H hp.objs.size = none := I.hok.fresh (Nat.le_refl _)
  have hget : (hp.push (PySem.W.dictOf [] 0)).get? hp.objs.size = some (PySem.W.dictOf [] 0) := Heap.get?_push_size _ rfl
  have en : (hp.push (PySem.W.dictOf [] 0)).Ns1 hp.objs.size (fun _ => none) := Heap.Ns1.of_empty ⟨_, #[], _, hget, rfl, fun e he => absurd he (by simp), fun _ => rfl⟩
  have I1 : Inv X pins σ (upd H hp.objs.size (exd hp.objs.size [])) ⟨hp.push (PySem.W.dictOf [] 0), g, dr, t, os⟩ := I.laid (a := hp.objs.size) (o := exd hp.objs.size []) (h' := hp.push (PySem.W.dictOf [] 0)) (t' := t) (fun b o z => Heap.get?_push_of_some _ z) (Nat.le_refl _) (exd_ok en fun _ => True.intro)
  have hxa : ((hp.push (PySem.W.dictOf [] 0)).update a fun o => { o with dict := some hp.objs.size }).get? a = some ({ cls := .ref C, dict := some hp.objs.size, data := .fields #[.ref t1, .none, .none, .none, .bool false, .none] } : Obj) :=
    Heap.get?_update_self _ (Heap.get?_push_of_some _ ho) rfl
  have I2 : Inv X pins σ (upd (upd H hp.objs.size (exd hp.objs.size [])) a (exo a C (some hp.objs.size))) ⟨(hp.push (PySem.W.dictOf [] 0)).update a fun o => { o with dict := some hp.objs.size }, g, dr, t, os⟩ :=
    I1.write (x := a) (e := a) (o := exo a C (some hp.objs.size)) (t' := t) (h' := (hp.push (PySem.W.dictOf [] 0)).update a fun o => { o with dict := some hp.objs.size }) (by rw [upd_ne na, e]; exact True.intro) (.inl rfl)
      (fun b o hb z => (Heap.get?_update_ne _ _ _ _ hb).trans z) ⟨_, hxa⟩ (exo_ok hxa)
  have ed : (upd (upd H hp.objs.size (exd hp.objs.size [])) a (exo a C (some hp.objs.size))) hp.objs.size = some (exd hp.objs.size []) := by rw [upd_ne (Ne.symm na), upd_same]
  obtain ⟨mA, hns, rel⟩ := exd_at I2.hok ed
  show wpAny _ _ (storeInDict hp.objs.size (.str f _) f u) _ _ _
  refine PySem.OEX.store_in_old hns (within_of rel) (by simp) fun h' tk' hn' hs => ?_
  have I3 := I2.write (x := hp.objs.size) (e := hp.objs.size) (o := exd hp.objs.size [(f, y)]) (t' := tk') (h' := h') (by rw [ed]; exact True.intro) (.inl rfl) (fun b o hb z => (hs.2 b hb).trans z)
    (by obtain ⟨o, _, _, z, _⟩ := hn'; exact ⟨o, z⟩) (exd_ok hn' (relO_put ry rel))
  exact h hp.objs.size _ _ (Ne.symm na) hfr (by rw [upd_ne na, upd_same]) upd_same (fun b h1 h2 => by rw [upd_ne h2, upd_ne h1, upd_ne h2]) I3
theorem xst_old (T : XC X.K C) (I : Inv X pins σ H s) (e : H a = some (exo a C (some dx))) (ed : H dx = some (exd dx fs)) (hl : fs.length ≤ 900) (hno : PySem.W.findIn X.K (.ref C) f = some none) (ry : RelV y u)
    (h : ∀ s', Inv X pins σ (upd H dx (exd dx ((f, y) :: fs))) s' → Q () s') : wpAny (model X.prog X.w) A (setAttr (.ref a) f u) Q E s := by
  obtain ⟨B, nid, iid, mb, FB, SF, q1, q2⟩ := T.base
  obtain ⟨t1, ho⟩ := exo_at I.hok e
  obtain ⟨mA, hns, rel⟩ := exd_at I.hok ed
  have hw := within_of rel
  obtain ⟨cd, hc, hd'⟩ := PySem.W.any_some T.hd
  obtain ⟨hp, g, dr, t, os⟩ := s
  obtain ⟨oD, esD, epD, hoD, hdD, _⟩ := hns.count hw
  refine PySem.W.set_plain I.kIn (od := some oD) ⟨ho, rfl, rfl, hoD⟩ T.sa (PySem.W.osa_openX (od := some oD) SF I.kIn ⟨ho, rfl, rfl, hoD⟩ q2 (taker_none hno) fun b => ?_)
  refine wpAny_bind (wpAny_pure (wpAny_bind (wpAny_bind (wpAny_loadPart ho (wpAny_bind (PySem.W.Looks.at (M := model X.prog X.w) (PySem.W.looks_clsIn I.kIn hc) ?_))))))
  rw [hd']
  refine wpAny_pure (a := some dx) ?_
  show wpAny _ _ (storeInDict dx (.str f _) f u) _ _ _
  refine PySem.OEX.store_in_old hns hw (by rw [List.length_map]; omega) fun h' tk' hn' hs => ?_
  exact h _ (I.write (x := dx) (e := dx) (o := exd dx ((f, y) :: fs)) (t' := tk') (h' := h') (by rw [ed]; exact True.intro) (.inl rfl) (fun b o hb z => (hs.2 b hb).trans z)
    (by obtain ⟨o, _, _, z, _⟩ := hn'; exact ⟨o, z⟩) (exd_ok hn' (relO_put ry rel)))
end
end L2
namespace L2
open PySem PySem.Spec PyProof.Rows Builtin.ObjectAttr
/-- self.f = e, self an exception that is being made -/
def tXst (K : PySem.W.Frag) (f : Str) (to te : TE) : TS := fun D σ H => te σ H fun y H1 => to σ H1 fun x H2 => ∃ a C : Addr, x = .ref a ∧ XC K C ∧ PySem.W.findIn K (.ref C) f = some none ∧
  ((H2 a = some (exo a C none) ∧ ∀ d H3, d ≠ a → H2 d = none → H3 a = some (exo a C (some d)) → H3 d = some (exd d [(f, y)]) → free3 H2 H3 a d → D.nx σ H3) ∨
    ∃ (d : Addr) (fs : List (Str × V)), H2 a = some (exo a C (some d)) ∧ H2 d = some (exd d fs) ∧ fs.length ≤ 900 ∧ D.nx σ (upd H2 d (exd d ((f, y) :: fs))))
section
variable {X : Cx} {o e : Expr} {to te : TE} {f : Str} {p' pos : Pos}
theorem ps_xst (ho : PE X o to) (he : PE X e te) (hs : swapsWith e (some (.Attribute o f p')) pos.line X.env = pure false := by rfl) : PS X (.Assign [.Attribute o f p'] e pos) (tXst X.K f to te) := by
  refine ⟨fun pins s σ H D I h => ?_⟩
  refine plainObj_wpAny_Assign_Attribute (thn (he.run pins s σ H _ I h) fun v s1 hv => ?_) hs
  obtain ⟨y, H1, I1, r1, q1⟩ := hv
  refine thn (ho.run pins s1 σ H1 _ I1 q1) fun u s2 hu => ?_
  obtain ⟨x, H2, I2, r2, a, C, ex, T, hno, q⟩ := hu
  subst ex
  obtain rfl : u = Value.ref a := r2
  rcases q with ⟨ea, q⟩ | ⟨d, fs, ea, ed, hl, q⟩
  · exact xst_new T I2 ea hno r1 fun d s' H' n1 n2 z1 z2 z3 J => ⟨σ, H', J, q d H' n1 n2 z1 z2 z3⟩
  · exact xst_old T I2 ea ed hl hno r1 fun s' J => ⟨σ, _, J, q⟩
end
/-- C(e, .., k = v, ..) as a value; sp is what C's own __init__ promises -/
def tXmk (C : Addr) (n m : Nat) (sp : Sp) (gV : List V → List V → List V) (t tk : TA) : TE := fun σ H Q => t σ H fun vs H1 => tk σ H1 fun zs H2 => vs.length = n ∧ zs.length = m ∧
  ∀ a, H2 a = none → sp (gV (.ref a :: vs) zs) (upd H2 a (exo a C none)) (fun v H3 => v = .non ∧ Q (.ref a) H3) (fun _ _ _ => False)
section
variable {X : Cx} {CX : CXT} {k n : Nat} {C fI : Addr} {fd : FuncData} {ps ks : List Str} {sp : Sp} {x : Str} {p pos : Pos} {e : Expr} {es : List Expr} {kws : List Keyword} {t tk : TA} {g : List Value → List Value → List Value} {gV : List V → List V → List V}
theorem run_xmk {pins : List (Addr × Obj)} {σ : St} {H : Hp} {s : Shared} {Q : VK} {us ws : List Value} {vs zs : List V} (T : XC X.K C) (iC : PySem.W.findIn X.K (.ref C) "__init__" = some (some (.ref fI))) (tI : PySem.W.isFn X.K (.ref fI) = true)
    (F : FnOk X.prog X.w X.K X.mg X.base CX k fI fd ps sp) (hr : Room (k + 1) X.A) (hb : KBn X.K fd ps (n + 1) ks g gV) (hx : Passes CX X (fun _ _ _ => False)) (I : Inv X pins σ H s) (r : Vals vs us) (rz : Vals zs ws) (l1 : vs.length = n) (l2 : zs.length = ks.length) (l3 : n ≤ 1000)
    (h : ∀ a, H a = none → sp (gV (.ref a :: vs) zs) (upd H a (exo a C none)) (fun v H3 => v = .non ∧ Q (.ref a) H3) (fun _ _ _ => False)) :
    wpAny (model X.prog X.w) X.A (call (.ref C) us (ks.zip ws)) (EP X pins σ Q) X.xe s := by
  obtain ⟨B, nid, iid, mb, FB, SF, q1, q2⟩ := T.base
  obtain ⟨nm, N, qn, bs, bm, hdct, sn, sub, ab, col, dd, k0, k1, k2, k3, k5, hC, hT⟩ := PySem.W.excInit_of I.kIn q1
  obtain ⟨oI, hoI, hcI⟩ : ∃ oI, s.heap.get? fI = some oI ∧ oI.cls = .type "function" := by
    obtain ⟨o, ho, hc⟩ := Option.map_eq_some_iff.mp (show (X.K.lookup fI).map (·.cls) = some (.type "function") from beq_iff_eq.mp tI)
    exact ⟨o, I.kIn _ _ ho, hc⟩
  obtain ⟨hp, gn, dr, tc, os⟩ := s
  have hsz : hp.objs.size ≤ hp.objs.size + 1 := Nat.le_succ _
  have hn : H (hp.objs.size + 1) = none := I.hok.fresh hsz
  have hq := h (hp.objs.size + 1) hn
  have kk : ∀ b o, hp.get? b = some o → ((hp.push (PySem.W.kdv_tup us)).push (PySem.HandSPX.excO C hp.objs.size)).get? b = some o := fun b o z => Heap.get?_push_of_some _ (Heap.get?_push_of_some _ z)
  have hget : ((hp.push (PySem.W.kdv_tup us)).push (PySem.HandSPX.excO C hp.objs.size)).get? (hp.objs.size + 1) = some (PySem.HandSPX.excO C hp.objs.size) := by heap_get
  have I2 : Inv X pins σ (upd H (hp.objs.size + 1) (exo (hp.objs.size + 1) C none)) ⟨(hp.push (PySem.W.kdv_tup us)).push (PySem.HandSPX.excO C hp.objs.size), gn, dr, tc, os⟩ :=
    I.laid (t' := tc) (a := hp.objs.size + 1) (o := exo (hp.objs.size + 1) C none) (h' := (hp.push (PySem.W.kdv_tup us)).push (PySem.HandSPX.excO C hp.objs.size)) kk hsz (exo_ok hget)
  have r1 : Vals (V.ref (hp.objs.size + 1) :: vs) (Value.ref (hp.objs.size + 1) :: us) := .cons rfl r
  have e1 : (Value.ref (hp.objs.size + 1) :: us).length = n + 1 := r1.length.symm.trans (congrArg Nat.succ l1)
  have e2 : ws.length = ks.length := rz.length.symm.trans l2
  have hus : us.length ≤ sizeLine := by
    rw [← r.length, sizeLine_eq]
    omega
  refine wpAny_call (PySem.Xv.callK FB hT hC (PySem.W.looks_findIn I.kIn iC) (fun self => PySem.W.exc_bind hoI hcI self) hus
    (codeAny_mono (F.run _ X.stack _ _ ⟨Value.ref (hp.objs.size + 1) :: us, ks.zip ws⟩ (g (Value.ref (hp.objs.size + 1) :: us) ws) _ _ (fun _ _ _ => False) (hr.make C us (ks.zip ws)) (I2.env0.make C us (ks.zip ws)) (hb.to _ (Value.ref (hp.objs.size + 1) :: us) ws I2.kIn e1 e2) (hb.rel r1 rz) hq) fun r s' hq' => ?_))
  cases r with
  | error er => exact hx pins σ _ _ er s' I2 hq'
  | ok fl =>
    cases fl with
    | ret u =>
      obtain ⟨v, H', I3, rv, ev, q3⟩ := I2.after hq'
      subst ev
      exact ⟨rv, V.ref (hp.objs.size + 1), H', I3, rfl, q3⟩
    | next => exact hq'.elim
    | brk => exact hq'.elim
    | cont => exact hq'.elim
/-- positional values (one or more), keywords -/
theorem pe_xmk (T : XC X.K C) (iC : PySem.W.findIn X.K (.ref C) "__init__" = some (some (.ref fI))) (tI : PySem.W.isFn X.K (.ref fI) = true) (F : FnOk X.prog X.w X.K X.mg X.base CX k fI fd ps sp) (hr : Room (k + 1) X.A) (hg : Gl X x) (hm : X.mg x = some (.ref C)) (hb : KBn X.K fd ps (n + 1) ks g gV) (hx : Passes CX X (fun _ _ _ => False)) (l3 : n ≤ 1000)
    (ha : PA X (e :: es) t) (hkw : PK X kws tk) (hall : (backToKw pos (keywordEach kws X.env)).all (·.1.isSome) = true := by rfl) (hks : (backToKw pos (keywordEach kws X.env)).filterMap (·.1) = ks := by rfl)
    (hdb : (x == ("__debug__" : Str)) = false := by decide) (he : starEach (e :: es) X.env = (false, eval e X.env) :: starEach es X.env := by rfl)
    (hpl : ((backTo pos (starEach (e :: es) X.env)).any (·.1) || (backToKw pos (keywordEach kws X.env)).any (·.1.isNone)) = false := by rfl) :
    PE X (.Call (.Name x p) (e :: es) kws pos) (tXmk C n ks.length sp gV t tk) := by
  refine ⟨fun pins s σ H Q I h => wpAny_Call_Name_kw (ld_glob I hg hm ?_ hdb)⟩
  refine PySem.W.callWith_KW (h₀ := X.base) I.ok.mod.kin T.kC hall (thn (ha.run pos pins s σ H _ I h) fun us s1 hu => ?_) hpl he
  obtain ⟨vs, H1, I1, r, q⟩ := hu
  refine thn (hkw.run pos pins s1 σ H1 _ I1 q) fun ws s2 hw => ?_
  obtain ⟨zs, H2, I2, rz, l1, l2, q2⟩ := hw
  refine ⟨I2.kIn, ?_⟩
  rw [hks]
  exact run_xmk T iC tI F hr hb hx I2 r rz l1 l2 l3 q2
/-- keywords alone -/
theorem pe_xmkK (T : XC X.K C) (iC : PySem.W.findIn X.K (.ref C) "__init__" = some (some (.ref fI))) (tI : PySem.W.isFn X.K (.ref fI) = true) (F : FnOk X.prog X.w X.K X.mg X.base CX k fI fd ps sp) (hr : Room (k + 1) X.A) (hg : Gl X x) (hm : X.mg x = some (.ref C)) (hb : KBn X.K fd ps 1 ks g gV) (hx : Passes CX X (fun _ _ _ => False))
    (hkw : PK X kws tk) (hall : (backToKw pos (keywordEach kws X.env)).all (·.1.isSome) = true := by rfl) (hks : (backToKw pos (keywordEach kws X.env)).filterMap (·.1) = ks := by rfl)
    (hdb : (x == ("__debug__" : Str)) = false := by decide) (hpl : ((backTo pos (starEach [] X.env)).any (·.1) || (backToKw pos (keywordEach kws X.env)).any (·.1.isNone)) = false := by rfl) :
    PE X (.Call (.Name x p) [] kws pos) (tXmk C 0 ks.length sp gV tNil tk) := by
  refine ⟨fun pins s σ H Q I h => wpAny_Call_Name_kw (ld_glob I hg hm ?_ hdb)⟩
  refine PySem.W.callWith_KW0 (h₀ := X.base) I.ok.mod.kin T.kC hall ?_ hpl
  refine thn (hkw.run pos pins s σ H _ I h) fun ws s2 hw => ?_
  obtain ⟨zs, H2, I2, rz, l1, l2, q2⟩ := hw
  refine ⟨I2.kIn, ?_⟩
  rw [hks]
  exact run_xmk (us := []) T iC tI F hr hb hx I2 .nil rz rfl l2 (by decide) q2
/-- one value or more, no keyword -/
theorem pe_xmkP (T : XC X.K C) (iC : PySem.W.findIn X.K (.ref C) "__init__" = some (some (.ref fI))) (tI : PySem.W.isFn X.K (.ref fI) = true) (F : FnOk X.prog X.w X.K X.mg X.base CX k fI fd ps sp) (hr : Room (k + 1) X.A) (hg : Gl X x) (hm : X.mg x = some (.ref C)) (hb : KBn X.K fd ps (n + 1) [] g gV) (hx : Passes CX X (fun _ _ _ => False)) (l3 : n ≤ 1000)
    (ha : PA X (e :: es) t) (hdb : (x == ("__debug__" : Str)) = false := by decide) (he : starEach (e :: es) X.env = (false, eval e X.env) :: starEach es X.env := by rfl) (hpl : (backTo pos (starEach es X.env)).any (·.1) = false := by rfl) :
    PE X (.Call (.Name x p) (e :: es) [] pos) (tXmk C n 0 sp gV t tNil) := by
  refine ⟨fun pins s σ H Q I h => wpAny_Call_Name_kw (ld_glob I hg hm ?_ hdb)⟩
  refine PySem.W.callWith_K (h₀ := X.base) I.ok.mod.kin T.kC (thn (ha.run pos pins s σ H _ I h) fun us s1 hu => ?_) he hpl
  obtain ⟨vs, H1, I1, r, l1, l2, q2⟩ := hu
  exact ⟨I1.kIn, run_xmk (ws := []) (zs := []) T iC tI F hr hb hx I1 r .nil l1 rfl l3 q2⟩
/-- no value -/
theorem pe_xmk0 (T : XC X.K C) (iC : PySem.W.findIn X.K (.ref C) "__init__" = some (some (.ref fI))) (tI : PySem.W.isFn X.K (.ref fI) = true) (F : FnOk X.prog X.w X.K X.mg X.base CX k fI fd ps sp) (hr : Room (k + 1) X.A) (hg : Gl X x) (hm : X.mg x = some (.ref C)) (hb : KBn X.K fd ps 1 [] g gV) (hx : Passes CX X (fun _ _ _ => False))
    (hdb : (x == ("__debug__" : Str)) = false := by decide) : PE X (.Call (.Name x p) [] [] pos) (tXmk C 0 0 sp gV tNil tNil) := by
  refine ⟨fun pins s σ H Q I h => wpAny_Call_Name_kw (ld_glob I hg hm ?_ hdb)⟩
  obtain ⟨_, _, q2⟩ := h
  exact PySem.W.callWith_K0 I.kIn T.kC (run_xmk (us := []) (ws := []) (zs := []) T iC tI F hr hb hx I .nil .nil rfl rfl (by decide) q2)
end
/-- e.f, e such an exception -/
def tXat (K : PySem.W.Frag) (f : Str) (te : TE) : TE := fun σ H Q => te σ H fun x H1 => ∃ (a C d : Addr) (fs : List (Str × V)) (v : V), x = .ref a ∧ XC K C ∧ PySem.W.findIn K (.ref C) f = some none ∧ H1 a = some (exo a C (some d)) ∧ H1 d = some (exd d fs) ∧ fs.lookup f = some v ∧ Q v H1
theorem inst_exo {X : Cx} {pins : List (Addr × Obj)} {σ : St} {H : Hp} {s : Shared} {a C d : Addr} {fs : List (Str × V)} (I : Inv X pins σ H s) (ea : H a = some (exo a C (some d))) (ed : H d = some (exd d fs)) :
    ∃ (ox od : Obj) (mA : Str → Option Value), PySem.W.InstAt s.heap a ox C (some od) ∧ (∀ f, RelO (fs.lookup f) (mA f)) ∧ ∀ f, PySem.W.lookIn f od = some (mA f) := by
  obtain ⟨t1, ho⟩ := exo_at I.hok ea
  obtain ⟨mA, hns, hr⟩ := exd_at I.hok ed
  obtain ⟨od, hod, hl⟩ := lookIn_ns hns
  exact ⟨_, od, mA, ⟨ho, rfl, rfl, hod⟩, hr, hl⟩
theorem pe_xat {X : Cx} {e : Expr} {te : TE} {pos : Pos} {f : Str} (he : PE X e te) (hb : attributeBase e f X.env (eval e X.env) = eval e X.env := by rfl) : PE X (.Attribute e f pos) (tXat X.K f te) := by
  refine ⟨fun pins s σ H Q I h => attr_of hb (thn (he.run pins s σ H _ I h) fun u s1 hh => ?_)⟩
  obtain ⟨x, H1, I1, rx, a, C, d, fs, v, ex, T, hno, ea, ed, l, q⟩ := hh
  subst ex
  obtain rfl : u = Value.ref a := rx
  obtain ⟨ox, od, mA, J, hr, hl⟩ := inst_exo I1 ea ed
  obtain ⟨u, hu, ru⟩ := RelO.some_of (v := v) (o := mA f) (by rw [← l]; exact hr f)
  exact HandSPX.exc_get I1.kIn J T.ga T.gg T.ex (PySem.W.findObj_own T.hd hno rfl (by rw [hl, hu])) (handed_of ru) ⟨v, H1, I1.tok _, ru, q⟩
/-- isinstance(e, c), e such an exception -/
def rXis (K : PySem.W.Frag) : List V → Hp → VK → Prop := fun xs H Q => ∃ (a C d : Addr) (fs : List (Str × V)) (c : V) (cv : Value) (b : Bool), xs = [.ref a, c] ∧ XC K C ∧ H a = some (exo a C (some d)) ∧ H d = some (exd d fs) ∧ ClsV c cv ∧ PySem.W.kitOne K (.ref C) cv = some b ∧ Q (.bl b) H
theorem call_xis {X : Cx} : CallR X (.builtin "isinstance") (rXis X.K) := by
  intro pins s σ H xs us Q I r h
  obtain ⟨a, C, d, fs, c, cv, b, rfl, T, ea, ed, hc, e, q⟩ := h
  obtain ⟨u1, u2, rfl, r1, r2⟩ := vals2 r
  obtain rfl := hc.eq r2
  obtain rfl : u1 = Value.ref a := r1
  obtain ⟨ox, od, mA, J, _, _⟩ := inst_exo I ea ed
  exact PySem.W.kia_one (PySem.W.kitx_exc T.cl T.ga T.gg T.ex T.ha T.hn T.ht T.hm) I.kIn J e (fun z => nomatch z) fun tk => ⟨.bl b, H, I.tok tk, rfl, q⟩
end L2
end
section
set_option maxHeartbeats 4000000
namespace Kz
open PySem PySem.Spec PyProof.Rows L2
/-- an error class: its name, its base (0 CreepError, 1 NoAnswer, 2 Missing, 3 IndexError), its parameters, its place in the text, its address -/
structure CD where
  nm : Str
  bs : Nat
  ps : List Str
  ix : Nat
  C : Addr
def cdT : List CD := [
  ⟨"InvalidNumber", 0, ["value"], 2, 44⟩,
  ⟨"InvalidFraction", 0, ["at"], 3, 63⟩,
  ⟨"InvalidOrder", 0, ["value"], 4, 82⟩,
  ⟨"OrderTooLow", 0, ["have", "wanted"], 5, 101⟩,
  ⟨"UnlikeOrders", 0, ["one", "other"], 6, 120⟩,
  ⟨"InvalidPlace", 0, ["value"], 7, 139⟩,
  ⟨"InvalidPower", 0, ["value"], 8, 158⟩,
  ⟨"InvalidTimes", 0, ["value"], 9, 177⟩,
  ⟨"InvalidText", 0, ["at"], 10, 196⟩,
  ⟨"InvalidTable", 0, ["at"], 11, 215⟩,
  ⟨"CantTurn", 0, [], 12, 234⟩,
  ⟨"NotSlow", 0, ["first"], 13, 253⟩,
  ⟨"IsStill", 0, ["have"], 14, 272⟩,
  ⟨"NotOne", 0, ["first"], 15, 291⟩,
  ⟨"NotUnit", 0, ["line", "place"], 16, 310⟩,
  ⟨"NotATable", 0, ["line", "place"], 17, 329⟩,
  ⟨"NotAFlow", 0, ["place"], 18, 348⟩,
  ⟨"InvalidFlat", 0, ["value"], 19, 367⟩,
  ⟨"NotAClock", 0, [], 20, 386⟩,
  ⟨"UnlikeFlats", 0, ["one", "other"], 21, 405⟩,
  ⟨"NotAlike", 0, ["paper"], 22, 424⟩,
  ⟨"InvalidLead", 0, ["value"], 23, 443⟩,
  ⟨"InvalidTime", 0, ["value"], 24, 462⟩,
  ⟨"InvalidTop", 0, ["at"], 25, 481⟩,
  ⟨"NotInFamily", 0, ["place"], 26, 500⟩,
  ⟨"NoFlips", 0, [], 27, 519⟩,
  ⟨"NotFolded", 0, ["value"], 28, 538⟩,
  ⟨"InvalidFar", 0, ["at"], 29, 557⟩,
  ⟨"NotFar", 0, ["place"], 30, 576⟩,
  ⟨"NotLed", 0, ["first"], 31, 595⟩,
  ⟨"NotInCrew", 0, ["paper"], 32, 614⟩,
  ⟨"InCrew", 0, [], 33, 633⟩,
  ⟨"InvalidName", 0, ["value"], 34, 652⟩,
  ⟨"InvalidNames", 0, ["at"], 35, 671⟩,
  ⟨"InvalidWord", 0, ["at"], 36, 690⟩,
  ⟨"SameName", 0, ["name"], 37, 709⟩,
  ⟨"NotOpen", 0, [], 38, 728⟩,
  ⟨"InvalidStep", 0, [], 39, 747⟩,
  ⟨"InvalidPaper", 0, ["at"], 40, 766⟩,
  ⟨"InvalidDeed", 0, ["at"], 41, 785⟩,
  ⟨"InvalidLine", 0, ["line"], 42, 804⟩,
  ⟨"TooMany", 0, ["most"], 43, 823⟩,
  ⟨"Solved", 0, [], 44, 842⟩,
  ⟨"DividedByZero", 1, [], 46, 874⟩,
  ⟨"Tied", 1, ["ties"], 47, 893⟩,
  ⟨"NotSquare", 1, ["equations", "unknowns"], 48, 912⟩,
  ⟨"UnknownName", 2, ["name"], 50, 944⟩,
  ⟨"UnknownStep", 2, ["at"], 51, 963⟩,
  ⟨"NothingLeft", 3, [], 52, 982⟩
]
/-- a def of the law: its name, its place in the text, its address -/
structure LD where
  nm : Str
  ix : Nat
  f : Addr
def ldT : List LD := [
  ⟨"_law_bag", 54, 992⟩,
  ⟨"_law_draw", 55, 999⟩,
  ⟨"_law_of", 56, 1006⟩,
  ⟨"_law_like", 57, 1011⟩,
  ⟨"_law_first", 58, 1018⟩,
  ⟨"_law_second", 59, 1025⟩,
  ⟨"_law_both", 60, 1032⟩,
  ⟨"_law_bare", 61, 1039⟩,
  ⟨"_law_told", 62, 1046⟩,
  ⟨"_law_kinds", 63, 1051⟩,
  ⟨"_law_kinds_too", 64, 1056⟩,
  ⟨"_law_words", 65, 1063⟩,
  ⟨"_law_due", 66, 1070⟩,
  ⟨"_law_thing", 67, 1075⟩,
  ⟨"_law_copied", 68, 1080⟩,
  ⟨"_law_made", 69, 1087⟩,
  ⟨"_law_so", 70, 1092⟩,
  ⟨"law", 71, 1099⟩
]
def top (i : Nat) : Stmt := PySem.Challenge.pw_creepclocks_k00_errors_by_themselves.main.body.getD i (.Pass ⟨0, 0, 0, 0⟩)
def initS (d : CD) : Stmt := inClass (top d.ix) 0
def gp (x : Str) (a : Option Addr) : Option Str × Option Addr := (some x, a)
def glT : List (Option Str × Option Addr) := [
  gp "__name__" (none),
  gp "__doc__" (none),
  gp "__package__" (none),
  gp "__loader__" (none),
  gp "__spec__" (none),
  gp "__annotations__" (some 6),
  gp "__builtins__" (some 4),
  gp "__file__" (none),
  gp "__cached__" (none),
  gp "CreepError" (some 24),
  gp "InvalidNumber" (some 44),
  gp "InvalidFraction" (some 63),
  gp "InvalidOrder" (some 82),
  gp "OrderTooLow" (some 101),
  gp "UnlikeOrders" (some 120),
  gp "InvalidPlace" (some 139),
  gp "InvalidPower" (some 158),
  gp "InvalidTimes" (some 177),
  gp "InvalidText" (some 196),
  gp "InvalidTable" (some 215),
  gp "CantTurn" (some 234),
  gp "NotSlow" (some 253),
  gp "IsStill" (some 272),
  gp "NotOne" (some 291),
  gp "NotUnit" (some 310),
  gp "NotATable" (some 329),
  gp "NotAFlow" (some 348),
  gp "InvalidFlat" (some 367),
  gp "NotAClock" (some 386),
  gp "UnlikeFlats" (some 405),
  gp "NotAlike" (some 424),
  gp "InvalidLead" (some 443),
  gp "InvalidTime" (some 462),
  gp "InvalidTop" (some 481),
  gp "NotInFamily" (some 500),
  gp "NoFlips" (some 519),
  gp "NotFolded" (some 538),
  gp "InvalidFar" (some 557),
  gp "NotFar" (some 576),
  gp "NotLed" (some 595),
  gp "NotInCrew" (some 614),
  gp "InCrew" (some 633),
  gp "InvalidName" (some 652),
  gp "InvalidNames" (some 671),
  gp "InvalidWord" (some 690),
  gp "SameName" (some 709),
  gp "NotOpen" (some 728),
  gp "InvalidStep" (some 747),
  gp "InvalidPaper" (some 766),
  gp "InvalidDeed" (some 785),
  gp "InvalidLine" (some 804),
  gp "TooMany" (some 823),
  gp "Solved" (some 842),
  gp "NoAnswer" (some 854),
  gp "DividedByZero" (some 874),
  gp "Tied" (some 893),
  gp "NotSquare" (some 912),
  gp "Missing" (some 924),
  gp "UnknownName" (some 944),
  gp "UnknownStep" (some 963),
  gp "NothingLeft" (some 982),
  gp "_law_bag" (some 992),
  gp "_law_draw" (some 999),
  gp "_law_of" (some 1006),
  gp "_law_like" (some 1011),
  gp "_law_first" (some 1018),
  gp "_law_second" (some 1025),
  gp "_law_both" (some 1032),
  gp "_law_bare" (some 1039),
  gp "_law_told" (some 1046),
  gp "_law_kinds" (some 1051),
  gp "_law_kinds_too" (some 1056),
  gp "_law_words" (some 1063),
  gp "_law_due" (some 1070),
  gp "_law_thing" (some 1075),
  gp "_law_copied" (some 1080),
  gp "_law_made" (some 1087),
  gp "_law_so" (some 1092),
  gp "law" (some 1099)
]
def mbT : Nat → List Value
  | 0 => [.type "ValueError", .type "Exception", .type "BaseException", .type "object"]
  | 1 => [.type "ArithmeticError", .type "Exception", .type "BaseException", .type "object"]
  | 2 => [.type "LookupError", .type "Exception", .type "BaseException", .type "object"]
  | _ => [.type "IndexError", .type "LookupError", .type "Exception", .type "BaseException", .type "object"]
def newT : Nat → String
  | 0 => "ValueError.__new__"
  | 1 => "ArithmeticError.__new__"
  | 2 => "LookupError.__new__"
  | _ => "IndexError.__new__"
def obA : Nat → Addr
  | 0 => 24
  | 1 => 854
  | _ => 924
/-- the own base -/
def obT : Nat → List Value
  | 3 => []
  | k => [.ref (obA k)]
/-! what is looked at -/
abbrev Lk := Addr → Option Obj
def keyS (v : Value) : Option Str := match v with
  | .str x _ => some x
  | _ => none
def valA (v : Value) : Option Addr := match v with
  | .ref a => some a
  | _ => none
def dO (g : Lk) (a : Addr) : Option (List (Option Str × Option Addr)) := match g a with
  | some ⟨_, _, .dict es _, _⟩ => some (es.toList.map fun e => (keyS e.key, valA e.val))
  | _ => none
def sl4 (sl : Array (Option Value)) : Option String := match sl.toList with
  | [_, _, _, _, some (.builtin n), _] => some n
  | _ => none
abbrev CV := Option (String × List Value × Addr × Bool × Bool × Option String)
def cO (g : Lk) (a : Addr) : CV := match g a with
  | some ⟨.type t, _, .cls cd, sl⟩ => some (t, cd.mro, cd.ns, cd.hasDict, cd.hasDel, sl4 sl)
  | _ => none
abbrev FV := Option (String × Str × Str × Arguments × FuncBody × Scope × Addr × List (Str × Addr) × Addr × Value × Option Addr)
def fO (g : Lk) (a : Addr) : FV := match g a with
  | some ⟨.type t, _, .func fd, _⟩ => some (t, fd.name, fd.qualname, fd.params, fd.body, fd.scope, fd.globals, fd.closure, fd.builtins, fd.defaults, valA fd.code)
  | _ => none
def qO (g : Lk) (a : Addr) : Option Str := match g a with
  | some ⟨_, _, .fields vs, _⟩ => (match vs.toList with
    | _ :: .str n _ :: _ => some n
    | _ => none)
  | _ => none
def qual (d : CD) : Str := d.nm ++ ".__init__"
def nsT (d : CD) : List (Option Str × Option Addr) := gp "__module__" none :: gp "__firstlineno__" none :: gp "__init__" (some (d.C - 3)) :: gp "__static_attributes__" (some (d.C - 2)) :: match d.bs with
  | 3 => [gp "__weakref__" (some (d.C + 1)), gp "__doc__" none]
  | _ => [gp "__doc__" none]
abbrev KV1 := CV × Option (List (Option Str × Option Addr)) × FV × Option Str
def k1O (g : Lk) (d : CD) : KV1 := (cO g d.C, dO g (d.C - 1), fO g (d.C - 3), qO g (d.C - 4))
def k1V (d : CD) : KV1 := (some ("type", .ref d.C :: (obT d.bs ++ mbT d.bs), d.C - 1, true, false, some (newT d.bs)),
  some (nsT d),
  some ("function", "__init__", qual d, defArgs (initS d), .stmts (defBody (initS d)), defScope (initS d), mainGlobals, [], builtinsNs, .none, some (d.C - 4)), some (qual d))
def b1O (g : Lk) (k : Nat) := (cO g (obA k), dO g (obA k - 1))
def b1V (k : Nat) : CV × Option (List (Option Str × Option Addr)) := (some ("type", .ref (obA k) :: mbT k, obA k - 1, true, false, some (newT k)),
  some [gp "__module__" none, gp "__firstlineno__" none, gp "__static_attributes__" (some (obA k - 2)), gp "__weakref__" (some (obA k + 1)), gp "__doc__" none])
def l1O (g : Lk) (d : LD) := (fO g d.f, qO g (d.f - 1))
def l1V (d : LD) : FV × Option Str := (some ("function", d.nm, d.nm, defArgs (top d.ix), .stmts (defBody (top d.ix)), defScope (top d.ix), mainGlobals, [], builtinsNs, .none, some (d.f - 1)), some d.nm)
abbrev ObV := Option (List (Option Str × Option Addr)) × List KV1 × List (CV × Option (List (Option Str × Option Addr))) × List (FV × Option Str)
def obsP (g : Lk) : ObV := (dO g mainGlobals, cdT.map (k1O g), [0, 1, 2].map (b1O g), ldT.map (l1O g))
def valP : ObV := (some glT, cdT.map k1V, [0, 1, 2].map b1V, ldT.map l1V)
theorem frG_all {h : Heap} : ∀ (n a : Nat), a < n → (He.frG h.get? ((List.range n).reverse)).lookup a = h.get? a := by
  intro n
  induction n with
  | zero => intro a ha; omega
  | succ n ih =>
    intro a ha
    rw [List.range_succ, List.reverse_append]
    show (He.frG h.get? (n :: (List.range n).reverse)).lookup a = h.get? a
    unfold He.frG
    rw [List.filterMap_cons]
    have ih' : a < n → (List.filterMap (fun a => (h.get? a).map fun o => (a, o)) (List.range n).reverse).lookup a = h.get? a := ih a
    by_cases e : a = n
    · subst e
      cases q : h.get? a with
      | some o => simp [List.lookup]
      | none =>
        simp only [Option.map_none]
        cases z : (List.filterMap (fun a => (h.get? a).map fun o => (a, o)) (List.range a).reverse).lookup a with
        | none => rfl
        | some o =>
          have y : h.get? a = some o := He.frG_at (g := h.get?) _ z
          rw [q] at y
          cases y
    · have lt : a < n := by omega
      cases q : h.get? n with
      | none => simpa using ih' lt
      | some o =>
        have en : (a == n) = false := by simpa using e
        simp only [Option.map_some]
        show (match a == n with | true => some o | false => (List.filterMap (fun a => (h.get? a).map fun o => (a, o)) (List.range n).reverse).lookup a) = _
        rw [en]
        exact ih' lt
def allK (h : Heap) : PySem.W.Frag := He.frG h.get? ((List.range h.objs.size).reverse)
theorem allK_look {h : Heap} : (fun a => (allK h).lookup a) = h.get? := by
  funext a
  by_cases lt : a < h.objs.size
  · exact frG_all _ _ lt
  · have hn : h.get? a = none := Heap.get?_none_of_le (Nat.le_of_not_lt lt)
    rw [hn]
    cases z : (allK h).lookup a with
    | none => rfl
    | some o =>
      have y : h.get? a = some o := He.frG_at (g := h.get?) _ z
      rw [hn] at y
      cases y
def SaysP (K : PySem.W.Frag) : Prop := obsP (fun a => K.lookup a) = valP
def hookP : PySem.W.Hook where
  α := ObV
  obs := fun s => obsP s.heap.get?
  val := fun _ => valP
  says := fun _ h => ∃ K : PySem.W.Frag, K.In h ∧ SaysP K
  of := fun _ s e => ⟨allK s.heap, He.frG_in, by
    have z : (fun a => (allK s.heap).lookup a) = s.heap.get? := allK_look
    unfold SaysP
    rw [z]
    exact e⟩
  keeps := fun _ _ _ ⟨K, hK, c⟩ k => ⟨K, PySem.W.Frag.In.keeps hK k, c⟩
end Kz
end
section
set_option maxHeartbeats 0
namespace Kz
open PySem PySem.Spec PyProof.Rows L2
abbrev R : PySem.W.OpenRow := PySem.W.OpenLaw.row PySem.Challenge.rw_creepclocks_k00_errors_by_themselves
def names0 : List PySem.Str := ["CreepError", "InvalidNumber", "InvalidFraction", "InvalidOrder", "OrderTooLow", "UnlikeOrders", "InvalidPlace", "InvalidPower", "InvalidTimes", "InvalidText", "InvalidTable", "CantTurn", "NotSlow", "IsStill", "NotOne", "NotUnit", "NotATable", "NotAFlow", "InvalidFlat", "NotAClock", "UnlikeFlats", "NotAlike", "InvalidLead", "InvalidTime", "InvalidTop", "NotInFamily", "NoFlips", "NotFolded", "InvalidFar", "NotFar"]
def names1 : List PySem.Str := ["NotLed", "NotInCrew", "InCrew", "InvalidName", "InvalidNames", "InvalidWord", "SameName", "NotOpen", "InvalidStep", "InvalidPaper", "InvalidDeed", "InvalidLine", "TooMany", "Solved", "NoAnswer", "DividedByZero", "Tied", "NotSquare", "Missing", "UnknownName", "UnknownStep", "NothingLeft", "_law_bag", "_law_draw", "_law_of", "_law_like", "_law_first", "_law_second", "_law_both", "_law_bare"]
def names2 : List PySem.Str := ["_law_told", "_law_kinds", "_law_kinds_too", "_law_words", "_law_due", "_law_thing", "_law_copied", "_law_made", "_law_so"]
def names : List PySem.Str := names0 ++ names1 ++ names2
abbrev hk : PySem.W.Hook := hookP
def ob (s : PySem.W.SharedT) : ObV := obsP (HandSHeadRun.getT s)
theorem ob_eq (s : PySem.W.SharedT) : ob s = hk.obs s.abs := by
  have e : HandSHeadRun.getT s = s.abs.heap.get? := funext fun a => HandSHeadRun.getT_eq s a
  unfold ob
  rw [e]
  rfl
noncomputable abbrev endK (w : World) (os : OsState) := HandSHeadRun.endF (HandSHeadRun.stepQ (HandSHeadRun.denQ HandSHeadRun.tabQ) R.prog w) 20000 R.prog w os
abbrev qv := PySem.W.view R.prog [71]
theorem run1 (w : World) (os : OsState) : (endK w os).map (fun s => (HandSHeadRun.looksF R.prog (PySem.W.boot_heap w.params) s.abs, ob s)) = some (true, valP) := by
  kernel_rfl
theorem run2 (w : World) (os : OsState) : (endK w os).map (fun s => HandSHeadRun.seenQ qv names (importedModules R.prog.main.body) (fun s => PySem.W.xlAt qv [] s && PySem.W.recOk R.toRowW.records s) s.abs) = some (PySem.W.openGood qv names) := by
  kernel_rfl
theorem run (w : World) : HandSHeadRun.RunEq R qv hk ob 20000 names w := by
  intro os
  obtain ⟨s, e1, e2⟩ := Option.map_eq_some_iff.mp (run1 w os)
  have e3 := run2 w os
  show (endK w os).map _ = _
  rw [e1] at e3 ⊢
  have e4 := Option.some.inj e3
  have e5 := (Prod.mk.inj e2).1
  have e6 := (Prod.mk.inj e2).2
  show some (HandSHeadRun.looksF R.prog (PySem.W.boot_heap w.params) s.abs, HandSHeadRun.seenQ qv names (importedModules R.prog.main.body) (fun s => PySem.W.xlAt qv [] s && PySem.W.recOk R.toRowW.records s) s.abs, ob s) = _
  rw [e5, e6]
  exact congrArg some (congrArg (Prod.mk true) (congrArg (fun z => (z, valP)) e4))
end Kz
end
section
set_option maxHeartbeats 4000000
namespace Kz
open PySem PySem.Spec PyProof.Rows L2
/-! ### what the look says, by names -/
section
variable {K : PySem.W.Frag}
theorem says_glob (c : SaysP K) : dO (fun a => K.lookup a) mainGlobals = some glT := congrArg (fun z : ObV => z.1) c
theorem says_cls (c : SaysP K) {d : CD} (hd : d ∈ cdT) : k1O (fun a => K.lookup a) d = k1V d :=
  List.map_inj_left.mp (show cdT.map (k1O fun a => K.lookup a) = cdT.map k1V from congrArg (fun z : ObV => z.2.1) c) d hd
theorem says_base (c : SaysP K) {k : Nat} (hk : k ∈ [0, 1, 2]) : b1O (fun a => K.lookup a) k = b1V k :=
  List.map_inj_left.mp (show [0, 1, 2].map (b1O fun a => K.lookup a) = [0, 1, 2].map b1V from congrArg (fun z : ObV => z.2.2.1) c) k hk
theorem says_fn (c : SaysP K) {d : LD} (hd : d ∈ ldT) : l1O (fun a => K.lookup a) d = l1V d :=
  List.map_inj_left.mp (show ldT.map (l1O fun a => K.lookup a) = ldT.map l1V from congrArg (fun z : ObV => z.2.2.2) c) d hd
def seekD (x : Str) : List (Option Str × Option Addr) → Option (Option Addr)
  | [] => none
  | (some y, a) :: r => if y = x then some a else seekD x r
  | (none, _) :: r => seekD x r
def allS (l : List (Option Str × Option Addr)) : Bool := l.all fun p => p.1.isSome
theorem isStr_key {e : DictEntry} {x : Str} : e.key.isStr x = true ↔ keyS e.key = some x := by
  cases h : e.key with
  | str y t =>
    show (y == x) = true ↔ some y = some x
    simp
  | _ => simp [Value.isStr, keyS]
theorem dO_seek {x : Str} : ∀ {es : List DictEntry} {L : List (Option Str × Option Addr)}, es.map (fun e => (keyS e.key, valA e.val)) = L → allS L = true →
    (∀ a, seekD x L = some (some a) → (match es.find? (·.key.isStr x) with
      | some e => some (some e.val)
      | none => if es.any (·.refKey) then none else some none) = some (some (.ref a))) ∧
    (seekD x L = none → (match es.find? (·.key.isStr x) with
      | some e => some (some e.val)
      | none => if es.any (·.refKey) then none else some none) = some (none : Option Value))
  | [], L, h, ha => by
    cases h
    exact ⟨fun a z => (by cases z), fun _ => rfl⟩
  | e :: r, L, h, ha => by
    cases L with
    | nil => cases h
    | cons p L =>
      obtain ⟨hp, hL⟩ := List.cons.inj h
      have hk : p.1 = keyS e.key := by rw [← hp]
      have hv : p.2 = valA e.val := by rw [← hp]
      have hs : p.1.isSome = true ∧ allS L = true := by
        have z : (p.1.isSome && allS L) = true := ha
        exact Bool.and_eq_true_iff.mp z
      obtain ⟨k, a⟩ := p
      cases k with
      | none => cases hs.1
      | some y =>
        have ky : keyS e.key = some y := hk.symm
        have nr : e.refKey = false := by
          unfold DictEntry.refKey
          cases q : e.key with
          | ref b => rw [q] at ky; cases ky
          | _ => rfl
        have ih := dO_seek (x := x) hL hs.2
        by_cases c : y = x
        · subst c
          have t : e.key.isStr y = true := isStr_key.mpr ky
          refine ⟨fun b z => ?_, fun z => ?_⟩
          · have z1 : a = some b := by
              have z2 : (if y = y then some a else seekD y L) = some (some b) := z
              rw [if_pos rfl] at z2
              exact Option.some.inj z2
            have ve : e.val = .ref b := by
              rw [z1] at hv
              unfold valA at hv
              split at hv
              · rename_i q
                rw [q, Option.some.inj hv]
              · cases hv
            simp only [List.find?_cons, t]
            rw [ve]
          · have z2 : (if y = y then some a else seekD y L) = none := z
            rw [if_pos rfl] at z2
            cases z2
        · have t : e.key.isStr x = false := by
            cases q : e.key.isStr x with
            | false => rfl
            | true =>
              have z := isStr_key.mp q
              rw [ky] at z
              exact absurd (Option.some.inj z) c
          have sk : seekD x ((some y, a) :: L) = seekD x L := if_neg c
          rw [sk]
          simp only [List.find?_cons, t, List.any_cons, nr, Bool.false_or]
          exact ih
theorem ns_some {a : Addr} {L : List (Option Str × Option Addr)} {x : Str} {b : Addr} (h : dO (fun a => K.lookup a) a = some L) (hs : allS L = true) (e : seekD x L = some (some b)) : PySem.W.nsIn K a x = some (some (.ref b)) := by
  unfold dO at h
  unfold PySem.W.nsIn
  split at h
  · rename_i c d es n sl q
    have q' : K.lookup a = _ := q
    rw [q']
    exact (dO_seek (Option.some.inj h) hs).1 b e
  · cases h
theorem ns_none {a : Addr} {L : List (Option Str × Option Addr)} {x : Str} (h : dO (fun a => K.lookup a) a = some L) (hs : allS L = true) (e : seekD x L = none) : PySem.W.nsIn K a x = some none := by
  unfold dO at h
  unfold PySem.W.nsIn
  split at h
  · rename_i c d es n sl q
    have q' : K.lookup a = _ := q
    rw [q']
    exact (dO_seek (Option.some.inj h) hs).2 e
  · cases h
theorem cO_at {a : Addr} {t : String} {m : List Value} {ns : Addr} {hd hl : Bool} {s4 : Option String} (h : cO (fun a => K.lookup a) a = some (t, m, ns, hd, hl, s4)) :
    ∃ d cd sl, K.lookup a = some ⟨.type t, d, .cls cd, sl⟩ ∧ cd.mro = m ∧ cd.ns = ns ∧ cd.hasDict = hd ∧ cd.hasDel = hl ∧ sl4 sl = s4 := by
  unfold cO at h
  split at h
  · rename_i t' d cd sl q
    have z := Option.some.inj h
    simp only [Prod.mk.injEq] at z
    obtain ⟨rfl, z2, z3, z4, z5, z6⟩ := z
    exact ⟨d, cd, sl, q, z2, z3, z4, z5, z6⟩
  · cases h
/-- along built-in classes -/
def alongT (x : Str) : List Value → Option (Option Value)
  | [] => some none
  | .type n :: r => match PySem.fastBuiltinOwn n x with
    | some v => some (some v)
    | none => alongT x r
  | _ :: _ => none
theorem alongT_eq {x : Str} : ∀ {l : List Value} {r : Option (Option Value)}, alongT x l = r → r ≠ none → PySem.W.alongIn K x l = r
  | [], r, h, _ => h
  | .type n :: l, r, h, hr => by
    have h1 : (match PySem.fastBuiltinOwn n x with
      | some v => some (some v)
      | none => alongT x l) = r := h
    show (match PySem.W.ownIn K x (.type n) with
      | some (some v) => some (some v)
      | some none => PySem.W.alongIn K x l
      | none => none) = r
    show (match some (PySem.fastBuiltinOwn n x) with
      | some (some v) => some (some v)
      | some none => PySem.W.alongIn K x l
      | none => none) = r
    cases q : PySem.fastBuiltinOwn n x with
    | some v =>
      rw [q] at h1
      exact h1
    | none =>
      rw [q] at h1
      exact alongT_eq h1 hr
  | .none :: l, r, h, hr => absurd h.symm hr
  | .ellipsis :: l, r, h, hr => absurd h.symm hr
  | .notImplemented :: l, r, h, hr => absurd h.symm hr
  | .bool _ :: l, r, h, hr => absurd h.symm hr
  | .int _ _ :: l, r, h, hr => absurd h.symm hr
  | .float _ _ :: l, r, h, hr => absurd h.symm hr
  | .str _ _ :: l, r, h, hr => absurd h.symm hr
  | .bytes _ _ :: l, r, h, hr => absurd h.symm hr
  | .ref _ :: l, r, h, hr => absurd h.symm hr
  | .builtin _ :: l, r, h, hr => absurd h.symm hr

/-! ### the classes -/
theorem own_ref {a : Addr} {x : Str} {t dd : _} {cd : ClassData} {sl : _} (e : K.lookup a = some ⟨t, dd, .cls cd, sl⟩) : PySem.W.ownIn K x (.ref a) = PySem.W.nsIn K cd.ns x := by
  show (match K.lookup a with
    | some ⟨_, _, .cls cd, _⟩ => PySem.W.nsIn K cd.ns x
    | _ => none) = _
  rw [e]
theorem find_ref {a : Addr} {x : Str} {t dd : _} {cd : ClassData} {sl : _} (e : K.lookup a = some ⟨t, dd, .cls cd, sl⟩) : PySem.W.findIn K (.ref a) x = PySem.W.alongIn K x cd.mro := by
  show (match K.lookup a with
    | some ⟨_, _, .cls cd, _⟩ => PySem.W.alongIn K x cd.mro
    | _ => none) = _
  rw [e]
def noneN : List Str := ["__getattr__", "code", "value", "at", "have", "wanted", "one", "other", "first", "line", "place", "paper", "name", "most", "ties", "equations", "unknowns"]
theorem chain_none : ∀ b ∈ [0, 1, 2, 3], ∀ x ∈ noneN, alongT x (mbT b) = some none := by decide +kernel
theorem chain_set : ∀ b ∈ [0, 1, 2, 3], alongT "__setattr__" (mbT b) = some (some (.builtin "object.__setattr__")) := by decide +kernel
theorem chain_get : ∀ b ∈ [0, 1, 2, 3], alongT "__getattribute__" (mbT b) = some (some (.builtin "BaseException.__getattribute__")) := by decide +kernel
theorem chain_cls : ∀ b ∈ [0, 1, 2, 3], alongT "__class__" (mbT b) = some (some (.builtin "object.__class__")) := by decide +kernel
theorem cd_bs : ∀ d ∈ cdT, d.bs ∈ [0, 1, 2, 3] := by decide +kernel
theorem cd_ps : ∀ d ∈ cdT, ∀ x ∈ d.ps, x ∈ noneN := by decide +kernel
theorem base_cls (c : SaysP K) {k : Nat} (hk : k ∈ [0, 1, 2]) {x : Str} (hx : seekD x [gp "__module__" none, gp "__firstlineno__" none, gp "__static_attributes__" (some (obA k - 2)), gp "__weakref__" (some (obA k + 1)), gp "__doc__" none] = none) :
    ∃ d cd sl, K.lookup (obA k) = some ⟨.type "type", d, .cls cd, sl⟩ ∧ cd.mro = .ref (obA k) :: mbT k ∧ PySem.W.ownIn K x (.ref (obA k)) = some none := by
  have h := says_base c hk
  obtain ⟨d, cd, sl, e1, e2, e3, _⟩ := cO_at (congrArg (fun z => z.1) h)
  refine ⟨d, cd, sl, e1, e2, ?_⟩
  have h2 : dO (fun a => K.lookup a) (obA k - 1) = _ := congrArg (fun z => z.2) h
  rw [own_ref e1, e3]
  exact ns_none h2 rfl hx
/-- along the own bases -/
theorem along_ob (c : SaysP K) {b : Nat} (hb : b ∈ [0, 1, 2, 3]) {x : Str} (hx : ∀ k, seekD x [gp "__module__" none, gp "__firstlineno__" none, gp "__static_attributes__" (some (obA k - 2)), gp "__weakref__" (some (obA k + 1)), gp "__doc__" none] = none)
    {r : Option (Option Value)} (h : alongT x (mbT b) = r) (hr : r ≠ none) : PySem.W.alongIn K x (obT b ++ mbT b) = r := by
  have z := alongT_eq (K := K) h hr
  have hb3 : b = 3 ∨ b ∈ [0, 1, 2] := by
    simp only [List.mem_cons, List.not_mem_nil, or_false] at hb ⊢
    omega
  rcases hb3 with rfl | hb3
  · exact z
  · obtain ⟨_, _, _, _, _, e⟩ := base_cls c hb3 (hx b)
    have eo : obT b = [.ref (obA b)] := by
      simp only [List.mem_cons, List.not_mem_nil, or_false] at hb3
      rcases hb3 with rfl | rfl | rfl <;> rfl
    rw [eo]
    show (match PySem.W.ownIn K x (.ref (obA b)) with
      | some (some v) => some (some v)
      | some none => PySem.W.alongIn K x (mbT b)
      | none => none) = r
    rw [e]
    exact z
theorem one_cls (c : SaysP K) {d : CD} (hd : d ∈ cdT) : ∃ dd cd sl, K.lookup d.C = some ⟨.type "type", dd, .cls cd, sl⟩ ∧ cd.mro = .ref d.C :: (obT d.bs ++ mbT d.bs) ∧ cd.hasDict = true ∧ cd.hasDel = false ∧ sl4 sl = some (newT d.bs) ∧
    ∀ x, PySem.W.ownIn K x (.ref d.C) = PySem.W.nsIn K (d.C - 1) x := by
  have h := says_cls c hd
  obtain ⟨dd, cd, sl, e1, e2, e3, e4, e5, e6⟩ := cO_at (congrArg (fun z => z.1) h)
  refine ⟨dd, cd, sl, e1, e2, e4, e5, e6, fun x => ?_⟩
  rw [own_ref e1, e3]
theorem one_ns (c : SaysP K) {d : CD} (hd : d ∈ cdT) : dO (fun a => K.lookup a) (d.C - 1) = some (nsT d) := congrArg (fun z => z.2.1) (says_cls c hd)
theorem ns_allS (d : CD) : allS (nsT d) = true := by
  unfold nsT
  split <;> rfl
theorem ns_seek {x : Str} (d : CD) (h1 : ("__module__" : Str) ≠ x) (h2 : ("__firstlineno__" : Str) ≠ x) (h3 : ("__init__" : Str) ≠ x) (h4 : ("__static_attributes__" : Str) ≠ x) (h5 : ("__weakref__" : Str) ≠ x) (h6 : ("__doc__" : Str) ≠ x) : seekD x (nsT d) = none := by
  unfold nsT gp
  split <;> simp only [seekD, if_neg h1, if_neg h2, if_neg h3, if_neg h4, if_neg h5, if_neg h6]
theorem find_eq (c : SaysP K) {d : CD} (hd : d ∈ cdT) (x : Str) : PySem.W.findIn K (.ref d.C) x = (match PySem.W.nsIn K (d.C - 1) x with
    | some (some v) => some (some v)
    | some none => PySem.W.alongIn K x (obT d.bs ++ mbT d.bs)
    | none => none) := by
  obtain ⟨dd, cd, sl, e1, e2, _, _, _, e6⟩ := one_cls c hd
  rw [find_ref e1, e2]
  show (match PySem.W.ownIn K x (.ref d.C) with
    | some (some v) => some (some v)
    | some none => PySem.W.alongIn K x (obT d.bs ++ mbT d.bs)
    | none => none) = _
  rw [e6]
theorem find_along (c : SaysP K) {d : CD} (hd : d ∈ cdT) {x : Str} (h1 : seekD x (nsT d) = none)
    (h2 : ∀ a b, seekD x [gp "__module__" none, gp "__firstlineno__" none, gp "__static_attributes__" a, gp "__weakref__" b, gp "__doc__" none] = none) {r : Option (Option Value)} (h : alongT x (mbT d.bs) = r) (hr : r ≠ none) : PySem.W.findIn K (.ref d.C) x = r := by
  rw [find_eq c hd, ns_none (one_ns c hd) (ns_allS d) h1]
  exact along_ob c (cd_bs d hd) (fun k => h2 _ _) h hr
theorem seek5 {x y1 y2 y3 y4 y5 : Str} {a1 a2 a3 a4 a5 : Option Addr} (h1 : y1 ≠ x) (h2 : y2 ≠ x) (h3 : y3 ≠ x) (h4 : y4 ≠ x) (h5 : y5 ≠ x) : seekD x [gp y1 a1, gp y2 a2, gp y3 a3, gp y4 a4, gp y5 a5] = none := by
  unfold gp
  simp only [seekD, if_neg h1, if_neg h2, if_neg h3, if_neg h4, if_neg h5]
theorem find_none (c : SaysP K) {d : CD} (hd : d ∈ cdT) {x : Str} (hx : x ∈ noneN) : PySem.W.findIn K (.ref d.C) x = some none := by
  have ne : ∀ x ∈ noneN, ("__module__" : Str) ≠ x ∧ ("__firstlineno__" : Str) ≠ x ∧ ("__init__" : Str) ≠ x ∧ ("__static_attributes__" : Str) ≠ x ∧ ("__weakref__" : Str) ≠ x ∧ ("__doc__" : Str) ≠ x := by decide +kernel
  obtain ⟨n1, n2, n3, n4, n5, n6⟩ := ne x hx
  exact find_along c hd (ns_seek d n1 n2 n3 n4 n5 n6) (fun a b => seek5 n1 n2 n4 n5 n6) (chain_none d.bs (cd_bs d hd) x hx) (by simp)
theorem find_init (c : SaysP K) {d : CD} (hd : d ∈ cdT) : PySem.W.findIn K (.ref d.C) "__init__" = some (some (.ref (d.C - 3))) := by
  rw [find_eq c hd, ns_some (b := d.C - 3) (one_ns c hd) (ns_allS d) (by rfl)]
theorem exb (b : Nat) (hb : b ∈ [0, 1, 2, 3]) : ∃ B iid, ExcBaseFacts B (newT b) iid (mbT b) ∧ StoreFacts B (mbT b) "object.__setattr__" "object" := by
  simp only [List.mem_cons, List.not_mem_nil, or_false] at hb
  rcases hb with rfl | rfl | rfl | rfl
  · exact ⟨_, _, F.excBase_ValueError, F.store_ValueError⟩
  · exact ⟨_, _, F.excBase_ArithmeticError, F.store_ArithmeticError⟩
  · exact ⟨_, _, F.excBase_LookupError, F.store_LookupError⟩
  · exact ⟨_, _, F.excBase_IndexError, F.store_IndexError⟩
theorem tail_ob {b : Nat} (hb : b ∈ [0, 1, 2, 3]) : PySem.W.excTail (mbT b) (obT b ++ mbT b) = true := by
  simp only [List.mem_cons, List.not_mem_nil, or_false] at hb
  rcases hb with rfl | rfl | rfl | rfl <;> decide +kernel
theorem mb_be : ∀ b ∈ [0, 1, 2, 3], (obT b ++ mbT b).contains (.type "BaseException") = true ∧ (obT b ++ mbT b).contains (.type "object") = true := by decide +kernel
theorem keep_cls {a : Addr} {dd : _} {cd : ClassData} {sl : _} (e : K.lookup a = some ⟨.type "type", dd, .cls cd, sl⟩) : PySem.W.keepIn K (.ref a) = true := by
  have hty : PySem.W.typeIn K (.ref a) = some (.type "type") := by
    show (K.lookup a).map (·.cls) = _
    rw [e]
    rfl
  show (match K.lookup a with
    | some ⟨_, _, .func _, _⟩ => true
    | some ⟨_, _, .cls _, _⟩ => PySem.W.specialIn K (.ref a) "__call__" == some (some (.builtin "type.__call__"))
    | _ => false) = true
  rw [e]
  show (PySem.W.specialIn K (.ref a) "__call__" == some (some (.builtin "type.__call__"))) = true
  unfold PySem.W.specialIn
  rw [hty]
  show (PySem.fastLookup "type" "__call__" == some (some (.builtin "type.__call__"))) = true
  decide +kernel
theorem xc_of (c : SaysP K) {d : CD} (hd : d ∈ cdT) : XC K d.C := by
  obtain ⟨dd, cd, sl, e1, e2, e3, e4, e5, e6⟩ := one_cls c hd
  obtain ⟨B, iid, FB, SF⟩ := exb d.bs (cd_bs d hd)
  have hb := cd_bs d hd
  have hcl : PySem.W.clsIn K d.C = some cd := by unfold PySem.W.clsIn; rw [e1]
  have hin : ∀ v, (obT d.bs ++ mbT d.bs).contains v = true → PySem.W.mroIn K d.C v = some true := fun v hv => by
    unfold PySem.W.mroIn
    rw [hcl, Option.bind_some, e2, if_neg (by simp), List.contains_cons, hv, Bool.or_true]
  have q1 : PySem.W.excInitIn K d.C (mbT d.bs) (newT d.bs) = true := by
    unfold PySem.W.excInitIn
    rw [e1]
    show (match cd.mro, sl.toList with
      | .ref C' :: bm, [_, _, _, _, some (.builtin n), _] => C' == d.C && n == newT d.bs && !cd.hasDel && PySem.W.excTail (mbT d.bs) bm
      | _, _ => false) = true
    unfold sl4 at e5
    split at e5
    · rename_i n _ hsl
      rw [e2, hsl, e4, Option.some.inj e5]
      simp [tail_ob hb]
    · cases e5
  have q2 : PySem.W.excOver K d.C (mbT d.bs) = true := by
    unfold PySem.W.excOver
    rw [hcl]
    show (match cd.mro with | .ref C' :: bm => C' == d.C && PySem.W.excTail (mbT d.bs) bm | _ => false) = true
    rw [e2]
    simp [tail_ob hb]
  exact {
    base := ⟨B, newT d.bs, iid, mbT d.bs, FB, SF, q1, q2⟩
    cl := by rw [hcl]; rfl
    hd := by unfold PySem.W.hasDictIn; rw [hcl]; exact e3
    sa := find_along c hd (ns_seek d (by decide) (by decide) (by decide) (by decide) (by decide) (by decide)) (fun a b => seek5 (by decide) (by decide) (by decide) (by decide) (by decide)) (chain_set d.bs hb) (by simp)
    ga := find_along c hd (ns_seek d (by decide) (by decide) (by decide) (by decide) (by decide) (by decide)) (fun a b => seek5 (by decide) (by decide) (by decide) (by decide) (by decide)) (chain_get d.bs hb) (by simp)
    gg := find_none c hd (by decide +kernel)
    ex := hin _ (mb_be d.bs hb).1
    ha := find_along c hd (ns_seek d (by decide) (by decide) (by decide) (by decide) (by decide) (by decide)) (fun a b => seek5 (by decide) (by decide) (by decide) (by decide) (by decide)) (chain_cls d.bs hb) (by simp)
    hn := by rfl
    ht := by rfl
    hm := hin _ (mb_be d.bs hb).2
    kC := keep_cls e1 }
end
end Kz
end
section
set_option maxHeartbeats 4000000
namespace Kz
open PySem PySem.Spec PyProof.Rows L2
section
variable {K : PySem.W.Frag}
theorem fun_of {f : Addr} {x q : Str} {st : Stmt} {cd : Addr} (h : fO (fun a => K.lookup a) f = some ("function", x, q, defArgs st, .stmts (defBody st), defScope st, mainGlobals, [], builtinsNs, .none, some cd)) (hq : qO (fun a => K.lookup a) cd = some q) :
    (∃ fd, Fun K x q st f fd) ∧ PySem.W.isFn K (.ref f) = true := by
  unfold fO at h
  split at h
  · rename_i t od fd osl lk
    have lk' : K.lookup f = _ := lk
    obtain ⟨n1, n2, n3, n4, n5, n6, n7, n8, n9, n10, n11, n12, n13, n14, n15⟩ := fd
    have z := Option.some.inj h
    simp only [Prod.mk.injEq] at z
    obtain ⟨y1, y2, y3, y4, y5, y6, y7, y8, y9, y10, y11⟩ := z
    subst y1 y2 y3 y4 y5 y6 y7 y8 y9 y10
    have hc : n13 = .ref cd := by
      unfold valA at y11
      split at y11
      · rename_i b
        rw [Option.some.inj y11]
      · cases y11
    have hcode : PySem.W.codeIn K n13 n2 = true := by
      rw [hc]
      unfold qO at hq
      show (match K.lookup cd with
        | some ⟨_, _, .fields vs, _⟩ => (match vs.toList with | _ :: .str n _ :: _ => n == n2 | _ => false)
        | _ => false) = true
      split at hq
      · rename_i q'
        have q2 : K.lookup cd = _ := q'
        rw [q2]
        split at hq
        · rename_i v n t r hv
          simp only [hv]
          show (n == n2) = true
          rw [Option.some.inj hq]
          simp
        · cases hq
      · cases hq
    refine ⟨⟨_, ⟨_, od, n9, n10, n11, n12, n13, n14, osl, rfl, lk', hcode⟩, ?_⟩, ?_⟩
    · show (match K.lookup f with
        | some ⟨_, _, .func _, _⟩ => true
        | some ⟨_, _, .cls _, _⟩ => PySem.W.specialIn K (.ref f) "__call__" == some (some (.builtin "type.__call__"))
        | _ => false) = true
      rw [lk']
    · show ((K.lookup f).map (·.cls) == some (.type "function")) = true
      rw [lk']
      rfl
  · cases h
theorem fun_init (c : SaysP K) {d : CD} (hd : d ∈ cdT) : (∃ fd, Fun K "__init__" (qual d) (initS d) (d.C - 3) fd) ∧ PySem.W.isFn K (.ref (d.C - 3)) = true :=
  fun_of (congrArg (fun z : KV1 => z.2.2.1) (says_cls c hd)) (congrArg (fun z : KV1 => z.2.2.2) (says_cls c hd))
theorem fun_law (c : SaysP K) {d : LD} (hd : d ∈ ldT) : ∃ fd, Fun K d.nm d.nm (top d.ix) d.f fd :=
  (fun_of (congrArg (fun z : FV × Option Str => z.1) (says_fn c hd)) (congrArg (fun z : FV × Option Str => z.2) (says_fn c hd))).1
theorem gl_allS : allS glT = true := by decide +kernel
theorem seek_cd : ∀ d ∈ cdT, seekD d.nm glT = some (some d.C) := by decide +kernel
theorem seek_ld : ∀ d ∈ ldT, seekD d.nm glT = some (some d.f) := by decide +kernel
theorem seek_ob : seekD "CreepError" glT = some (some (obA 0)) ∧ seekD "NoAnswer" glT = some (some (obA 1)) ∧ seekD "Missing" glT = some (some (obA 2)) := by decide +kernel
def freeN : List Str := ["isinstance", "len", "list", "tuple", "int", "range", "all", "zip", "bool", "str", "ValueError", "ArithmeticError", "ZeroDivisionError", "LookupError", "IndexError", "KeyError"]
theorem seek_free : ∀ x ∈ freeN, seekD x glT = none := by decide +kernel
section
variable {h : Heap} {mg : Str → Option Value}
theorem mg_cd (X : K.In h) (G : h.Ns mainGlobals mg) (c : SaysP K) {d : CD} (hd : d ∈ cdT) : mg d.nm = some (.ref d.C) := PySem.W.mg_of X G (ns_some (says_glob c) gl_allS (seek_cd d hd))
theorem mg_ld (X : K.In h) (G : h.Ns mainGlobals mg) (c : SaysP K) {d : LD} (hd : d ∈ ldT) : mg d.nm = some (.ref d.f) := PySem.W.mg_of X G (ns_some (says_glob c) gl_allS (seek_ld d hd))
theorem mg_ob (X : K.In h) (G : h.Ns mainGlobals mg) (c : SaysP K) : mg "CreepError" = some (.ref (obA 0)) ∧ mg "NoAnswer" = some (.ref (obA 1)) ∧ mg "Missing" = some (.ref (obA 2)) :=
  ⟨PySem.W.mg_of X G (ns_some (says_glob c) gl_allS seek_ob.1), PySem.W.mg_of X G (ns_some (says_glob c) gl_allS seek_ob.2.1), PySem.W.mg_of X G (ns_some (says_glob c) gl_allS seek_ob.2.2)⟩
theorem mg_free (X : K.In h) (G : h.Ns mainGlobals mg) (c : SaysP K) {x : Str} (hx : x ∈ freeN) : mg x = none := PySem.W.mg_none_of X G (ns_none (says_glob c) gl_allS (seek_free x hx))
end
/-! ### isinstance -/
def mroT (d : CD) : List Value := .ref d.C :: (obT d.bs ++ mbT d.bs)
theorem sub_is (c : SaysP K) {d : CD} (hd : d ∈ cdT) (v : Value) : PySem.W.subIn K (.ref d.C) v = some ((mroT d).contains v) := by
  obtain ⟨dd, cd, sl, e1, e2, _⟩ := one_cls c hd
  show PySem.W.mroIn K d.C v = _
  have hcl : PySem.W.clsIn K d.C = some cd := by
    show (match K.lookup d.C with
      | some ⟨_, _, .cls cd, _⟩ => some cd
      | _ => none) = _
    rw [e1]
  unfold PySem.W.mroIn
  rw [hcl, Option.bind_some, e2, if_neg (by simp)]
  rfl
theorem kit_is (c : SaysP K) {d : CD} (hd : d ∈ cdT) {v : Value} (h : PySem.W.kitCls K (.ref d.C) v = PySem.W.subIn K (.ref d.C) v) : PySem.W.kitOne K (.ref d.C) v = some ((mroT d).contains v) := by
  unfold PySem.W.kitOne
  by_cases e : (Value.ref d.C == v) = true
  · rw [if_pos e, ← beq_iff_eq.mp e]
    simp [mroT]
  · rw [if_neg e, h]
    exact sub_is c hd v
theorem kit_ask {a : Addr} {dd : _} {cd : ClassData} {sl : _} {t : Value} (e : K.lookup a = some ⟨.type "type", dd, .cls cd, sl⟩) : PySem.W.kitCls K t (.ref a) = PySem.W.subIn K t (.ref a) := by
  have h1 : PySem.W.clsIn K a = some cd := by
    show (match K.lookup a with
      | some ⟨_, _, .cls cd, _⟩ => some cd
      | _ => none) = _
    rw [e]
  have h2 : PySem.W.typeIn K (.ref a) = some (.type "type") := by
    show (K.lookup a).map (·.cls) = _
    rw [e]
    rfl
  show (if ((PySem.W.clsIn K a).isSome && PySem.W.typeIn K (.ref a) == some (.type "type")) = true then PySem.W.subIn K t (.ref a) else none) = _
  rw [h1, h2]
  rfl
theorem kit_cd (c : SaysP K) {d e : CD} (hd : d ∈ cdT) (he : e ∈ cdT) : PySem.W.kitOne K (.ref d.C) (.ref e.C) = some ((mroT d).contains (.ref e.C)) := by
  obtain ⟨_, _, _, e1, _⟩ := one_cls c he
  exact kit_is c hd (kit_ask e1)
theorem kit_ob (c : SaysP K) {d : CD} {k : Nat} (hd : d ∈ cdT) (hk : k ∈ [0, 1, 2]) : PySem.W.kitOne K (.ref d.C) (.ref (obA k)) = some ((mroT d).contains (.ref (obA k))) := by
  obtain ⟨_, _, _, e1, _⟩ := cO_at (congrArg (fun z => z.1) (says_base c hk))
  exact kit_is c hd (kit_ask e1)
theorem kit_bt (c : SaysP K) {d : CD} {T : String} (hd : d ∈ cdT) (hT : PySem.W.kitMeta T = true) : PySem.W.kitOne K (.ref d.C) (.type T) = some ((mroT d).contains (.type T)) := by
  refine kit_is c hd ?_
  show (if PySem.W.kitMeta T = true then PySem.W.subIn K (.ref d.C) (.type T) else none) = _
  rw [if_pos hT]
end
end Kz
end
section
set_option maxHeartbeats 4000000
namespace Kz
open PySem PySem.Spec PyProof.Rows L2
/-! ### the bag -/
def bagL (p : Addr) (i r sd c : Int) : List V := [.ref p, .int i, .int r, .int sd, .int c]
structure Bag (H : Hp) (B p : Addr) : Prop where
  ex : ∃ (ns : List Int) (i r sd c : Int), H B = some (.lst (bagL p i r sd c)) ∧ H p = some (.lst (ns.map V.int)) ∧ p ≠ B ∧ 0 ≤ i ∧ 0 ≤ r ∧ 0 ≤ sd ∧ sd < 2147483629
/-- all but the bag stands -/
def But (B : Addr) (H H' : Hp) : Prop := ∀ b o, b ≠ B → H b = some o → H' b = some o
theorem But.refl {B : Addr} {H : Hp} : But B H H := fun _ _ _ h => h
theorem But.trans {B : Addr} {H H1 H2 : Hp} (a : But B H H1) (b : But B H1 H2) : But B H H2 := fun x o n h => b x o n (a x o n h)
theorem But.new {B : Addr} {H : Hp} {p : Addr} {o : HO} (h : H p = none) : But B H (upd H p o) := fun b u _ q => by rw [upd_ne (ne_of_none q h)]; exact q
theorem But.same {B : Addr} {H H' : Hp} (h : Same H H') : But B H H' := fun b o _ q => h b o q
theorem Bag.same {H H' : Hp} {B p : Addr} (b : Bag H B p) (h : Same H H') : Bag H' B p := by
  obtain ⟨ns, i, r, sd, c, h1, h2, h3⟩ := b.ex
  exact ⟨ns, i, r, sd, c, h _ _ h1, h _ _ h2, h3⟩
def spDraw : Sp := fun vs H Q _ => ∃ (B p : Addr) (L : Int), vs = [.ref B, .int L] ∧ 0 < L ∧ L < 1073741824 ∧ Bag H B p ∧
  ∀ H' k, Bag H' B p → But B H H' → 0 ≤ k → k < L → Q (.int k) H'
section
variable {P : Program} {w : World} {K : PySem.W.Frag} {mg : Str → Option Value} {base : Heap} {f : Addr} {fd : FuncData}
theorem scDraw : FnScope ["_law_bag_here", "_law_limit", "_law_item", "_law_digit"] ["_law_bag_here", "_law_limit"] (defScope (top 55)) := ⟨rfl, rfl, rfl, by decide +kernel, rfl, by decide +kernel, by decide +kernel⟩
theorem ok_draw (F : Fun K "_law_draw" "_law_draw" (top 55) f fd) (ml : mg "len" = none) (mi : mg "int" = none) : FnOk P w K mg base CX0 1 f fd ["_law_bag_here", "_law_limit"] spDraw := by
  refine F.ok scDraw (fun vs H Q E h => ?_) (fun cdv A outer s H vs Q E hr h => ?_)
  · obtain ⟨B, p, L, rfl, _⟩ := h
    rfl
  obtain ⟨B, p, L, rfl, l1, l2, hb, q⟩ := h
  obtain ⟨ns, i, r, sd, c, hB, hp, np, i0, r0, s0, s1⟩ := hb.ex
  refine ⟨_, pss_cons (ps_asg (pe_op op_add (pe_ix ix_list (pv 0) pe_int (fun _ _ => rfl)) pe_int) (pg_sub (pv 0) pe_int set_list))
    (C8.pss_cut (ps_if (PW.pt (pw_and (pt_cmpR op_eq (pe_ix ix_list (pv 0) pe_int (fun _ _ => rfl)) pe_int (nomark _)) (pw_and1 (pt_cmpR op_lt (pe_ix ix_list (pv 0) pe_int (fun _ _ => rfl)) (pe_callB call_len_seq rfl ml PySem.boot_len (pa_cons (pe_ix ix_list (pv 0) pe_int (fun _ _ => rfl)) pa_nil)) (nomark _)))))
        (pss_cons (ps_set (i := 2) scDraw.nd rfl (Or.inl rfl) (pe_ix ix_list (pe_ix ix_list (pv 0) pe_int (fun _ _ => rfl)) (pe_ix ix_list (pv 0) pe_int (fun _ _ => rfl)) (fun _ _ => rfl)))
        (pss_cons (ps_asg (pe_op op_add (pe_ix ix_list (pv 0) pe_int (fun _ _ => rfl)) pe_int) (pg_sub (pv 0) pe_int set_list))
        (pss_one (ps_if (pt_cmpR op_ge (pv 2) (pe_op op_pow pe_int pe_int) (nomark _))
          (pss_one (ps_asg (pv 2) (pg_sub (pv 0) pe_int set_list)))
          (pss_one (ps_asg (pe_op op_mod (pe_callTy call_int1 rfl mi (by decide +kernel) (pa_cons (pe_op op_add (pe_op op_add (pe_op op_mul (pe_ix ix_list (pv 0) pe_int (fun _ _ => rfl)) pe_int) (pe_op op_mul (pe_op op_mod (pe_callTy call_int1 rfl mi (by decide +kernel) (pa_cons (pv 2) pa_nil)) pe_int) pe_int)) pe_int) pa_nil)) pe_int) (pg_sub (pv 0) pe_int set_list)))))))
        pss_nil)
    (pss_cons (ps_if (pt_cmpR op_gt (pe_ix ix_list (pv 0) pe_int (fun _ _ => rfl)) pe_int (nomark _))
        (pss_cons (ps_set (i := 3) scDraw.nd rfl (Or.inl rfl) (pe_op op_mod (pe_callTy call_int1 rfl mi (by decide +kernel) (pa_cons (pe_ix ix_list (pv 0) pe_int (fun _ _ => rfl)) pa_nil)) (pv 1)))
        (pss_cons (ps_asg (pe_op op_fdiv (pe_ix ix_list (pv 0) pe_int (fun _ _ => rfl)) (pv 1)) (pg_sub (pv 0) pe_int set_list))
        (pss_one (ps_ret (pv 3)))))
        pss_nil)
    (pss_cons (ps_asg (pe_op op_mod (pe_callTy call_int1 rfl mi (by decide +kernel) (pa_cons (pe_op op_add (pe_op op_add (pe_op op_pow (pe_ix ix_list (pv 0) pe_int (fun _ _ => rfl)) pe_int) (pe_op op_mul (pe_ix ix_list (pv 0) pe_int (fun _ _ => rfl)) pe_int)) pe_int) pa_nil)) pe_int) (pg_sub (pv 0) pe_int set_list))
    (pss_one (ps_ret (pe_op op_mod (pe_callTy call_int1 rfl mi (by decide +kernel) (pa_cons (pe_op op_add (pe_op op_fdiv (pe_ix ix_list (pv 0) pe_int (fun _ _ => rfl)) pe_int) (pe_op op_mul (pe_op op_mod (pe_callTy call_int1 rfl mi (by decide +kernel) (pa_cons (pe_ix ix_list (pv 0) pe_int (fun _ _ => rfl)) pa_nil)) pe_int) pe_int)) pa_nil)) (pv 1))))))), ?_⟩
  refine ⟨_, rfl, B, _, 4, _, rfl, rfl, SqL.of hB, rfl, c, 1, rfl, rfl, _, rfl, B, _, 4, 4, rfl, rfl, hB, rfl, ?_⟩
  have e1 : (bagL p i r sd c).set 4 (.int (c + 1)) = bagL p i r sd (c + 1) := rfl
  have hB1 : (upd H B (.lst ((bagL p i r sd c).set 4 (.int (c + 1))))) B = some (.lst (bagL p i r sd (c + 1))) := upd_same
  have hp1 : (upd H B (.lst ((bagL p i r sd c).set 4 (.int (c + 1))))) p = some (.lst (ns.map V.int)) := by rw [upd_ne np]; exact hp
  have b1 : But B H (upd H B (.lst ((bagL p i r sd c).set 4 (.int (c + 1))))) := fun b o n z => by rw [upd_ne n]; exact z
  generalize upd H B (.lst ((bagL p i r sd c).set 4 (.int (c + 1)))) = H1 at hB1 hp1 b1 ⊢
  refine ⟨fun σ' H' => ∃ (i r sd : Int) (v w : Option V), σ' = [some (.ref B), some (.int L), v, w] ∧ H' B = some (.lst (bagL p i r sd (c + 1))) ∧ H' p = some (.lst (ns.map V.int)) ∧ But B H H' ∧ 0 ≤ i ∧ 0 ≤ r ∧ 0 ≤ sd ∧ sd < 2147483629, ?_, ?_⟩
  · refine ⟨_, rfl, B, _, 2, _, rfl, rfl, SqL.of hB1, rfl, rfl, _, rfl, ?_⟩
    refine ite2 (fun _ => ?_) (fun _ => iteF ⟨i, r, sd, none, none, rfl, hB1, hp1, b1, i0, r0, s0, s1⟩)
    refine ⟨_, rfl, B, _, 1, _, rfl, rfl, SqL.of hB1, rfl, _, rfl, B, _, 0, _, rfl, rfl, SqL.of hB1, rfl, p, _, rfl, .inl (SqL.of hp1), i, _, rfl, rfl, _, rfl, ?_⟩
    refine ite2 (fun c1 => ?_) (fun _ => ⟨i, r, sd, none, none, rfl, hB1, hp1, b1, i0, r0, s0, s1⟩)
    have c2 : i < (((ns.map V.int).length : Nat) : Int) := of_decide_eq_true c1
    rw [List.length_map] at c2
    have hz : (ns.map V.int)[i.toNat]? = some (.int (ns[i.toNat]'(by omega))) := by rw [List.getElem?_map, List.getElem?_eq_getElem (by omega)]; rfl
    generalize ns[i.toNat]'(by omega) = z at hz
    have ha : atI (ns.map V.int) i = some (.int z) := at_of (by omega) hz
    refine ⟨_, rfl, B, _, 0, _, rfl, rfl, SqL.of hB1, rfl, _, rfl, B, _, 1, _, rfl, rfl, SqL.of hB1, rfl, p, _, i, _, rfl, rfl, SqL.of hp1, ha, ?_⟩
    refine ⟨_, rfl, B, _, 1, _, rfl, rfl, SqL.of hB1, rfl, i, 1, rfl, rfl, _, rfl, B, _, 1, 1, rfl, rfl, hB1, rfl, ?_⟩
    have hB2 : (upd H1 B (.lst ((bagL p i r sd (c + 1)).set 1 (.int (i + 1))))) B = some (.lst (bagL p (i + 1) r sd (c + 1))) := upd_same
    have hp2 : (upd H1 B (.lst ((bagL p i r sd (c + 1)).set 1 (.int (i + 1))))) p = some (.lst (ns.map V.int)) := by rw [upd_ne np]; exact hp1
    have b2 : But B H (upd H1 B (.lst ((bagL p i r sd (c + 1)).set 1 (.int (i + 1))))) := b1.trans fun b o n z => by rw [upd_ne n]; exact z
    generalize upd H1 B (.lst ((bagL p i r sd (c + 1)).set 1 (.int (i + 1)))) = H2 at hB2 hp2 b2 ⊢
    refine ⟨_, rfl, 10, 18, rfl, rfl, ⟨by decide, by decide, by decide⟩, z, _, rfl, rfl, _, rfl, ?_⟩
    refine ite2 (fun c3 => ?_) (fun _ => ?_)
    · have c4 : (10 : Int) ^ (18 : Int).toNat ≤ z := of_decide_eq_true c3
      refine ⟨_, rfl, _, rfl, B, _, 2, 2, rfl, rfl, hB2, rfl, i + 1, z, sd, some (.int z), none, rfl, upd_same, by rw [upd_ne np]; exact hp2, b2.trans fun b o n z => by rw [upd_ne n]; exact z, by omega, ?_, s0, s1⟩
      exact Int.le_trans (by decide) c4
    · refine ⟨_, rfl, B, _, 3, _, rfl, rfl, SqL.of hB2, rfl, sd, 69621, rfl, rfl, .inr ⟨by decide, by decide⟩, _, rfl, .inl ⟨z, rfl, ?_⟩⟩
      refine ⟨z, 2147483549, rfl, rfl, (by show (0 : Int) < 2147483549; decide), _, 30103, rfl, rfl, .inr ⟨by decide, by decide⟩, _, _, rfl, rfl, _, 89, rfl, rfl, .inl ⟨_, rfl, ?_⟩⟩
      refine ⟨_, 2147483629, rfl, rfl, (by show (0 : Int) < 2147483629; decide), _, rfl, B, _, 3, 3, rfl, rfl, hB2, rfl, i + 1, r, _, some (.int z), none, rfl, upd_same, by rw [upd_ne np]; exact hp2, b2.trans fun b o n z => by rw [upd_ne n]; exact z, by omega, r0, Int.emod_nonneg _ (by decide), Int.emod_lt_of_pos _ (by decide)⟩
  · rintro σ' H' ⟨i, r, sd, v, w', rfl, hB2, hp2, b2, i0, r0, s0, s1⟩
    refine ⟨_, rfl, B, _, 2, _, rfl, rfl, SqL.of hB2, rfl, r, 0, rfl, rfl, _, rfl, ?_⟩
    refine ite2 (fun _ => ?_) (fun _ => ?_)
    · refine ⟨_, rfl, B, _, 2, _, rfl, rfl, SqL.of hB2, rfl, .inl ⟨r, rfl, _, rfl, r, L, rfl, rfl, l1, ?_⟩⟩
      refine ⟨_, rfl, B, _, 2, _, rfl, rfl, SqL.of hB2, rfl, _, rfl, r, L, rfl, rfl, ⟨l1, l2⟩, _, rfl, B, _, 2, 2, rfl, rfl, hB2, rfl, ?_⟩
      refine ⟨_, rfl, q _ _ ⟨ns, i, r / L, sd, c + 1, upd_same, by rw [upd_ne np]; exact hp2, np, i0, Int.ediv_nonneg r0 (by omega), s0, s1⟩ (b2.trans fun b o n z => by rw [upd_ne n]; exact z) (Int.emod_nonneg _ (by omega)) (Int.emod_lt_of_pos _ l1)⟩
    · refine ⟨_, rfl, B, _, 3, _, rfl, rfl, SqL.of hB2, rfl, sd, 3, rfl, rfl, ⟨by decide, by decide, by omega⟩, ?_⟩
      refine ⟨_, rfl, B, _, 4, _, rfl, rfl, SqL.of hB2, rfl, c + 1, 1299709, rfl, rfl, .inr ⟨by decide, by decide⟩, _, _, rfl, rfl, _, 60013, rfl, rfl, .inl ⟨_, rfl, _, 2147483629, rfl, rfl, (by show (0 : Int) < 2147483629; decide), _, rfl, B, _, 3, 3, rfl, rfl, hB2, rfl, ?_⟩⟩
      have v0 := Int.emod_nonneg (sd ^ Int.toNat 3 + (c + 1) * 1299709 + 60013) (show (2147483629 : Int) ≠ 0 by decide)
      have v1 := Int.emod_lt_of_pos (sd ^ Int.toNat 3 + (c + 1) * 1299709 + 60013) (show (0 : Int) < 2147483629 by decide)
      have hB3 : (upd H' B (.lst ((bagL p i r sd (c + 1)).set 3 (.int ((sd ^ Int.toNat 3 + (c + 1) * 1299709 + 60013) % 2147483629))))) B = some (.lst (bagL p i r ((sd ^ Int.toNat 3 + (c + 1) * 1299709 + 60013) % 2147483629) (c + 1))) := upd_same
      have hp3 : (upd H' B (.lst ((bagL p i r sd (c + 1)).set 3 (.int ((sd ^ Int.toNat 3 + (c + 1) * 1299709 + 60013) % 2147483629))))) p = some (.lst (ns.map V.int)) := by rw [upd_ne np]; exact hp2
      have b3 : But B H (upd H' B (.lst ((bagL p i r sd (c + 1)).set 3 (.int ((sd ^ Int.toNat 3 + (c + 1) * 1299709 + 60013) % 2147483629))))) := b2.trans fun b o n z => by rw [upd_ne n]; exact z
      refine ⟨_, rfl, B, _, 3, _, rfl, rfl, SqL.of hB3, rfl, _, 97, rfl, rfl, ⟨by decide, by decide⟩, _, rfl, B, _, 3, _, rfl, rfl, SqL.of hB3, rfl, .inl ⟨_, rfl, ?_⟩⟩
      refine ⟨_, 7901, rfl, rfl, (by show (0 : Int) < 7901; decide), _, 67, rfl, rfl, .inr ⟨by decide, by decide⟩, _, _, rfl, rfl, .inl ⟨_, rfl, _, rfl, _, L, rfl, rfl, l1, ?_⟩⟩
      exact q _ _ ⟨ns, i, r, _, c + 1, hB3, hp3, np, i0, r0, v0, v1⟩ b3 (Int.emod_nonneg _ (by omega)) (Int.emod_lt_of_pos _ l1)
end
end Kz
end
section
set_option maxHeartbeats 4000000
namespace Kz
open PySem PySem.Spec PyProof.Rows L2
theorem cut_map (ns : List Int) (lo hi : Option Int) : ∃ ms : List Int, cutV (ns.map V.int) lo hi = ms.map V.int := by
  unfold cutV
  rw [List.length_map, ← List.map_drop, ← List.map_take]
  exact ⟨_, rfl⟩
def spBag (K : PySem.W.Frag) : Sp := fun vs H Q _ => ∃ (a : Addr) (ns : List Int), vs = [.ref a] ∧ SqL K H a (ns.map V.int) ∧ ∀ H' B p, Same H H' → H B = none → Bag H' B p → Q (.ref B) H'
theorem new_same {H : Hp} {p : Addr} (h : H p = none) (o : HO) : Same H (upd H p o) := fun b u q => by rw [upd_ne (ne_of_none q h)]; exact q
section
variable {P : Program} {w : World} {K : PySem.W.Frag} {mg : Str → Option Value} {base : Heap} {f fD : Addr} {fd fdD : FuncData}
theorem scBag : FnScope ["_law_script", "_law_seed", "_law_item"] ["_law_script"] (defScope (top 54)) := ⟨rfl, rfl, rfl, by decide +kernel, rfl, by decide +kernel, by decide +kernel⟩
theorem ok_bag (F : Fun K "_law_bag" "_law_bag" (top 54) f fd) (ml : mg "list" = none) (mi : mg "int" = none) : FnOk P w K mg base CX0 1 f fd ["_law_script"] (spBag K) := by
  refine F.ok scBag (fun vs H Q E h => ?_) (fun cdv A outer s H vs Q E hr h => ?_)
  · obtain ⟨a, ns, rfl, _⟩ := h
    rfl
  obtain ⟨a, ns, rfl, hS, q⟩ := h
  obtain ⟨ms, hm⟩ := cut_map ns none (some 63)
  refine ⟨_, pss_cons (ps_set (i := 1) scBag.nd rfl (Or.inl rfl) pe_int)
    (pss_cons (ps_for PassesOwn.never rfl (pi_list (pe_slice sl_list (pv 0) po_none (po_some pe_int))) (pg_name (i := 2) scBag.nd rfl (Or.inl rfl))
      (pss_one (ps_set (i := 1) scBag.nd rfl (Or.inl rfl) (pe_op op_mod (pe_callTy call_int1 rfl mi (by decide +kernel) (pa_cons (pe_op op_add (pe_op op_add (pe_op op_mul (pv 1) pe_int) (pe_op op_mod (pe_callTy call_int1 rfl mi (by decide +kernel) (pa_cons (pv 2) pa_nil)) pe_int)) pe_int) pa_nil)) pe_int))))
    (pss_one (ps_ret (pe_lst (pa_cons (pe_callTy call_list_of rfl ml (by decide +kernel) (pa_cons (pe_slice sl_list (pv 0) po_none (po_some pe_int)) pa_nil)) (pa_cons pe_int (pa_cons pe_int (pa_cons (pv 1) (pa_cons pe_int pa_nil))))))))), ?_⟩
  refine ⟨_, rfl, 63, rfl, a, _, rfl, hS, fun p np => ⟨p, rfl, ⟨_, SqL.of upd_same⟩, for_list (K := K) (a := p) (xs := cutV (ns.map V.int) none (some 63))
    (fun i σ H' => ∃ (sd : Int) (v : Option V), σ = [some (.ref a), some (.int sd), v] ∧ 0 ≤ sd ∧ sd < 2147483629 ∧ H' = upd H p (.lst (cutV (ns.map V.int) none (some 63)))) ⟨13960, none, rfl, by decide, by decide, rfl⟩ (fun i σ H' _ h => ?_) ?_ ?_⟩⟩
  · obtain ⟨_, _, _, _, _, rfl⟩ := h
    exact SqL.of upd_same
  · rintro i y σ H' hy ⟨sd, v, rfl, s0, s1, rfl⟩
    obtain ⟨z, rfl⟩ : ∃ z, y = V.int z := by
      rw [hm, List.getElem?_map] at hy
      obtain ⟨z, _, e⟩ := Option.map_eq_some_iff.mp hy
      exact ⟨z, e.symm⟩
    refine ⟨_, rfl, sd, 48271, rfl, rfl, .inr ⟨by decide, by decide⟩, _, rfl, .inl ⟨z, rfl, z, 2147483587, rfl, rfl, (by show (0 : Int) < 2147483587; decide), _, _, rfl, rfl, _, 307, rfl, rfl, .inl ⟨_, rfl, _, 2147483629, rfl, rfl, (by show (0 : Int) < 2147483629; decide), ?_⟩⟩⟩
    exact ⟨_, _, rfl, Int.emod_nonneg _ (by decide), Int.emod_lt_of_pos _ (by decide), rfl⟩
  · rintro σ H' ⟨sd, v, rfl, s0, s1, rfl⟩
    have g1 : Same H (upd H p (.lst (cutV (ns.map V.int) none (some 63)))) := new_same np _
    generalize upd H p (.lst (cutV (ns.map V.int) none (some 63))) = H1 at g1
    refine ⟨_, rfl, 63, rfl, a, _, rfl, g1.seq hS, fun p2 np2 => ⟨p2, _, rfl, .inl (SqL.of upd_same), fun l nl => ?_⟩⟩
    have g2 := g1.trans (new_same np2 (.lst (cutV (ns.map V.int) none (some 63))))
    generalize upd H1 p2 (.lst (cutV (ns.map V.int) none (some 63))) = H2 at g2 nl
    have g3 := g2.trans (new_same nl (.lst (cutV (ns.map V.int) none (some 63))))
    have hl : (upd H2 l (.lst (cutV (ns.map V.int) none (some 63)))) l = some (.lst (ms.map V.int)) := by rw [upd_same, hm]
    generalize upd H2 l (.lst (cutV (ns.map V.int) none (some 63))) = H3 at g3 hl
    refine ⟨_, rfl, (by show 5 ≤ sizeLine; decide), fun B nB => q _ B l (g3.trans (new_same nB _)) (g3.free nB) ⟨ms, 0, 0, sd, 0, upd_same, ?_, ?_, by decide, by decide, s0, s1⟩⟩
    · rw [upd_ne (ne_of_none hl nB)]
      exact hl
    · exact ne_of_none hl nB
/-! ### one of several -/
def spOfL : Sp := fun vs H Q _ => ∃ (B p t : Addr) (xs : List V), vs = [.ref B, .ref t] ∧ H t = some (.lst xs) ∧ t ≠ B ∧ 0 < xs.length ∧ xs.length ≤ 1000 ∧ Bag H B p ∧ ∀ H' x, Bag H' B p → But B H H' → x ∈ xs → Q x H'
def spOfS : Sp := fun vs H Q _ => ∃ (B p : Addr) (z : Str), vs = [.ref B, .str z] ∧ 0 < z.length ∧ z.length ≤ 1000 ∧ Bag H B p ∧ ∀ H' c, Bag H' B p → But B H H' → Q (.str ⟨#[c]⟩) H'
theorem scOf : FnScope ["_law_bag_here", "_law_things"] ["_law_bag_here", "_law_things"] (defScope (top 56)) := ⟨rfl, rfl, rfl, by decide +kernel, rfl, by decide +kernel, by decide +kernel⟩
theorem at_in {xs : List V} {k : Int} (h0 : 0 ≤ k) (h1 : k < (xs.length : Int)) : ∃ x, atI xs k = some x ∧ x ∈ xs := by
  have hk : k.toNat < xs.length := by omega
  exact ⟨xs[k.toNat], at_of (by omega) (List.getElem?_eq_getElem hk), List.getElem_mem hk⟩
theorem ok_ofL (F : Fun K "_law_of" "_law_of" (top 56) f fd) (G : FnOk P w K mg base CX0 1 fD fdD ["_law_bag_here", "_law_limit"] spDraw) (bD : Binds K fdD ["_law_bag_here", "_law_limit"] []) (kD : PySem.W.keepIn K (.ref fD) = true) (mD : mg "_law_draw" = some (.ref fD)) (ml : mg "len" = none) :
    FnOk P w K mg base CX0 2 f fd ["_law_bag_here", "_law_things"] spOfL := by
  refine F.ok scOf (fun vs H Q E h => ?_) (fun cdv A outer s H vs Q E hr h => ?_)
  · obtain ⟨B, p, t, xs, rfl, _⟩ := h
    rfl
  obtain ⟨B, p, t, xs, rfl, ht, nt, l0, l1, hb, q⟩ := h
  refine ⟨_, pss_one (ps_ret (pe_ix ix_list (pv 1) (pe_call G hr rfl mD kD bD .nil pass0 (pa_cons (pv 0) (pa_cons (pe_callB call_len_seq rfl ml PySem.boot_len (pa_cons (pv 1) pa_nil)) pa_nil))) (fun _ _ => rfl))), ?_⟩
  refine ⟨_, rfl, _, rfl, _, rfl, t, _, rfl, .inl (SqL.of ht), B, p, _, rfl, by omega, by omega, hb, fun H' k b' u k0 k1 => ?_⟩
  obtain ⟨x, hx, hm⟩ := at_in k0 k1
  exact ⟨t, xs, k, x, rfl, rfl, SqL.of (u _ _ nt ht), hx, q H' x b' u hm⟩
theorem ok_ofS (F : Fun K "_law_of" "_law_of" (top 56) f fd) (G : FnOk P w K mg base CX0 1 fD fdD ["_law_bag_here", "_law_limit"] spDraw) (bD : Binds K fdD ["_law_bag_here", "_law_limit"] []) (kD : PySem.W.keepIn K (.ref fD) = true) (mD : mg "_law_draw" = some (.ref fD)) (ml : mg "len" = none) :
    FnOk P w K mg base CX0 2 f fd ["_law_bag_here", "_law_things"] spOfS := by
  refine F.ok scOf (fun vs H Q E h => ?_) (fun cdv A outer s H vs Q E hr h => ?_)
  · obtain ⟨B, p, z, rfl, _⟩ := h
    rfl
  obtain ⟨B, p, z, rfl, l0, l1, hb, q⟩ := h
  refine ⟨_, pss_one (ps_ret (pe_ix ix_str (pv 1) (pe_call G hr rfl mD kD bD .nil pass0 (pa_cons (pv 0) (pa_cons (pe_callB call_len_str rfl ml PySem.boot_len (pa_cons (pv 1) pa_nil)) pa_nil))) (fun _ _ => rfl))), ?_⟩
  have hz : z.length ≤ sizeLine := Nat.le_of_lt (small1000 l1)
  refine ⟨_, rfl, _, rfl, _, rfl, z, rfl, hz, B, p, _, rfl, by omega, by omega, hb, fun H' k b' u k0 k1 => ?_⟩
  have el : z.cps.toList.length = z.length := Array.length_toList
  have hk : k.toNat < z.cps.toList.length := by omega
  exact ⟨z, k, z.cps.toList[k.toNat], rfl, rfl, hz, by
    have e : atI z.cps.toList ((k.toNat : Nat) : Int) = some z.cps.toList[k.toNat] := atI_nat (List.getElem?_eq_getElem hk)
    rw [show ((k.toNat : Nat) : Int) = k by omega] at e
    exact e, q H' _ b' u⟩
end
end Kz
end
section
set_option maxHeartbeats 4000000
namespace Kz
open PySem PySem.Spec PyProof.Rows L2
/-! ### two values of one make: G1, G2 say where the first one's, the second one's lists and tuples may stand -/
def Tw (G1 G2 : Addr → Prop) : Nat → Hp → V → V → Prop
  | 0, _, v, u => u = v ∧ flatV v = true
  | n + 1, H, v, u => (u = v ∧ flatV v = true) ∨ ∃ (a b : Addr) (xs ys : List V), v = .ref a ∧ u = .ref b ∧ xs.length ≤ 60 ∧ G1 a ∧ G2 b ∧ Paired (Tw G1 G2 n H) xs ys ∧
      ((H a = some (.lst xs) ∧ H b = some (.lst ys)) ∨ (H a = some (.tup xs) ∧ H b = some (.tup ys)))
theorem Tw.mono {G1 G2 F1 F2 : Addr → Prop} {H H' : Hp} (k1 : ∀ a o, G1 a → H a = some o → F1 a ∧ H' a = some o) (k2 : ∀ a o, G2 a → H a = some o → F2 a ∧ H' a = some o) : ∀ {n : Nat} {v u : V}, Tw G1 G2 n H v u → Tw F1 F2 n H' v u
  | 0, _, _, h => h
  | n + 1, v, u, h => by
    rcases h with h | ⟨a, b, xs, ys, e1, e2, l, n1, n2, p, q⟩
    · exact .inl h
    · rcases q with ⟨q1, q2⟩ | ⟨q1, q2⟩
      · exact .inr ⟨a, b, xs, ys, e1, e2, l, (k1 _ _ n1 q1).1, (k2 _ _ n2 q2).1, L2.Paired.mapP p fun _ _ z => Tw.mono k1 k2 z, .inl ⟨(k1 _ _ n1 q1).2, (k2 _ _ n2 q2).2⟩⟩
      · exact .inr ⟨a, b, xs, ys, e1, e2, l, (k1 _ _ n1 q1).1, (k2 _ _ n2 q2).1, L2.Paired.mapP p fun _ _ z => Tw.mono k1 k2 z, .inr ⟨(k1 _ _ n1 q1).2, (k2 _ _ n2 q2).2⟩⟩
theorem Tw.flat {G1 G2 : Addr → Prop} {H : Hp} {v : V} (h : flatV v = true) : ∀ {n : Nat}, Tw G1 G2 n H v v
  | 0 => ⟨rfl, h⟩
  | _ + 1 => .inl ⟨rfl, h⟩
theorem Tw.succ {G1 G2 : Addr → Prop} {H : Hp} : ∀ {n : Nat} {v u : V}, Tw G1 G2 n H v u → Tw G1 G2 (n + 1) H v u
  | 0, _, _, h => .inl h
  | n + 1, _, _, h => by
    rcases h with h | ⟨a, b, xs, ys, e1, e2, l, n1, n2, p, q⟩
    · exact .inl h
    · exact .inr ⟨a, b, xs, ys, e1, e2, l, n1, n2, L2.Paired.mapP p fun _ _ z => Tw.succ z, q⟩
def Trk (H : Hp) (a : Addr) : Prop := ∃ o, H a = some o
def New (H : Hp) (a : Addr) : Prop := H a = none
/-- what stands in H -/
theorem Tw.trk {G1 G2 : Addr → Prop} {H : Hp} {n : Nat} {v u : V} (h : Tw G1 G2 n H v u) : Tw (Trk H) (Trk H) n H v u := Tw.mono (fun a o _ e => ⟨⟨o, e⟩, e⟩) (fun a o _ e => ⟨⟨o, e⟩, e⟩) h
theorem Paired.snoc {α β : Type} {R : α → β → Prop} : ∀ {xs : List α} {ys : List β} {x : α} {y : β}, Paired R xs ys → R x y → Paired R (xs ++ [x]) (ys ++ [y])
  | _, _, _, _, .nil, h => .cons h .nil
  | _, _, _, _, .cons r t, h => .cons r (Paired.snoc t h)
theorem yesT {σ : L2.St} {H : Hp} {t e : Hp → Prop} (h : t H) : tYes σ H (fun b H3 => if b = true then t H3 else e H3) := by
  show (if true = true then t H else e H)
  rw [if_pos rfl]
  exact h
def spThing : Nat → Sp
  | 0 => fun _ _ _ _ => False
  | m + 1 => fun vs H Q _ => ∃ B p : Addr, vs = [.ref B, .int (m : Nat)] ∧ Bag H B p ∧ ∀ H' v, Bag H' B p → But B H H' → Tw (New H) (New H) m H' v v → Q v H'
abbrev nThing : List Str := ["_law_bag_here", "_law_deep", "_law_pick", "_law_parts", "_law_k"]
section
variable {P : Program} {w : World} {K : PySem.W.Frag} {mg : Str → Option Value} {base : Heap} {f fD fO : Addr} {fd fdD fdO : FuncData}
theorem scThing : FnScope nThing ["_law_bag_here", "_law_deep"] (defScope (top 67)) := ⟨rfl, rfl, rfl, by decide +kernel, rfl, by decide +kernel, by decide +kernel⟩
theorem Bag.put {H : Hp} {B p a : Addr} {o : HO} (b : Bag H B p) (h : H a = none) : Bag (upd H a o) B p := b.same (new_same h o)
theorem Bag.at {H : Hp} {B p : Addr} (b : Bag H B p) {a : Addr} (h : H a = none) : a ≠ B ∧ a ≠ p := by
  obtain ⟨_, _, _, _, _, h1, h2, _⟩ := b.ex
  refine ⟨fun e => ?_, fun e => ?_⟩
  · rw [e, h1] at h
    cases h
  · rw [e, h2] at h
    cases h
theorem Bag.upd {H : Hp} {B p a : Addr} {o : HO} (b : Bag H B p) (h : a ≠ B ∧ a ≠ p) : Bag (upd H a o) B p := by
  obtain ⟨ns, i, r, sd, c, h1, h2, h3⟩ := b.ex
  exact ⟨ns, i, r, sd, c, by rw [upd_ne (Ne.symm h.1)]; exact h1, by rw [upd_ne (Ne.symm h.2)]; exact h2, h3⟩
theorem But.free {B p a : Addr} {H H' : Hp} (u : But B H H') (b : Bag H' B p) (h : H' a = none) : H a = none := by
  cases e : H a with
  | none => rfl
  | some o =>
    have z := u a o (b.at h).1 e
    rw [h] at z
    cases z
theorem But.put {B a : Addr} {H H' : Hp} {o : HO} (u : But B H H') (h : H a = none) : But B H (upd H' a o) := fun x y n e => by rw [upd_ne (ne_of_none e h)]; exact u x y n e
theorem thing_never : FnOk P w K mg base CX0 2 f fd ["_law_bag_here", "_law_deep"] (spThing 0) :=
  ⟨fun vs H Q E h => h.elim, fun A outer s H args us vs Q E _ _ _ _ h => h.elim⟩
theorem ok_thing {m : Nat} (F : Fun K "_law_thing" "_law_thing" (top 67) f fd) (bT : Binds K fd ["_law_bag_here", "_law_deep"] []) (mT : mg "_law_thing" = some (.ref f)) (GT : FnOk P w K mg base CX0 (m + 2) f fd ["_law_bag_here", "_law_deep"] (spThing m))
    (GD : FnOk P w K mg base CX0 1 fD fdD ["_law_bag_here", "_law_limit"] spDraw) (bD : Binds K fdD ["_law_bag_here", "_law_limit"] []) (kD : PySem.W.keepIn K (.ref fD) = true) (mD : mg "_law_draw" = some (.ref fD))
    (GL : FnOk P w K mg base CX0 2 fO fdO ["_law_bag_here", "_law_things"] spOfL) (GS : FnOk P w K mg base CX0 2 fO fdO ["_law_bag_here", "_law_things"] spOfS) (bO : Binds K fdO ["_law_bag_here", "_law_things"] []) (kO : PySem.W.keepIn K (.ref fO) = true) (mO : mg "_law_of" = some (.ref fO))
    (mr : mg "range" = none) (mt : mg "tuple" = none) : FnOk P w K mg base CX0 (m + 3) f fd ["_law_bag_here", "_law_deep"] (spThing (m + 1)) := by
  refine F.ok scThing (fun vs H Q E h => ?_) (fun cdv A outer s H vs Q E hr h => ?_)
  · obtain ⟨B, p, rfl, _⟩ := h
    rfl
  obtain ⟨B, p, rfl, hb, q⟩ := h
  have hr1 := hr.mono (show 1 ≤ m + 2 by omega)
  have hr2 := hr.mono (show 2 ≤ m + 2 by omega)
  refine ⟨_, C8.pss_cut (ps_set (i := 2) scThing.nd rfl (Or.inl rfl) (pe_call GD hr1 rfl mD kD bD .nil pass0 (pa_cons (pv 0) (pa_cons (pe_ifExp (pt_cmpR op_gt (pv 1) pe_int (nomark _)) pe_int pe_int) pa_nil))))
    (pss_cons (ps_if (pt_cmpR op_eq (pv 2) pe_int (nomark _)) (pss_one (ps_ret (pe_call GL hr2 rfl mO kO bO .nil pass0 (pa_cons (pv 0) (pa_cons (pe_lst (pa_cons pe_non (pa_cons pe_bl (pa_cons pe_bl pa_nil)))) pa_nil))))) pss_nil)
    (pss_cons (ps_if (pt_cmpR op_lt (pv 2) pe_int (nomark _)) (pss_one (ps_ret (pe_call GL hr2 rfl mO kO bO .nil pass0 (pa_cons (pv 0) (pa_cons (pe_lst (pa_cons pe_int (pa_cons pe_int (pa_cons (pe_un un_neg pe_int)
        (pa_cons (pe_call GD hr1 rfl mD kD bD .nil pass0 (pa_cons (pv 0) (pa_cons pe_int pa_nil))) (pa_cons (pe_un un_neg (pe_call GD hr1 rfl mD kD bD .nil pass0 (pa_cons (pv 0) (pa_cons pe_int pa_nil)))) (pa_cons (pe_op op_pow pe_int pe_int) pa_nil))))))) pa_nil))))) pss_nil)
    (pss_cons (ps_if (pt_cmpR op_lt (pv 2) pe_int (nomark _)) (pss_one (ps_ret (pe_join pe_str (pe_lc (own := [("_law_k", 4)]) (g := gName 4) (tt := tYes) rfl scThing.nd (pi_range1 rfl mr (pa_cons (pe_call GD hr1 rfl mD kD bD .nil pass0 (pa_cons (pv 0) (pa_cons pe_int pa_nil))) pa_nil)) (blkOk_by (N := nThing) (sc := defScope (top 67)) (by decide +kernel))
        (fun _ _ _ _ _ => pg_name (i := 4) scThing.nd rfl (Or.inl rfl)) (fun _ _ _ _ _ => pts_nil) (fun _ _ _ _ _ => pe_call GS hr2 rfl mO kO bO .nil pass0 (pa_cons (pv 0) (pa_cons pe_str pa_nil))))))) pss_nil)
    (pss_cons (ps_setLc (i := 3) (own := [("_law_k", 4)]) (g := gName 4) (tt := tYes) rfl scThing.nd rfl rfl (sw_true rfl rfl rfl (by decide +kernel)) (pi_range1 rfl mr (pa_cons (pe_call GD hr1 rfl mD kD bD .nil pass0 (pa_cons (pv 0) (pa_cons pe_int pa_nil))) pa_nil)) (blkOk_by (N := nThing) (sc := defScope (top 67)) (by decide +kernel))
        (fun _ _ _ _ _ => pg_name (i := 4) scThing.nd rfl (Or.inl rfl)) (fun _ _ _ _ _ => pts_nil) (fun _ _ _ _ _ => pe_call GT hr rfl mT F.kp bT .nil pass0 (pa_cons (pv 0) (pa_cons (pe_op op_sub (pv 1) pe_int) pa_nil))))
    (pss_one (ps_ret (pe_ifExp (pt_cmpR op_eq (pv 2) pe_int (nomark _)) (pv 3) (pe_callTy call_tuple_of rfl mt (by decide +kernel) (pa_cons (pv 3) pa_nil))))))))), ?_⟩
  refine ⟨fun σ' H' => ∃ k : Int, σ' = [some (.ref B), some (.int (m : Nat)), some (.int k), none, none] ∧ Bag H' B p ∧ But B H H' ∧ 0 ≤ k ∧ (k < 8 ∨ 0 < m), ?_, ?_⟩
  · refine ⟨_, rfl, _, rfl, _, 0, rfl, rfl, _, rfl, ite2 (fun c => ?_) (fun c => ?_)⟩
    · have c2 : (0 : Int) < (m : Nat) := of_decide_eq_true c
      exact ⟨B, p, 10, rfl, by decide, by decide, hb, fun H' k b' u k0 k1 => ⟨k, rfl, b', u, k0, .inr (by omega)⟩⟩
    · exact ⟨B, p, 8, rfl, by decide, by decide, hb, fun H' k b' u k0 k1 => ⟨k, rfl, b', u, k0, .inl k1⟩⟩
  rintro σ' H1 ⟨k, rfl, b1, u1, k0, kk⟩
  refine ⟨_, rfl, rfl, _, rfl, ite2 (fun _ => ?_) (fun _ => ?_)⟩
  · refine ⟨_, rfl, (by show 3 ≤ sizeLine; decide), fun a na => ⟨B, p, a, _, rfl, upd_same, (b1.at na).1, by decide, by decide, b1.put na, fun H' x b' u' hx => q H' x b' (u1.trans ((But.new na).trans u')) (Tw.flat ?_)⟩⟩
    simp only [List.mem_cons, List.not_mem_nil, or_false] at hx
    rcases hx with rfl | rfl | rfl <;> rfl
  refine ⟨_, rfl, k, 4, rfl, rfl, _, rfl, ite2 (fun _ => ?_) (fun _ => ?_)⟩
  · refine ⟨_, rfl, 1, rfl, _, rfl, B, p, 1000000000, rfl, by decide, by decide, b1, fun H2 k2 b2 u2 _ _ => ?_⟩
    refine ⟨_, rfl, B, p, 1000000000, rfl, by decide, by decide, b2, fun H3 k3 b3 u3 _ _ => ⟨k3, rfl, 10, 59, rfl, rfl, ⟨by decide, by decide, by decide⟩, ?_⟩⟩
    refine ⟨(by show 6 ≤ sizeLine; decide), fun a na => ⟨B, p, a, _, rfl, upd_same, (b3.at na).1, (by show 0 < 6; decide), (by show 6 ≤ 1000; decide), b3.put na, fun H' x b' u' hx => q H' x b' (u1.trans (u2.trans (u3.trans ((But.new na).trans u')))) (Tw.flat ?_)⟩⟩
    simp only [List.mem_cons, List.not_mem_nil, or_false] at hx
    rcases hx with rfl | rfl | rfl | rfl | rfl | rfl <;> rfl
  refine ⟨_, rfl, k, 8, rfl, rfl, _, rfl, ite2 (fun _ => ?_) (fun c8 => ?_)⟩
  · refine ⟨⟨_, rfl⟩, _, rfl, B, p, 5, rfl, by decide, by decide, b1, fun H2 n b2 u2 n0 n1 => ⟨n, rfl, by omega, by omega, fun D nD => ?_⟩⟩
    have hD0 := (u1.trans u2).free b2 nD
    refine lc_range (lo := 0) (n := n.toNat) (fun i H' => Bag H' B p ∧ But B H H' ∧ ∃ ys : List Str, H' D = some (.lst (ys.map V.str)) ∧ ys.length = i ∧ ∀ y ∈ ys, y.length = 1) ⟨b2.put nD, (u1.trans u2).put hD0, [], upd_same, rfl, fun _ h => absurd h List.not_mem_nil⟩ ?_ ?_
    · rintro i H' hi ⟨b', u', ys, hy, ly, ay⟩
      refine ⟨rfl, ?_⟩
      refine yesT ?_
      refine ⟨_, rfl, B, p, _, rfl, by decide, by decide, b', fun H4 c b4 u4 => ⟨ys.map V.str, u4 _ _ (b2.at nD).1 hy, ?_, b4.upd (b2.at nD), (u'.trans u4).put hD0, ys ++ [⟨#[c]⟩], ?_, ?_, ?_⟩⟩
      · rw [List.length_map]
        exact small1000 (by omega)
      · rw [upd_same, List.map_append]
        rfl
      · rw [List.length_append, ly]
        rfl
      · intro y hy2
        rcases List.mem_append.mp hy2 with z | z
        · exact ay y z
        · rw [List.mem_singleton.mp z]
          rfl
    · rintro H' ⟨b', u', ys, hy, ly, ay⟩
      have es : (ys.map (·.length)).sum ≤ ys.length := by
        have z : ∀ l : List Str, (∀ y ∈ l, y.length = 1) → (l.map (·.length)).sum = l.length := by
          intro l
          induction l with
          | nil => intro _; rfl
          | cons a r ih =>
            intro h
            rw [List.map_cons, List.sum_cons, ih fun y hy => h y (List.mem_cons_of_mem _ hy), h a List.mem_cons_self, List.length_cons]
            omega
        rw [z ys ay]
        exact Nat.le_refl _
      refine ⟨_, D, ys, rfl, rfl, .inl (SqL.of hy), ?_, q H' _ b' u' (Tw.flat rfl)⟩
      show (ys.map (·.length)).sum + ys.length * 0 ≤ 16777216
      omega
  obtain ⟨m, rfl⟩ : ∃ m', m = m' + 1 := by
    have c9 : ¬ k < 8 := of_decide_eq_false (Bool.eq_false_iff.mpr c8)
    exact ⟨m - 1, by omega⟩
  refine ⟨_, rfl, B, p, 4, rfl, by decide, by decide, b1, fun H2 n b2 u2 n0 n1 => ⟨n, rfl, by omega, by omega, fun D nD => ?_⟩⟩
  have hD0 := (u1.trans u2).free b2 nD
  refine lc_range (lo := 0) (n := n.toNat) (fun i H' => Bag H' B p ∧ But B H H' ∧ ∃ xs : List V, H' D = some (.lst xs) ∧ xs.length = i ∧ ∀ x ∈ xs, Tw (fun a => H a = none ∧ a ≠ D) (fun a => H a = none ∧ a ≠ D) m H' x x) ⟨b2.put nD, (u1.trans u2).put hD0, [], upd_same, rfl, fun _ h => absurd h List.not_mem_nil⟩ ?_ ?_
  · rintro i H' hi ⟨b', u', xs, hx, lx, ax⟩
    refine ⟨rfl, ?_⟩
    refine yesT ?_
    refine ⟨_, rfl, _, rfl, _, 1, rfl, rfl, B, p, congrArg (fun z => [V.ref B, V.int z]) (show (((m + 1 : Nat) : Int)) - 1 = ((m : Nat) : Int) by omega), b', fun H4 y b4 u4 ty => ⟨xs, u4 _ _ (b2.at nD).1 hx, ?_, b4.upd (b2.at nD), (u'.trans u4).put hD0, xs ++ [y], upd_same, ?_, ?_⟩⟩
    · exact small1000 (by omega)
    · rw [List.length_append, lx]
      rfl
    · have nB : ∀ a, H a = none → a ≠ B := fun a h => (hb.at h).1
      have old : ∀ a o, (H a = none ∧ a ≠ D) → H' a = some o → (H a = none ∧ a ≠ D) ∧ (upd H4 D (.lst (xs ++ [y]))) a = some o := fun a o h e => ⟨h, by rw [upd_ne h.2]; exact u4 a o (nB a h.1) e⟩
      have new : ∀ a o, H' a = none → H4 a = some o → (H a = none ∧ a ≠ D) ∧ (upd H4 D (.lst (xs ++ [y]))) a = some o := fun a o h e => by
        have nd : a ≠ D := fun z => by
          rw [z, hx] at h
          cases h
        exact ⟨⟨u'.free b' h, nd⟩, by rw [upd_ne nd]; exact e⟩
      intro x hx2
      rcases List.mem_append.mp hx2 with z | z
      · exact Tw.mono old old (ax x z)
      · rw [List.mem_singleton.mp z]
        exact Tw.mono new new ty
  · rintro H' ⟨b', u', xs, hx, lx, ax⟩
    have pr : Paired (Tw (fun a => H a = none ∧ a ≠ D) (fun a => H a = none ∧ a ≠ D) m H') xs xs := by
      clear lx hx
      induction xs with
      | nil => exact .nil
      | cons a r ih => exact .cons (ax a List.mem_cons_self) (ih fun x h => ax x (List.mem_cons_of_mem _ h))
    have fin : ∀ (H5 : Hp) (a : Addr), H a = none → (∀ b o, H b = none ∧ b ≠ D → H' b = some o → H5 b = some o) → (H5 a = some (.lst xs) ∨ H5 a = some (.tup xs)) → Tw (New H) (New H) (m + 1) H5 (.ref a) (.ref a) := fun H5 a na kk ha => by
      have pr5 := L2.Paired.mapP pr fun v u z => Tw.mono (F1 := New H) (F2 := New H) (H' := H5) (fun b o h e => ⟨h.1, kk b o h e⟩) (fun b o h e => ⟨h.1, kk b o h e⟩) z
      rcases ha with ha | ha
      · exact .inr ⟨a, a, xs, xs, rfl, rfl, by omega, na, na, pr5, .inl ⟨ha, ha⟩⟩
      · exact .inr ⟨a, a, xs, xs, rfl, rfl, by omega, na, na, pr5, .inr ⟨ha, ha⟩⟩
    refine ⟨_, rfl, rfl, _, rfl, ite2 (fun _ => ?_) (fun _ => ?_)⟩
    · exact ⟨_, rfl, q H' _ b' u' (fin H' D hD0 (fun _ _ _ e => e) (.inl hx))⟩
    · refine ⟨_, rfl, D, xs, rfl, .inl ⟨SqL.of hx, fun l nl => ?_⟩⟩
      have nl0 := u'.free b' nl
      exact q _ _ (b'.put nl) (u'.put nl0) (fin _ l nl0 (fun b o h e => by rw [upd_ne (ne_of_none e nl)]; exact e) (.inr upd_same))
end
end Kz
end
section
set_option maxHeartbeats 4000000
namespace Kz
open PySem PySem.Spec PyProof.Rows L2 RZ
theorem rel_ty (n : String) : RelV (.ty n) (.type n) := rfl
theorem walk_zipT {K : PySem.W.Frag} {a b : Addr} {xs ys : List V} {n : Nat} (hn : n = min xs.length ys.length) : Walk (ItzT K a b) n (fun H => SqT K H a xs ∧ SqT K H b ys) (YPair (fun i => xs[i]?) (fun i => ys[i]?)) := by
  subst hn
  refine ⟨fun i H hi q => ⟨xs, ys, xs[i]'(by omega), ys[i]'(by omega), q.1, q.2, by simp [show i < xs.length by omega], by simp [show i < ys.length by omega]⟩, fun H q => ⟨xs, ys, q.1, q.2, by omega⟩, fun i H v H' hi q y => ?_⟩
  obtain ⟨T, x, z, h1, h2, h3, h4, h5⟩ := y
  exact ⟨T, x, z, h1, h2, h3, h4 xs q.1, h5 ys q.2⟩
def spLike (n : Nat) : Sp := fun vs H Q _ => ∃ (v u : V) (G1 G2 : Addr → Prop), vs = [v, u] ∧ Tw G1 G2 n H v u ∧ ∀ H', Same H H' → Q (.bl true) H'
def spCopied (n : Nat) : Sp := fun vs H Q _ => ∃ (v : V) (G : Addr → Prop), vs = [v] ∧ Tw G G n H v v ∧ ∀ H' u, Same H H' → Tw G (New H) n H' v u → Q u H'
/-- a flat value's type -/
def tyS : V → String
  | .non => "NoneType"
  | .bl _ => "bool"
  | .int _ => "int"
  | _ => "str"
theorem ty_flat {K : PySem.W.Frag} {H : Hp} {v : V} (h : flatV v = true) : TyX K H v (.type (tyS v)) := by
  cases v with
  | non => exact .base .non
  | bl b => exact .base (.bl b)
  | int i => exact .base (.int i)
  | str x => exact .base (.str x)
  | _ => cases h
theorem tyS_in : ∀ {v : V}, flatV v = true → tyS v ∈ ["NoneType", "bool", "int", "str"]
  | .non, _ => by simp [tyS]
  | .bl _, _ => by simp [tyS]
  | .int _, _ => by simp [tyS]
  | .str _, _ => by simp [tyS]
  | .byt _, h => by cases h
  | .flt _, h => by cases h
  | .ref _, h => by cases h
  | .ty _, h => by cases h
theorem Pr_get {α β : Type} {F : α → β → Prop} : ∀ {l1 : List α} {l2 : List β} {i : Nat} {x : α}, Paired F l1 l2 → l1[i]? = some x → ∃ y, l2[i]? = some y ∧ F x y
  | _, _, _, _, .nil, h => by simp at h
  | _, _, 0, x, .cons (b := b) r _, h => ⟨b, rfl, by
    have e := Option.some.inj (show some _ = some x from by simpa using h)
    rw [← e]
    exact r⟩
  | _, _, i + 1, x, .cons _ t, h => by
    obtain ⟨y, h1, h2⟩ := Pr_get (i := i) (x := x) t (by simpa using h)
    exact ⟨y, by simpa using h1, h2⟩
theorem kb_seq : ∀ s ∈ ["NoneType", "bool", "int", "str"], kitB s "list" = some false ∧ kitB s "tuple" = some false := by decide +kernel
theorem kb_flat : ∀ s ∈ ["NoneType", "bool", "int", "str"], (kitB s "bool").isSome ∧ (kitB s "str").isSome ∧ (kitB s "int").isSome := by decide +kernel
theorem kb_l : kitB "list" "list" = some true ∧ kitB "list" "tuple" = some false ∧ kitB "tuple" "list" = some false ∧ kitB "tuple" "tuple" = some true := by decide +kernel
theorem kit2 {K : PySem.W.Frag} {s : String} {a b r : Bool} (h1 : kitB s "list" = some a) (h2 : kitB s "tuple" = some b) (hr : r = (a || b)) : PySem.W.kitAny K (.type s) [.type "list", .type "tuple"] = some r := by
  subst hr
  refine kitAny_cons (kit_ty h1) (fun ha => ?_) (fun ha => by rw [ha]; rfl)
  subst ha
  refine kitAny_cons (kit_ty h2) (fun hb => by rw [hb]; exact kitAny_nil) (fun hb => by rw [hb]; rfl)
/-- a seq's type -/
inductive Sq2 (H : Hp) (a : Addr) (xs : List V) : String → Prop where
  | lst (h : H a = some (.lst xs)) : Sq2 H a xs "list"
  | tup (h : H a = some (.tup xs)) : Sq2 H a xs "tuple"
abbrev nLike : List Str := ["_law_told_here", "_law_due_here", "_law_a", "_law_b"]
abbrev nCop : List Str := ["_law_thing_here", "_law_part"]
section
variable {P : Program} {w : World} {K : PySem.W.Frag} {mg : Str → Option Value} {base : Heap} {f : Addr} {fd : FuncData}
theorem scCop : FnScope nCop ["_law_thing_here"] (defScope (top 68)) := ⟨rfl, rfl, rfl, by decide +kernel, rfl, by decide +kernel, by decide +kernel⟩
theorem ok_copied {n : Nat} (F : Fun K "_law_copied" "_law_copied" (top 68) f fd) (bC : Binds K fd ["_law_thing_here"] []) (mC : mg "_law_copied" = some (.ref f)) (G : ∀ n', n = n' + 1 → FnOk P w K mg base CX0 n f fd ["_law_thing_here"] (spCopied n'))
    (mI : mg "isinstance" = none) (ml : mg "list" = none) (mt : mg "tuple" = none) : FnOk P w K mg base CX0 (n + 1) f fd ["_law_thing_here"] (spCopied n) := by
  refine F.ok scCop (fun vs H Q E h => ?_) (fun cdv A outer s H vs Q E hr h => ?_)
  · obtain ⟨v, G1, rfl, _⟩ := h
    rfl
  obtain ⟨v, G1, rfl, tv, q⟩ := h
  have tv : Tw (fun a => G1 a ∧ Trk H a) (fun a => G1 a ∧ Trk H a) n H v v := Tw.mono (fun a o g e => ⟨⟨g, o, e⟩, e⟩) (fun a o g e => ⟨⟨g, o, e⟩, e⟩) tv
  have flat : flatV v = true → ∃ t, PSs (cxOf CX0 P w K mg base nCop "_law_copied" (defScope (top 68)) f cdv A outer s H E).nox (defBody (top 68)) t ∧ t { nx := fun _ H' => Q .non H', rt := Q } (L2.start nCop [v]) H := fun hv => by
    refine ⟨_, pss_cons (ps_if (pt_val (pe_callB call_isi rfl mI (by decide +kernel) (pa_cons (pv 0) (pa_cons (pe_bltn rfl ml boot_list (rel_ty _)) pa_nil)))) (pss_one ps_never) pss_nil)
      (pss_cons (ps_if (pt_val (pe_callB call_isi rfl mI (by decide +kernel) (pa_cons (pv 0) (pa_cons (pe_bltn rfl mt boot_tuple (rel_ty _)) pa_nil)))) (pss_one ps_never) pss_nil)
      (pss_one (ps_ret (pv 0)))), ?_⟩
    obtain ⟨k1, k2⟩ := kb_seq _ (tyS_in hv)
    refine ⟨_, rfl, v, _, _, _, false, rfl, .ty _, ty_flat hv, kit_ty k1, _, rfl, iteF ?_⟩
    refine ⟨_, rfl, v, _, _, _, false, rfl, .ty _, ty_flat hv, kit_ty k2, _, rfl, iteF ?_⟩
    exact ⟨_, rfl, q H v (Same.refl H) (Tw.flat hv)⟩
  cases n with
  | zero => exact flat tv.2
  | succ n =>
    rcases tv with ⟨_, hv⟩ | ⟨a, b, xs, ys, rfl, e2, l, n1, n2, pr, hh⟩
    · exact flat hv
    obtain rfl : a = b := V.ref.inj e2
    have GC := G n rfl
    -- the parts, copied
    have step : ∀ {D : Addr}, H D = none → ∀ (i : Nat) (H' : Hp) (zs : List V) (x : V), Same H H' → H' D = some (.lst zs) → Paired (Tw (fun a => G1 a ∧ Trk H a) (fun a => H a = none ∧ a ≠ D) n H') (xs.take i) zs → xs[i]? = some x →
        ∀ H4 u, Same H' H4 → Tw (fun a => G1 a ∧ Trk H a) (New H') n H4 x u → Same H (upd H4 D (.lst (zs ++ [u]))) ∧ Paired (Tw (fun a => G1 a ∧ Trk H a) (fun a => H a = none ∧ a ≠ D) n (upd H4 D (.lst (zs ++ [u])))) (xs.take (i + 1)) (zs ++ [u]) := fun {D} nD i H' zs x g hD pz hx H4 u g4 tu => by
      have neD : ∀ {c o}, H c = some o → c ≠ D := fun h => ne_of_none h nD
      have gs : Same H (upd H4 D (.lst (zs ++ [u]))) := fun c o h => by rw [upd_ne (neD h)]; exact g4 _ _ (g _ _ h)
      have k1 : ∀ {Hz : Hp}, Same Hz H4 → ∀ c o, (G1 c ∧ Trk H c) → Hz c = some o → (G1 c ∧ Trk H c) ∧ (upd H4 D (.lst (zs ++ [u]))) c = some o := fun gz c o h e => by
        obtain ⟨o', h'⟩ := h.2
        exact ⟨h, by rw [upd_ne (neD h')]; exact gz _ _ e⟩
      refine ⟨gs, ?_⟩
      rw [List.take_add_one, hx]
      refine Paired.snoc (L2.Paired.mapP pz fun v w z => Tw.mono (k1 g4) (fun c o h e => ⟨h, by rw [upd_ne h.2]; exact g4 _ _ e⟩) z) (Tw.mono (k1 (Same.refl H4)) (fun c o h e => ?_) tu)
      have nd : c ≠ D := fun z => by
        have h' : H' c = none := h
        rw [z, hD] at h'
        cases h'
      exact ⟨⟨g.free h, nd⟩, by rw [upd_ne nd]; exact e⟩
    have elt : ∀ (i : Nat) (H' : Hp) (x : V), Same H H' → xs[i]? = some x → Tw (fun a => G1 a ∧ Trk H a) (fun a => G1 a ∧ Trk H a) n H' x x := fun i H' x g hx => by
      have py : Paired (Tw (fun a => G1 a ∧ Trk H a) (fun a => G1 a ∧ Trk H a) n H) xs xs := by
        rcases hh with ⟨h1, h2⟩ | ⟨h1, h2⟩ <;> (rw [h1] at h2; cases h2; exact pr)
      obtain ⟨y, hy, z⟩ := Pr_get py hx
      rw [hx] at hy
      rw [← Option.some.inj hy] at z
      exact Tw.mono (fun c o h e => ⟨h, g _ _ e⟩) (fun c o h e => ⟨h, g _ _ e⟩) z
    have lc : ∀ {D : Addr}, H D = none → Paired (Tw (fun a => G1 a ∧ Trk H a) (fun a => H a = none ∧ a ≠ D) n (upd H D (.lst []))) (xs.take 0) [] := fun _ => .nil
    have fin : ∀ {D : Addr} {H' : Hp} {zs : List V}, H D = none → Same H H' → Paired (Tw (fun a => G1 a ∧ Trk H a) (fun a => H a = none ∧ a ≠ D) n H') (xs.take xs.length) zs →
        ∀ (H5 : Hp) (p : Addr), H p = none → Same H H5 → (∀ c o, H c = none ∧ c ≠ D → H' c = some o → H5 c = some o) → ((H a = some (.lst xs) ∧ H5 p = some (.lst zs)) ∨ (H a = some (.tup xs) ∧ H5 p = some (.tup zs))) → Tw G1 (New H) (n + 1) H5 (.ref a) (.ref p) := fun {D H' zs} nD g pz H5 p np g5 kk hp => by
      rw [List.take_length] at pz
      have pz5 := L2.Paired.mapP pz fun v w z => Tw.mono (F1 := G1) (F2 := New H) (H' := H5) (fun c o h e => ⟨h.1, by obtain ⟨o', h'⟩ := h.2; rw [g _ _ h'] at e; cases e; exact g5 _ _ h'⟩) (fun c o h e => ⟨h.1, kk c o h e⟩) z
      rcases hp with ⟨h1, h2⟩ | ⟨h1, h2⟩
      · exact .inr ⟨a, p, xs, zs, rfl, rfl, l, n1.1, np, pz5, .inl ⟨g5 _ _ h1, h2⟩⟩
      · exact .inr ⟨a, p, xs, zs, rfl, rfl, l, n1.1, np, pz5, .inr ⟨g5 _ _ h1, h2⟩⟩
    rcases hh with ⟨h1, h2⟩ | ⟨h1, h2⟩
    · refine ⟨_, pss_cons (ps_if (pt_val (pe_callB call_isi rfl mI (by decide +kernel) (pa_cons (pv 0) (pa_cons (pe_bltn rfl ml boot_list (rel_ty _)) pa_nil))))
          (pss_one (ps_ret (pe_lc (own := [("_law_part", 1)]) (g := gName 1) (tt := tYes) rfl scCop.nd (pi_list (pv 0)) (blkOk_by (N := nCop) (sc := defScope (top 68)) (by decide +kernel)) (fun _ _ _ _ _ => pg_name (i := 1) scCop.nd rfl (Or.inl rfl)) (fun _ _ _ _ _ => pts_nil)
            (fun _ _ _ _ _ => pe_call GC hr rfl mC F.kp bC .nil pass0 (pa_cons (pv 1) pa_nil))))) pss_nil)
        (pss_cons ps_never (pss_one ps_never)), ?_⟩
      refine ⟨_, rfl, _, _, _, _, true, rfl, .ty _, .base (.lst h1), kit_ty kb_l.1, _, rfl, ?_⟩
      refine iteT ⟨_, rfl, a, rfl, ⟨xs, SqL.of h1⟩, fun D nD => ?_⟩
      refine lc_list (K := K) (a := a) (xs := xs) (fun i H' => Same H H' ∧ ∃ zs, H' D = some (.lst zs) ∧ zs.length = i ∧ Paired (Tw (fun a => G1 a ∧ Trk H a) (fun a => H a = none ∧ a ≠ D) n H') (xs.take i) zs) ⟨new_same nD _, [], upd_same, rfl, lc nD⟩ (fun i H' _ h => SqL.of (h.1 _ _ h1)) ?_ ?_
      · rintro i x H' hx ⟨g, zs, hD, lz, pz⟩
        refine ⟨rfl, ?_⟩
        refine yesT ?_
        refine ⟨_, rfl, x, _, rfl, elt i H' x g hx, fun H4 u g4 tu => ⟨zs, g4 _ _ hD, ?_, ?_⟩⟩
        · have := (List.getElem?_eq_some_iff.mp hx).1
          exact small1000 (by omega)
        · obtain ⟨s1, s2⟩ := step nD i H' zs x g hD pz hx H4 u g4 tu
          exact ⟨s1, _, upd_same, by rw [List.length_append, lz]; rfl, s2⟩
      · rintro H' ⟨g, zs, hD, lz, pz⟩
        exact q H' _ g (fin nD g pz H' D nD g (fun _ _ _ e => e) (.inl ⟨h1, hD⟩))
    · refine ⟨_, pss_cons (ps_if (pt_val (pe_callB call_isi rfl mI (by decide +kernel) (pa_cons (pv 0) (pa_cons (pe_bltn rfl ml boot_list (rel_ty _)) pa_nil)))) (pss_one ps_never) pss_nil)
        (pss_cons (ps_if (pt_val (pe_callB call_isi rfl mI (by decide +kernel) (pa_cons (pv 0) (pa_cons (pe_bltn rfl mt boot_tuple (rel_ty _)) pa_nil))))
          (pss_one (ps_ret (pe_callTy call_tuple_of rfl mt boot_tuple (pa_cons (pe_lc (own := [("_law_part", 1)]) (g := gName 1) (tt := tYes) rfl scCop.nd (pi_tup (pv 0)) (blkOk_by (N := nCop) (sc := defScope (top 68)) (by decide +kernel)) (fun _ _ _ _ _ => pg_name (i := 1) scCop.nd rfl (Or.inl rfl)) (fun _ _ _ _ _ => pts_nil)
            (fun _ _ _ _ _ => pe_call GC hr rfl mC F.kp bC .nil pass0 (pa_cons (pv 1) pa_nil))) pa_nil)))) pss_nil)
        (pss_one ps_never)), ?_⟩
      refine ⟨_, rfl, _, _, _, _, false, rfl, .ty _, .base (.tup h1), kit_ty kb_l.2.2.1, _, rfl, iteF ?_⟩
      refine ⟨_, rfl, _, _, _, _, true, rfl, .ty _, .base (.tup h1), kit_ty kb_l.2.2.2, _, rfl, ?_⟩
      refine iteT ⟨_, rfl, a, rfl, ⟨xs, SqT.of h1⟩, fun D nD => ?_⟩
      refine lc_tup (K := K) (a := a) (xs := xs) (fun i H' => Same H H' ∧ ∃ zs, H' D = some (.lst zs) ∧ zs.length = i ∧ Paired (Tw (fun a => G1 a ∧ Trk H a) (fun a => H a = none ∧ a ≠ D) n H') (xs.take i) zs) ⟨new_same nD _, [], upd_same, rfl, lc nD⟩ (fun i H' _ h => SqT.of (h.1 _ _ h1)) ?_ ?_
      · rintro i x H' hx ⟨g, zs, hD, lz, pz⟩
        refine ⟨rfl, ?_⟩
        refine yesT ?_
        refine ⟨_, rfl, x, _, rfl, elt i H' x g hx, fun H4 u g4 tu => ⟨zs, g4 _ _ hD, ?_, ?_⟩⟩
        · have := (List.getElem?_eq_some_iff.mp hx).1
          exact small1000 (by omega)
        · obtain ⟨s1, s2⟩ := step nD i H' zs x g hD pz hx H4 u g4 tu
          exact ⟨s1, _, upd_same, by rw [List.length_append, lz]; rfl, s2⟩
      · rintro H' ⟨g, zs, hD, lz, pz⟩
        refine ⟨D, zs, rfl, .inl ⟨SqL.of hD, fun p np => ?_⟩⟩
        exact q _ _ (g.trans (new_same np _)) (fin nD g pz _ p (g.free np) (g.trans (new_same np _)) (fun c o h e => by rw [upd_ne (ne_of_none e np)]; exact e) (.inr ⟨h1, upd_same⟩))
end
end Kz
end
section
set_option maxHeartbeats 4000000
namespace Kz
open PySem PySem.Spec PyProof.Rows L2 RZ
section
variable {P : Program} {w : World} {K : PySem.W.Frag} {mg : Str → Option Value} {base : Heap} {f : Addr} {fd : FuncData}
theorem scLike : FnScope nLike ["_law_told_here", "_law_due_here"] (defScope (top 57)) := ⟨rfl, rfl, rfl, by decide +kernel, rfl, by decide +kernel, by decide +kernel⟩
theorem ok_like {n : Nat} (F : Fun K "_law_like" "_law_like" (top 57) f fd) (bL : Binds K fd ["_law_told_here", "_law_due_here"] []) (mL : mg "_law_like" = some (.ref f)) (G : ∀ n', n = n' + 1 → FnOk P w K mg base CX0 n f fd ["_law_told_here", "_law_due_here"] (spLike n'))
    (mI : mg "isinstance" = none) (ml : mg "list" = none) (mt : mg "tuple" = none) (mb : mg "bool" = none) (ms : mg "str" = none) (mi : mg "int" = none) (mn : mg "len" = none) (mz : mg "zip" = none) (ma : mg "all" = none) :
    FnOk P w K mg base CX0 (n + 1) f fd ["_law_told_here", "_law_due_here"] (spLike n) := by
  refine F.ok scLike (fun vs H Q E h => ?_) (fun cdv A outer s H vs Q E hr h => ?_)
  · obtain ⟨v, u, G1, G2, rfl, _⟩ := h
    rfl
  obtain ⟨v, u, G1, G2, rfl, tv, q⟩ := h
  have flat : flatV v = true → u = v → ∃ t, PSs (cxOf CX0 P w K mg base nLike "_law_like" (defScope (top 57)) f cdv A outer s H E).nox (defBody (top 57)) t ∧ t { nx := fun _ H' => Q .non H', rt := Q } (L2.start nLike [v, u]) H := fun hv hu => by
    subst hu
    obtain ⟨k1, k2⟩ := kb_seq _ (tyS_in hv)
    obtain ⟨k3, k4, k5⟩ := kb_flat _ (tyS_in hv)
    obtain ⟨x3, k3⟩ := Option.isSome_iff_exists.mp k3
    obtain ⟨x4, k4⟩ := Option.isSome_iff_exists.mp k4
    obtain ⟨x5, k5⟩ := Option.isSome_iff_exists.mp k5
    refine ⟨_, pss_cons (ps_if (pt_val (pe_callB call_isiT rfl mI (by decide +kernel) (pa_cons (pv 1) (pa_cons (pe_tup (pa_cons (pe_bltn rfl ml boot_list (rel_ty _)) (pa_cons (pe_bltn rfl mt boot_tuple (rel_ty _)) pa_nil))) pa_nil)))) (pss_cons ps_never (pss_one ps_never)) pss_nil)
      (pss_cons (ps_if (PW.pt (pw_or (pt_cmpR op_isN (pv 1) pe_non (nomark _)) (pw_or1 (pt_cmpR op_isN (pv 0) pe_non (nomark _))))) (pss_one (ps_ret (pe_and (pe_cmpR op_isN (pv 1) pe_non (nomark _)) (pe_one (pe_cmpR op_isN (pv 0) pe_non (nomark _)))))) pss_nil)
      (pss_cons (ps_if (PW.pt (pw_or (pt_val (pe_callB call_isiT rfl mI (by decide +kernel) (pa_cons (pv 0) (pa_cons (pe_tup (pa_cons (pe_bltn rfl ml boot_list (rel_ty _)) (pa_cons (pe_bltn rfl mt boot_tuple (rel_ty _)) pa_nil))) pa_nil))))
          (pw_or1 (pt_cmpR op_ne (pe_callB call_isi rfl mI (by decide +kernel) (pa_cons (pv 0) (pa_cons (pe_bltn rfl mb boot_bool (rel_ty _)) pa_nil))) (pe_callB call_isi rfl mI (by decide +kernel) (pa_cons (pv 1) (pa_cons (pe_bltn rfl mb boot_bool (rel_ty _)) pa_nil))) (nomark _))))) (pss_one ps_never) pss_nil)
      (pss_cons (ps_if (PW.pt (pw_or (pt_cmpR op_ne (pe_callB call_isi rfl mI (by decide +kernel) (pa_cons (pv 0) (pa_cons (pe_bltn rfl ms boot_str (rel_ty _)) pa_nil))) (pe_callB call_isi rfl mI (by decide +kernel) (pa_cons (pv 1) (pa_cons (pe_bltn rfl ms boot_str (rel_ty _)) pa_nil))) (nomark _))
          (pw_or1 (pt_cmpR op_ne (pe_callB call_isi rfl mI (by decide +kernel) (pa_cons (pv 0) (pa_cons (pe_bltn rfl mi boot_int (rel_ty _)) pa_nil))) (pe_callB call_isi rfl mI (by decide +kernel) (pa_cons (pv 1) (pa_cons (pe_bltn rfl mi boot_int (rel_ty _)) pa_nil))) (nomark _))))) (pss_one ps_never) pss_nil)
      (pss_one (ps_ret (pe_cmpR op_eq (pv 0) (pv 1) (nomark _))))))), ?_⟩
    refine ⟨_, rfl, (by show 2 ≤ sizeLine; decide), fun p np => ?_⟩
    have g1 := new_same np (.tup [.ty "list", .ty "tuple"])
    refine ⟨u, p, _, .type (tyS u), _, false, rfl, upd_same, .cons (.ty _) (.cons (.ty _) .nil), ty_flat hv, kit2 k1 k2 rfl, _, rfl, iteF ?_⟩
    generalize upd H p (.tup [.ty "list", .ty "tuple"]) = H1 at g1
    by_cases e : u = .non
    · subst e
      refine ⟨_, rfl, rfl, _, rfl, iteT ?_⟩
      refine iteT ⟨_, rfl, rfl, _, rfl, iteT ⟨_, rfl, rfl, q H1 g1⟩⟩
    · refine ⟨_, rfl, rfl, _, rfl, ?_⟩
      rw [decide_eq_false e]
      refine iteF ⟨_, rfl, rfl, _, rfl, ?_⟩
      rw [decide_eq_false e]
      refine iteF ?_
      refine ⟨_, rfl, (by show 2 ≤ sizeLine; decide), fun p2 np2 => ?_⟩
      have g2 := g1.trans (new_same np2 (.tup [.ty "list", .ty "tuple"]))
      refine ⟨u, p2, _, .type (tyS u), _, false, rfl, upd_same, .cons (.ty _) (.cons (.ty _) .nil), ty_flat hv, kit2 k1 k2 rfl, _, rfl, iteF ?_⟩
      generalize upd H1 p2 (.tup [.ty "list", .ty "tuple"]) = H2 at g2
      refine ⟨_, rfl, u, _, _, _, x3, rfl, .ty _, ty_flat hv, kit_ty k3, _, rfl, u, _, _, _, x3, rfl, .ty _, ty_flat hv, kit_ty k3, rfl, _, rfl, ?_⟩
      refine iteNS rfl ?_
      refine ⟨_, rfl, u, _, _, _, x4, rfl, .ty _, ty_flat hv, kit_ty k4, _, rfl, u, _, _, _, x4, rfl, .ty _, ty_flat hv, kit_ty k4, rfl, _, rfl, ?_⟩
      refine iteNS rfl ?_
      refine ⟨_, rfl, u, _, _, _, x5, rfl, .ty _, ty_flat hv, kit_ty k5, _, rfl, u, _, _, _, x5, rfl, .ty _, ty_flat hv, kit_ty k5, rfl, _, rfl, ?_⟩
      refine iteNS rfl ?_
      have hs : scal u u = true := by
        cases u <;> first | rfl | cases hv
      refine ⟨_, rfl, _, rfl, hs, ?_⟩
      rw [decide_eq_true rfl]
      exact q H2 g2
  cases n with
  | zero => exact flat (by rw [← tv.1]; exact (by rw [tv.1]; exact tv.2)) tv.1
  | succ n =>
    rcases tv with ⟨hu, hv⟩ | ⟨a, b, xs, ys, rfl, rfl, l, n1, n2, pr, hh⟩
    · exact flat hv hu
    have GL := G n rfl
    have le : xs.length = ys.length := pr.length
    have el : ∀ (i : Nat) (y z : V), xs[i]? = some y → ys[i]? = some z → ∀ H', Same H H' → Tw G1 G2 n H' y z := fun i y z hy hz H' g => by
      obtain ⟨z', h1, h2⟩ := Pr_get pr hy
      rw [hz] at h1
      rw [← Option.some.inj h1] at h2
      exact Tw.mono (fun c o h e => ⟨h, g _ _ e⟩) (fun c o h e => ⟨h, g _ _ e⟩) h2
    rcases hh with ⟨h1, h2⟩ | ⟨h1, h2⟩
    · refine ⟨_, pss_cons (ps_if (pt_val (pe_callB call_isiT rfl mI (by decide +kernel) (pa_cons (pv 1) (pa_cons (pe_tup (pa_cons (pe_bltn rfl ml boot_list (rel_ty _)) (pa_cons (pe_bltn rfl mt boot_tuple (rel_ty _)) pa_nil))) pa_nil))))
          (pss_cons (ps_if (PW.pt (pw_or (pt_cmpR op_ne (pe_callB call_isi rfl mI (by decide +kernel) (pa_cons (pv 0) (pa_cons (pe_bltn rfl ml boot_list (rel_ty _)) pa_nil))) (pe_callB call_isi rfl mI (by decide +kernel) (pa_cons (pv 1) (pa_cons (pe_bltn rfl ml boot_list (rel_ty _)) pa_nil))) (nomark _)) (pw_or1 (pt_cmpR op_ne (pe_callB call_isi rfl mI (by decide +kernel) (pa_cons (pv 0) (pa_cons (pe_bltn rfl mt boot_tuple (rel_ty _)) pa_nil))) (pe_callB call_isi rfl mI (by decide +kernel) (pa_cons (pv 1) (pa_cons (pe_bltn rfl mt boot_tuple (rel_ty _)) pa_nil))) (nomark _))))) (pss_one ps_never) pss_nil)
          (pss_one (ps_ret (pe_and (pe_cmpR op_eq (pe_callB call_len_seq rfl mn PySem.boot_len (pa_cons (pv 0) pa_nil)) (pe_callB call_len_seq rfl mn PySem.boot_len (pa_cons (pv 1) pa_nil)) (nomark _))
            (pe_one (pe_callB (cr_all rfl) rfl ma (by decide +kernel) (pa_cons (pe_lc (own := [("_law_a", 2), ("_law_b", 3)]) (g := gTup K 2 (gCons (gName 2) (gCons (gName 3) gNil))) (tt := tYes) rfl scLike.nd (pi_zipA rfl mz (pa_cons (pv 0) (pa_cons (pv 1) pa_nil))) (blkOk_by (N := nLike) (sc := defScope (top 57)) (by decide +kernel))
              (fun _ _ _ _ _ => pg_tup rfl (pgs_cons (pg_name (i := 2) scLike.nd rfl (Or.inl rfl)) (pgs_cons (pg_name (i := 3) scLike.nd rfl (Or.inl rfl)) pgs_nil))) (fun _ _ _ _ _ => pts_nil) (fun _ _ _ _ _ => pe_call GL hr rfl mL F.kp bL .nil pass0 (pa_cons (pv 2) (pa_cons (pv 3) pa_nil)))) pa_nil))))))) pss_nil)
        (pss_cons ps_never (pss_cons ps_never (pss_cons ps_never (pss_one ps_never)))), ?_⟩
      refine ⟨_, rfl, (by show 2 ≤ sizeLine; decide), fun p np => ?_⟩
      have g1 := new_same np (.tup [.ty "list", .ty "tuple"])
      refine ⟨.ref b, p, _, .type "list", _, true, rfl, upd_same, .cons (.ty _) (.cons (.ty _) .nil), .base (.lst (g1 _ _ h2)), kit2 kb_l.1 kb_l.2.1 rfl, _, rfl, ?_⟩
      refine iteT ?_
      generalize upd H p (.tup [.ty "list", .ty "tuple"]) = H1 at g1
      have ta : TyX K H1 (.ref a) (.type "list") := .base (.lst (g1 _ _ h1))
      have tb : TyX K H1 (.ref b) (.type "list") := .base (.lst (g1 _ _ h2))
      refine ⟨_, rfl, .ref a, _, _, _, _, rfl, .ty _, ta, kit_ty kb_l.1, _, rfl, .ref b, _, _, _, _, rfl, .ty _, tb, kit_ty kb_l.1, rfl, _, rfl, iteNS rfl ?_⟩
      refine ⟨_, rfl, .ref a, _, _, _, _, rfl, .ty _, ta, kit_ty kb_l.2.1, _, rfl, .ref b, _, _, _, _, rfl, .ty _, tb, kit_ty kb_l.2.1, rfl, _, rfl, iteNS rfl ?_⟩
      refine ⟨_, rfl, a, xs, rfl, .inl (SqL.of (g1 _ _ h1)), _, rfl, b, ys, rfl, .inl (SqL.of (g1 _ _ h2)), rfl, _, rfl, ?_⟩
      rw [decide_eq_true (show V.int (xs.length : Nat) = V.int (ys.length : Nat) by rw [le])]
      refine iteT ⟨_, rfl, _, rfl, a, b, xs, ys, rfl, .inl ⟨SqL.of (g1 _ _ h1), SqL.of (g1 _ _ h2), fun D nD => ?_⟩⟩
      refine lc_it (walk_zip (K := K) (a := a) (b := b) (xs := xs) (ys := ys) (n := xs.length) (by omega)) (fun i H' => Same H1 H' ∧ H' D = some (.lst ((List.replicate i true).map V.bl))) ⟨new_same nD _, upd_same⟩ (fun i H' _ h => ⟨SqL.of (h.1 _ _ (g1 _ _ h1)), SqL.of (h.1 _ _ (g1 _ _ h2))⟩) ?_ ?_
      · rintro i x H' H5 hi ⟨g, hD⟩ ⟨T, y, z, rfl, hT, rfl, hy, hz⟩
        refine ⟨T, [y, z], rfl, SqT.of upd_same, rfl, y, [z], rfl, z, [], rfl, rfl, ?_⟩
        refine ⟨rfl, ?_⟩
        refine yesT ?_
        have g5 : Same H1 (upd H' T (.tup [y, z])) := g.trans (new_same hT _)
        have tyz := el i y z hy hz _ (g1.trans g5)
        refine ⟨_, rfl, _, rfl, y, z, _, _, rfl, tyz, fun H6 g6 => ⟨(List.replicate i true).map V.bl, ?_, ?_, ?_, ?_⟩⟩
        · refine g6 _ _ ?_
          rw [upd_ne (ne_of_none hD hT)]
          exact hD
        · rw [List.length_map, List.length_replicate]
          exact small1000 (by omega)
        · exact fun c o h => by rw [upd_ne (ne_of_none h nD)]; exact g6 _ _ (g5 _ _ h)
        · rw [upd_same, List.replicate_succ', List.map_append]
          rfl
      · rintro H' ⟨g, hD⟩
        refine ⟨D, List.replicate xs.length true, rfl, SqL.of hD, ?_⟩
        have e : (List.replicate xs.length true).all id = true := by simp
        rw [e]
        exact q H' (g1.trans g)
    · refine ⟨_, pss_cons (ps_if (pt_val (pe_callB call_isiT rfl mI (by decide +kernel) (pa_cons (pv 1) (pa_cons (pe_tup (pa_cons (pe_bltn rfl ml boot_list (rel_ty _)) (pa_cons (pe_bltn rfl mt boot_tuple (rel_ty _)) pa_nil))) pa_nil))))
          (pss_cons (ps_if (PW.pt (pw_or (pt_cmpR op_ne (pe_callB call_isi rfl mI (by decide +kernel) (pa_cons (pv 0) (pa_cons (pe_bltn rfl ml boot_list (rel_ty _)) pa_nil))) (pe_callB call_isi rfl mI (by decide +kernel) (pa_cons (pv 1) (pa_cons (pe_bltn rfl ml boot_list (rel_ty _)) pa_nil))) (nomark _)) (pw_or1 (pt_cmpR op_ne (pe_callB call_isi rfl mI (by decide +kernel) (pa_cons (pv 0) (pa_cons (pe_bltn rfl mt boot_tuple (rel_ty _)) pa_nil))) (pe_callB call_isi rfl mI (by decide +kernel) (pa_cons (pv 1) (pa_cons (pe_bltn rfl mt boot_tuple (rel_ty _)) pa_nil))) (nomark _))))) (pss_one ps_never) pss_nil)
          (pss_one (ps_ret (pe_and (pe_cmpR op_eq (pe_callB call_len_seq rfl mn PySem.boot_len (pa_cons (pv 0) pa_nil)) (pe_callB call_len_seq rfl mn PySem.boot_len (pa_cons (pv 1) pa_nil)) (nomark _))
            (pe_one (pe_callB (cr_all rfl) rfl ma (by decide +kernel) (pa_cons (pe_lc (own := [("_law_a", 2), ("_law_b", 3)]) (g := gTup K 2 (gCons (gName 2) (gCons (gName 3) gNil))) (tt := tYes) rfl scLike.nd (pi_zipA rfl mz (pa_cons (pv 0) (pa_cons (pv 1) pa_nil))) (blkOk_by (N := nLike) (sc := defScope (top 57)) (by decide +kernel))
              (fun _ _ _ _ _ => pg_tup rfl (pgs_cons (pg_name (i := 2) scLike.nd rfl (Or.inl rfl)) (pgs_cons (pg_name (i := 3) scLike.nd rfl (Or.inl rfl)) pgs_nil))) (fun _ _ _ _ _ => pts_nil) (fun _ _ _ _ _ => pe_call GL hr rfl mL F.kp bL .nil pass0 (pa_cons (pv 2) (pa_cons (pv 3) pa_nil)))) pa_nil))))))) pss_nil)
        (pss_cons ps_never (pss_cons ps_never (pss_cons ps_never (pss_one ps_never)))), ?_⟩
      refine ⟨_, rfl, (by show 2 ≤ sizeLine; decide), fun p np => ?_⟩
      have g1 := new_same np (.tup [.ty "list", .ty "tuple"])
      refine ⟨.ref b, p, _, .type "tuple", _, true, rfl, upd_same, .cons (.ty _) (.cons (.ty _) .nil), .base (.tup (g1 _ _ h2)), kit2 kb_l.2.2.1 kb_l.2.2.2 rfl, _, rfl, ?_⟩
      refine iteT ?_
      generalize upd H p (.tup [.ty "list", .ty "tuple"]) = H1 at g1
      have ta : TyX K H1 (.ref a) (.type "tuple") := .base (.tup (g1 _ _ h1))
      have tb : TyX K H1 (.ref b) (.type "tuple") := .base (.tup (g1 _ _ h2))
      refine ⟨_, rfl, .ref a, _, _, _, _, rfl, .ty _, ta, kit_ty kb_l.2.2.1, _, rfl, .ref b, _, _, _, _, rfl, .ty _, tb, kit_ty kb_l.2.2.1, rfl, _, rfl, iteNS rfl ?_⟩
      refine ⟨_, rfl, .ref a, _, _, _, _, rfl, .ty _, ta, kit_ty kb_l.2.2.2, _, rfl, .ref b, _, _, _, _, rfl, .ty _, tb, kit_ty kb_l.2.2.2, rfl, _, rfl, iteNS rfl ?_⟩
      refine ⟨_, rfl, a, xs, rfl, .inr (SqT.of (g1 _ _ h1)), _, rfl, b, ys, rfl, .inr (SqT.of (g1 _ _ h2)), rfl, _, rfl, ?_⟩
      rw [decide_eq_true (show V.int (xs.length : Nat) = V.int (ys.length : Nat) by rw [le])]
      refine iteT ⟨_, rfl, _, rfl, a, b, xs, ys, rfl, .inr ⟨SqT.of (g1 _ _ h1), SqT.of (g1 _ _ h2), fun D nD => ?_⟩⟩
      refine lc_it (walk_zipT (K := K) (a := a) (b := b) (xs := xs) (ys := ys) (n := xs.length) (by omega)) (fun i H' => Same H1 H' ∧ H' D = some (.lst ((List.replicate i true).map V.bl))) ⟨new_same nD _, upd_same⟩ (fun i H' _ h => ⟨SqT.of (h.1 _ _ (g1 _ _ h1)), SqT.of (h.1 _ _ (g1 _ _ h2))⟩) ?_ ?_
      · rintro i x H' H5 hi ⟨g, hD⟩ ⟨T, y, z, rfl, hT, rfl, hy, hz⟩
        refine ⟨T, [y, z], rfl, SqT.of upd_same, rfl, y, [z], rfl, z, [], rfl, rfl, ?_⟩
        refine ⟨rfl, ?_⟩
        refine yesT ?_
        have g5 : Same H1 (upd H' T (.tup [y, z])) := g.trans (new_same hT _)
        have tyz := el i y z hy hz _ (g1.trans g5)
        refine ⟨_, rfl, _, rfl, y, z, _, _, rfl, tyz, fun H6 g6 => ⟨(List.replicate i true).map V.bl, ?_, ?_, ?_, ?_⟩⟩
        · refine g6 _ _ ?_
          rw [upd_ne (ne_of_none hD hT)]
          exact hD
        · rw [List.length_map, List.length_replicate]
          exact small1000 (by omega)
        · exact fun c o h => by rw [upd_ne (ne_of_none h nD)]; exact g6 _ _ (g5 _ _ h)
        · rw [upd_same, List.replicate_succ', List.map_append]
          rfl
      · rintro H' ⟨g, hD⟩
        refine ⟨D, List.replicate xs.length true, rfl, SqL.of hD, ?_⟩
        have e : (List.replicate xs.length true).all id = true := by simp
        rw [e]
        exact q H' (g1.trans g)
end
end Kz
end
section
set_option maxHeartbeats 4000000
namespace Kz
open PySem PySem.Spec PyProof.Rows L2
/-! ### errors made -/
def fsOf (d : CD) (ws : List V) : List (Str × V) := (d.ps.zip ws).reverse ++ [(("code" : Str), V.str d.nm)]
def spInit (d : CD) : Sp := fun vs H Q _ => ∃ (a : Addr) (ws : List V), vs = .ref a :: ws ∧ ws.length = d.ps.length ∧ H a = some (exo a d.C none) ∧
  ∀ e H', e ≠ a → H e = none → H' a = some (exo a d.C (some e)) → H' e = some (exd e (fsOf d ws)) → free3 H H' a e → Q .non H'
structure Made (H H' : Hp) (x : Addr) (d : CD) (ws : List V) : Prop where
  new : H x = none
  ex : ∃ e, e ≠ x ∧ H e = none ∧ H' x = some (exo x d.C (some e)) ∧ H' e = some (exd e (fsOf d ws)) ∧ free3 H H' x e
theorem Made.same {H H' : Hp} {x : Addr} {d : CD} {ws : List V} (m : Made H H' x d ws) : Same H H' := fun b o h => by
  obtain ⟨e, _, he, _, _, k⟩ := m.ex
  rw [k b (ne_of_none h m.new) (ne_of_none h he)]
  exact h
abbrev GA : List V → List V → List V := fun us ws => us ++ ws
abbrev GB : List Value → List Value → List Value := fun us ws => us ++ ws
abbrev SA : List V → List V → List V := fun us ws => us ++ ws.reverse
abbrev SB : List Value → List Value → List Value := fun us ws => us ++ ws.reverse
theorem rel_ga {vs : List V} {us : List Value} {zs : List V} {ws : List Value} (r : Vals vs us) (q : Vals zs ws) : Vals (GA vs zs) (GB us ws) := r.append q
theorem rel_sa {vs : List V} {us : List Value} {zs : List V} {ws : List Value} (r : Vals vs us) (q : Vals zs ws) : Vals (SA vs zs) (SB us ws) := by
  refine r.append ?_
  induction q with
  | nil => exact .nil
  | cons p t ih =>
    rw [List.reverse_cons, List.reverse_cons]
    exact ih.append (.cons p .nil)
/-- what the text and the top say of an error class -/
structure Mk0 (P : Program) (w : World) (K : PySem.W.Frag) (mg : Str → Option Value) (base : Heap) (d : CD) : Prop where
  T : XC K d.C
  mgC : mg d.nm = some (.ref d.C)
  iC : PySem.W.findIn K (.ref d.C) "__init__" = some (some (.ref (d.C - 3)))
  fI : PySem.W.isFn K (.ref (d.C - 3)) = true
  ex : ∃ fd, FnOk P w K mg base CX0 1 (d.C - 3) fd ("self" :: d.ps) (spInit d) ∧ (∀ n, n ≤ d.ps.length → KBn K fd ("self" :: d.ps) (n + 1) (d.ps.drop n) GB GA) ∧ KBn K fd ("self" :: d.ps) 1 d.ps.reverse SB SA
def tNew (d : CD) (t tk : TA) (g : List V → List V → List V) : TE := fun σ H Q => t σ H fun vs H1 => tk σ H1 fun zs H2 => ∀ x H', Made H2 H' x d (g vs zs) → Q (.ref x) H'
section
variable {X : Cx} {k n : Nat} {d : CD} {x : Str} {p pos : Pos} {e : Expr} {es : List Expr} {kws : List Keyword} {t tk : TA} {ks : List Str} {gV g : List V → List V → List V}
theorem new_conv {σ : L2.St} {H : Hp} {Q : VK} {m : Nat} (hg : ∀ (a : Addr) vs zs, gV (.ref a :: vs) zs = .ref a :: g vs zs) (hl : ∀ vs zs, vs.length = n → zs.length = m → (g vs zs).length = d.ps.length)
    (ht : ∀ {R : List V → Hp → Prop}, t σ H R → t σ H fun vs H1 => vs.length = n ∧ R vs H1) (htk : ∀ {H1 : Hp} {R : List V → Hp → Prop}, tk σ H1 R → tk σ H1 fun zs H2 => zs.length = m ∧ R zs H2)
    (tm : ∀ {R R' : List V → Hp → Prop}, (∀ vs H1, R vs H1 → R' vs H1) → t σ H R → t σ H R') (tkm : ∀ {H1 : Hp} {R R' : List V → Hp → Prop}, (∀ vs H1, R vs H1 → R' vs H1) → tk σ H1 R → tk σ H1 R')
    (h : tNew d t tk g σ H Q) : tXmk d.C n m (spInit d) gV t tk σ H Q := by
  refine tm (fun vs H1 hv => ?_) (ht h)
  obtain ⟨lv, h1⟩ := hv
  refine tkm (fun zs H2 hz => ?_) (htk h1)
  obtain ⟨lz, h2⟩ := hz
  refine ⟨lv, lz, fun a na => ⟨a, g vs zs, hg a vs zs, hl vs zs lv lz, upd_same, fun e H' ne he h3 h4 h5 => ⟨rfl, h2 a H' ⟨na, e, ne, ?_, h3, h4, fun b b1 b2 => ?_⟩⟩⟩⟩
  · rw [upd_ne ne] at he
    exact he
  · rw [h5 b b1 b2, upd_ne b1]
end
/-! arguments of given numbers -/
section
variable {X : Cx} {d : CD} {p pos p1 p2 : Pos} {a b : Expr} {ta tb : TE} {x : Str} {n1 n2 : Option Str}
abbrev tA1 (ta : TE) : TA := tCons ta tNil
abbrev tA2 (ta tb : TE) : TA := tCons ta (tCons tb tNil)
def Tm (t : TE) : Prop := ∀ σ H (R R' : VK), (∀ v H1, R v H1 → R' v H1) → t σ H R → t σ H R'
theorem tm_var (i : Nat) : Tm (tVar i) := fun σ H R R' k h => by
  obtain ⟨v, e, q⟩ := h
  exact ⟨v, e, k _ _ q⟩
/-- X(a) -/
theorem pe_new1 (M : Mk0 X.prog X.w X.K X.mg X.base d) (h1 : d.ps.length = 1) (hr : Room 2 X.A) (hg : Gl X d.nm) (ha : PE X a ta) (hm : Tm ta) (hdb : (d.nm == ("__debug__" : Str)) = false)
    (hA : PA X [a] (tA1 ta)) (he : starEach [a] X.env = (false, eval a X.env) :: starEach [] X.env := by rfl) (hpl : (backTo pos (starEach [] X.env)).any (·.1) = false := by rfl) :
    PE X (.Call (.Name d.nm p) [a] [] pos) (fun σ H Q => ta σ H fun v H1 => ∀ x H', Made H1 H' x d [v] → Q (.ref x) H') := by
  obtain ⟨fd, F, hb, _⟩ := M.ex
  have hb1 := hb 1 (by omega)
  rw [List.drop_of_length_le (by omega)] at hb1
  have R := pe_xmkP (n := 1) (p := p) (pos := pos) M.T M.iC M.fI F hr hg M.mgC hb1 pass0 (by decide) hA hdb he hpl
  refine ⟨fun pins s σ H Q I h => R.run pins s σ H Q I (new_conv (g := GA) (fun a vs zs => rfl) (fun vs zs l1 l2 => by rw [List.length_append]; omega) ?_ ?_ ?_ ?_ ?_)⟩
  · exact fun {R} h => hm σ H _ _ (fun v H1 q => ⟨rfl, q⟩) h
  · exact fun {H1 R} h => ⟨rfl, h⟩
  · exact fun {R R'} k h => hm σ H _ _ (fun v H1 q => k _ _ q) h
  · exact fun {H1 R R'} k h => k _ _ h
  · exact h
/-- X(k=a) -/
theorem pe_new1K (M : Mk0 X.prog X.w X.K X.mg X.base d) (hp : d.ps = [x]) (hr : Room 2 X.A) (hg : Gl X d.nm) (hm : Tm ta) (hdb : (d.nm == ("__debug__" : Str)) = false)
    (hA : PK X [⟨some x, a, p1⟩] (tA1 ta)) (hall : (backToKw pos (keywordEach [⟨some x, a, p1⟩] X.env)).all (·.1.isSome) = true := by rfl) (hks : (backToKw pos (keywordEach [⟨some x, a, p1⟩] X.env)).filterMap (·.1) = [x] := by rfl)
    (hpl : ((backTo pos (starEach [] X.env)).any (·.1) || (backToKw pos (keywordEach [⟨some x, a, p1⟩] X.env)).any (·.1.isNone)) = false := by rfl) :
    PE X (.Call (.Name d.nm p) [] [⟨some x, a, p1⟩] pos) (fun σ H Q => ta σ H fun v H1 => ∀ x H', Made H1 H' x d [v] → Q (.ref x) H') := by
  obtain ⟨fd, F, hb, _⟩ := M.ex
  have hb1 := hb 0 (by omega)
  rw [List.drop_zero] at hb1
  have R := pe_xmkK (p := p) (pos := pos) M.T M.iC M.fI F hr hg M.mgC hb1 pass0 hA hall (by rw [hks, hp]) hdb hpl
  refine ⟨fun pins s σ H Q I h => R.run pins s σ H Q I (new_conv (g := GA) (fun a vs zs => rfl) (fun vs zs l1 l2 => by rw [List.length_append, l1, l2]; omega) ?_ ?_ ?_ ?_ ?_)⟩
  · exact fun {R} h => ⟨rfl, h⟩
  · exact fun {H1 R} h => hm σ H1 _ _ (fun v H2 q => ⟨by rw [hp]; rfl, q⟩) h
  · exact fun {R R'} k h => k _ _ h
  · exact fun {H1 R R'} k h => hm σ H1 _ _ (fun v H1 q => k _ _ q) h
  · exact h
/-- X(a, b) -/
theorem pe_new2 (M : Mk0 X.prog X.w X.K X.mg X.base d) (h1 : d.ps.length = 2) (hr : Room 2 X.A) (hg : Gl X d.nm) (hm : Tm ta) (hm2 : Tm tb) (hdb : (d.nm == ("__debug__" : Str)) = false)
    (hA : PA X [a, b] (tA2 ta tb)) (he : starEach [a, b] X.env = (false, eval a X.env) :: starEach [b] X.env := by rfl) (hpl : (backTo pos (starEach [b] X.env)).any (·.1) = false := by rfl) :
    PE X (.Call (.Name d.nm p) [a, b] [] pos) (fun σ H Q => ta σ H fun v H1 => tb σ H1 fun u H2 => ∀ x H', Made H2 H' x d [v, u] → Q (.ref x) H') := by
  obtain ⟨fd, F, hb, _⟩ := M.ex
  have hb1 := hb 2 (by omega)
  rw [List.drop_of_length_le (by omega)] at hb1
  have R := pe_xmkP (n := 2) (p := p) (pos := pos) M.T M.iC M.fI F hr hg M.mgC hb1 pass0 (by decide) hA hdb he hpl
  refine ⟨fun pins s σ H Q I h => R.run pins s σ H Q I (new_conv (g := GA) (fun a vs zs => rfl) (fun vs zs l1 l2 => by rw [List.length_append]; omega) ?_ ?_ ?_ ?_ ?_)⟩
  · exact fun {R} h => hm σ H _ _ (fun v H1 q => hm2 σ H1 _ _ (fun u H2 q => ⟨rfl, q⟩) q) h
  · exact fun {H1 R} h => ⟨rfl, h⟩
  · exact fun {R R'} k h => hm σ H _ _ (fun v H1 q => hm2 σ H1 _ _ (fun u H2 q => k _ _ q) q) h
  · exact fun {H1 R R'} k h => k _ _ h
  · exact h
/-- X(k=a, l=b) -/
theorem pe_new2K {y : Str} (M : Mk0 X.prog X.w X.K X.mg X.base d) (hp : d.ps = [x, y]) (hr : Room 2 X.A) (hg : Gl X d.nm) (hm : Tm ta) (hm2 : Tm tb) (hdb : (d.nm == ("__debug__" : Str)) = false)
    (hA : PK X [⟨some x, a, p1⟩, ⟨some y, b, p2⟩] (tA2 ta tb)) (hall : (backToKw pos (keywordEach [⟨some x, a, p1⟩, ⟨some y, b, p2⟩] X.env)).all (·.1.isSome) = true := by rfl) (hks : (backToKw pos (keywordEach [⟨some x, a, p1⟩, ⟨some y, b, p2⟩] X.env)).filterMap (·.1) = [x, y] := by rfl)
    (hpl : ((backTo pos (starEach [] X.env)).any (·.1) || (backToKw pos (keywordEach [⟨some x, a, p1⟩, ⟨some y, b, p2⟩] X.env)).any (·.1.isNone)) = false := by rfl) :
    PE X (.Call (.Name d.nm p) [] [⟨some x, a, p1⟩, ⟨some y, b, p2⟩] pos) (fun σ H Q => ta σ H fun v H1 => tb σ H1 fun u H2 => ∀ x H', Made H2 H' x d [v, u] → Q (.ref x) H') := by
  obtain ⟨fd, F, hb, _⟩ := M.ex
  have hb1 := hb 0 (by omega)
  rw [List.drop_zero] at hb1
  have R := pe_xmkK (p := p) (pos := pos) M.T M.iC M.fI F hr hg M.mgC hb1 pass0 hA hall (by rw [hks, hp]) hdb hpl
  refine ⟨fun pins s σ H Q I h => R.run pins s σ H Q I (new_conv (g := GA) (fun a vs zs => rfl) (fun vs zs l1 l2 => by rw [List.length_append, l1, l2]; omega) ?_ ?_ ?_ ?_ ?_)⟩
  · exact fun {R} h => ⟨rfl, h⟩
  · exact fun {H1 R} h => hm σ H1 _ _ (fun v H2 q => hm2 σ H2 _ _ (fun u H3 q => ⟨by rw [hp]; rfl, q⟩) q) h
  · exact fun {R R'} k h => k _ _ h
  · exact fun {H1 R R'} k h => hm σ H1 _ _ (fun v H2 q => hm2 σ H2 _ _ (fun u H3 q => k _ _ q) q) h
  · exact h
/-- X(l=b, k=a) -/
theorem pe_new2S {y : Str} (M : Mk0 X.prog X.w X.K X.mg X.base d) (hp : d.ps = [y, x]) (hr : Room 2 X.A) (hg : Gl X d.nm) (hm : Tm ta) (hm2 : Tm tb) (hdb : (d.nm == ("__debug__" : Str)) = false)
    (hA : PK X [⟨some x, a, p1⟩, ⟨some y, b, p2⟩] (tA2 ta tb)) (hall : (backToKw pos (keywordEach [⟨some x, a, p1⟩, ⟨some y, b, p2⟩] X.env)).all (·.1.isSome) = true := by rfl) (hks : (backToKw pos (keywordEach [⟨some x, a, p1⟩, ⟨some y, b, p2⟩] X.env)).filterMap (·.1) = [x, y] := by rfl)
    (hpl : ((backTo pos (starEach [] X.env)).any (·.1) || (backToKw pos (keywordEach [⟨some x, a, p1⟩, ⟨some y, b, p2⟩] X.env)).any (·.1.isNone)) = false := by rfl) :
    PE X (.Call (.Name d.nm p) [] [⟨some x, a, p1⟩, ⟨some y, b, p2⟩] pos) (fun σ H Q => ta σ H fun v H1 => tb σ H1 fun u H2 => ∀ x H', Made H2 H' x d [u, v] → Q (.ref x) H') := by
  obtain ⟨fd, F, _, hb1⟩ := M.ex
  have R := pe_xmkK (p := p) (pos := pos) M.T M.iC M.fI F hr hg M.mgC hb1 pass0 hA hall (by rw [hks, hp]; rfl) hdb hpl
  refine ⟨fun pins s σ H Q I h => R.run pins s σ H Q I (new_conv (g := SA) (fun a vs zs => rfl) (fun vs zs l1 l2 => by rw [List.length_append, List.length_reverse, l1, l2, List.length_reverse]; omega) ?_ ?_ ?_ ?_ ?_)⟩
  · exact fun {R} h => ⟨rfl, h⟩
  · exact fun {H1 R} h => hm σ H1 _ _ (fun v H2 q => hm2 σ H2 _ _ (fun u H3 q => ⟨by rw [hp]; rfl, q⟩) q) h
  · exact fun {R R'} k h => k _ _ h
  · exact fun {H1 R R'} k h => hm σ H1 _ _ (fun v H2 q => hm2 σ H2 _ _ (fun u H3 q => k _ _ q) q) h
  · exact h
/-- X(a, l=b) -/
theorem pe_new2M {y : Str} (M : Mk0 X.prog X.w X.K X.mg X.base d) (hp : d.ps = [x, y]) (hr : Room 2 X.A) (hg : Gl X d.nm) (hm : Tm ta) (hm2 : Tm tb) (hdb : (d.nm == ("__debug__" : Str)) = false)
    (hA : PA X [a] (tA1 ta)) (hB : PK X [⟨some y, b, p2⟩] (tA1 tb)) (hall : (backToKw pos (keywordEach [⟨some y, b, p2⟩] X.env)).all (·.1.isSome) = true := by rfl) (hks : (backToKw pos (keywordEach [⟨some y, b, p2⟩] X.env)).filterMap (·.1) = [y] := by rfl)
    (he : starEach [a] X.env = (false, eval a X.env) :: starEach [] X.env := by rfl) (hpl : ((backTo pos (starEach [a] X.env)).any (·.1) || (backToKw pos (keywordEach [⟨some y, b, p2⟩] X.env)).any (·.1.isNone)) = false := by rfl) :
    PE X (.Call (.Name d.nm p) [a] [⟨some y, b, p2⟩] pos) (fun σ H Q => ta σ H fun v H1 => tb σ H1 fun u H2 => ∀ x H', Made H2 H' x d [v, u] → Q (.ref x) H') := by
  obtain ⟨fd, F, hb, _⟩ := M.ex
  have hb1 := hb 1 (by rw [hp]; exact Nat.le_succ 1)
  have R := pe_xmk (n := 1) (p := p) (pos := pos) M.T M.iC M.fI F hr hg M.mgC hb1 pass0 (by decide) hA hB hall (by rw [hks, hp]; rfl) hdb he hpl
  refine ⟨fun pins s σ H Q I h => R.run pins s σ H Q I (new_conv (g := GA) (fun a vs zs => rfl) (fun vs zs l1 l2 => by rw [List.length_append, l1, l2, hp]; rfl) ?_ ?_ ?_ ?_ ?_)⟩
  · exact fun {R} h => hm σ H _ _ (fun v H1 q => ⟨rfl, q⟩) h
  · exact fun {H1 R} h => hm2 σ H1 _ _ (fun v H2 q => ⟨by rw [hp]; rfl, q⟩) h
  · exact fun {R R'} k h => hm σ H _ _ (fun v H1 q => k _ _ q) h
  · exact fun {H1 R R'} k h => hm2 σ H1 _ _ (fun v H1 q => k _ _ q) h
  · exact h
/-- X() -/
theorem pe_new0 (M : Mk0 X.prog X.w X.K X.mg X.base d) (hp : d.ps = []) (hr : Room 2 X.A) (hg : Gl X d.nm) (hdb : (d.nm == ("__debug__" : Str)) = false) :
    PE X (.Call (.Name d.nm p) [] [] pos) (fun σ H Q => ∀ x H', Made H H' x d [] → Q (.ref x) H') := by
  obtain ⟨fd, F, hb, _⟩ := M.ex
  have hb1 := hb 0 (by omega)
  rw [List.drop_zero, hp] at hb1
  rw [hp] at F
  have R := pe_xmk0 (p := p) (pos := pos) M.T M.iC M.fI F hr hg M.mgC hb1 pass0 hdb
  refine ⟨fun pins s σ H Q I h => R.run pins s σ H Q I (new_conv (g := GA) (fun a vs zs => rfl) (fun vs zs l1 l2 => by rw [List.length_append, l1, l2, hp]; rfl) ?_ ?_ ?_ ?_ ?_)⟩
  · exact fun {R} h => ⟨rfl, h⟩
  · exact fun {H1 R} h => ⟨rfl, h⟩
  · exact fun {R R'} k h => k _ _ h
  · exact fun {H1 R R'} k h => k _ _ h
  · exact h
end
end Kz
end
section
set_option maxHeartbeats 4000000
namespace Kz
open PySem PySem.Spec PyProof.Rows L2
section
variable {P : Program} {w : World} {K : PySem.W.Frag} {mg : Str → Option Value} {base : Heap} {f : Addr} {fd : FuncData}
def InitP (P : Program) (w : World) (K : PySem.W.Frag) (mg : Str → Option Value) (base : Heap) (d : CD) : Prop := ∀ (f : Addr) (fd : FuncData), Fun K "__init__" (qual d) (initS d) f fd → XC K d.C → PySem.W.findIn K (.ref d.C) "code" = some none → (∀ x ∈ d.ps, PySem.W.findIn K (.ref d.C) x = some none) →
  FnOk P w K mg base CX0 1 f fd ("self" :: d.ps) (spInit d) ∧ (∀ n, n ≤ d.ps.length → KBn K fd ("self" :: d.ps) (n + 1) (d.ps.drop n) GB GA) ∧ KBn K fd ("self" :: d.ps) 1 d.ps.reverse SB SA
abbrev c_InvalidNumber : CD := ⟨"InvalidNumber", 0, ["value"], 2, 44⟩
theorem sc_InvalidNumber : FnScope ["self", "value"] ["self", "value"] (defScope (initS c_InvalidNumber)) := ⟨rfl, rfl, rfl, by decide +kernel, rfl, by decide +kernel, by decide +kernel⟩
theorem init_InvalidNumber : InitP P w K mg base c_InvalidNumber := by
  intro f fd F T n0 nx
  refine ⟨?_, ?_, ?_⟩
  · refine F.ok sc_InvalidNumber (fun vs H Q E h => ?_) (fun cdv A outer s H vs Q E hr h => ?_)
    · obtain ⟨a, ws, rfl, l, _⟩ := h
      exact congrArg Nat.succ l
    obtain ⟨a, ws, rfl, l, ha, q⟩ := h
    obtain ⟨v, rfl⟩ : ∃ v, ws = [v] := by match ws, l with | [v], _ => exact ⟨v, rfl⟩
    refine ⟨_, pss_cons (ps_xst (pv 0) pe_str) (pss_one (ps_xst (pv 0) (pv 1))), ?_⟩
    refine ⟨_, rfl, a, _, rfl, T, n0, .inl ⟨ha, fun e H1 ne he h1 h2 h3 => ?_⟩⟩
    refine ⟨_, rfl, _, rfl, a, _, rfl, T, nx _ List.mem_cons_self, .inr ⟨e, _, h1, h2, (by show 1 ≤ 900; decide), ?_⟩⟩
    exact q e _ ne he (by rw [upd_ne (Ne.symm ne)]; exact h1) (by rw [upd_same]; rfl) (fun b b1 b2 => by rw [upd_ne b2]; exact h3 b b1 b2)
  · obtain ⟨oc, od, kV, doc, pm, an, cdv, ct, osl, rfl, lk, hcd⟩ := F.ex
    intro n hn
    refine ⟨fun s us ws X l1 l2 => ?_, rel_ga⟩
    have hn' : n ≤ 1 := hn
    rcases (show n = 0 ∨ n = 1 by omega) with rfl | rfl
    · match us, ws, l1, l2 with
      | [_], [_], _, _ => exact .of_eq rfl
    · match us, ws, l1, l2 with
      | [_, _], [], _, _ => exact .of_eq rfl
  · obtain ⟨oc, od, kV, doc, pm, an, cdv, ct, osl, rfl, lk, hcd⟩ := F.ex
    refine ⟨fun s us ws X l1 l2 => ?_, rel_sa⟩
    match us, ws, l1, l2 with
    | [_], [_], _, _ => exact .of_eq rfl
abbrev c_InvalidFraction : CD := ⟨"InvalidFraction", 0, ["at"], 3, 63⟩
theorem sc_InvalidFraction : FnScope ["self", "at"] ["self", "at"] (defScope (initS c_InvalidFraction)) := ⟨rfl, rfl, rfl, by decide +kernel, rfl, by decide +kernel, by decide +kernel⟩
theorem init_InvalidFraction : InitP P w K mg base c_InvalidFraction := by
  intro f fd F T n0 nx
  refine ⟨?_, ?_, ?_⟩
  · refine F.ok sc_InvalidFraction (fun vs H Q E h => ?_) (fun cdv A outer s H vs Q E hr h => ?_)
    · obtain ⟨a, ws, rfl, l, _⟩ := h
      exact congrArg Nat.succ l
    obtain ⟨a, ws, rfl, l, ha, q⟩ := h
    obtain ⟨v, rfl⟩ : ∃ v, ws = [v] := by match ws, l with | [v], _ => exact ⟨v, rfl⟩
    refine ⟨_, pss_cons (ps_xst (pv 0) pe_str) (pss_one (ps_xst (pv 0) (pv 1))), ?_⟩
    refine ⟨_, rfl, a, _, rfl, T, n0, .inl ⟨ha, fun e H1 ne he h1 h2 h3 => ?_⟩⟩
    refine ⟨_, rfl, _, rfl, a, _, rfl, T, nx _ List.mem_cons_self, .inr ⟨e, _, h1, h2, (by show 1 ≤ 900; decide), ?_⟩⟩
    exact q e _ ne he (by rw [upd_ne (Ne.symm ne)]; exact h1) (by rw [upd_same]; rfl) (fun b b1 b2 => by rw [upd_ne b2]; exact h3 b b1 b2)
  · obtain ⟨oc, od, kV, doc, pm, an, cdv, ct, osl, rfl, lk, hcd⟩ := F.ex
    intro n hn
    refine ⟨fun s us ws X l1 l2 => ?_, rel_ga⟩
    have hn' : n ≤ 1 := hn
    rcases (show n = 0 ∨ n = 1 by omega) with rfl | rfl
    · match us, ws, l1, l2 with
      | [_], [_], _, _ => exact .of_eq rfl
    · match us, ws, l1, l2 with
      | [_, _], [], _, _ => exact .of_eq rfl
  · obtain ⟨oc, od, kV, doc, pm, an, cdv, ct, osl, rfl, lk, hcd⟩ := F.ex
    refine ⟨fun s us ws X l1 l2 => ?_, rel_sa⟩
    match us, ws, l1, l2 with
    | [_], [_], _, _ => exact .of_eq rfl
abbrev c_InvalidOrder : CD := ⟨"InvalidOrder", 0, ["value"], 4, 82⟩
theorem sc_InvalidOrder : FnScope ["self", "value"] ["self", "value"] (defScope (initS c_InvalidOrder)) := ⟨rfl, rfl, rfl, by decide +kernel, rfl, by decide +kernel, by decide +kernel⟩
theorem init_InvalidOrder : InitP P w K mg base c_InvalidOrder := by
  intro f fd F T n0 nx
  refine ⟨?_, ?_, ?_⟩
  · refine F.ok sc_InvalidOrder (fun vs H Q E h => ?_) (fun cdv A outer s H vs Q E hr h => ?_)
    · obtain ⟨a, ws, rfl, l, _⟩ := h
      exact congrArg Nat.succ l
    obtain ⟨a, ws, rfl, l, ha, q⟩ := h
    obtain ⟨v, rfl⟩ : ∃ v, ws = [v] := by match ws, l with | [v], _ => exact ⟨v, rfl⟩
    refine ⟨_, pss_cons (ps_xst (pv 0) pe_str) (pss_one (ps_xst (pv 0) (pv 1))), ?_⟩
    refine ⟨_, rfl, a, _, rfl, T, n0, .inl ⟨ha, fun e H1 ne he h1 h2 h3 => ?_⟩⟩
    refine ⟨_, rfl, _, rfl, a, _, rfl, T, nx _ List.mem_cons_self, .inr ⟨e, _, h1, h2, (by show 1 ≤ 900; decide), ?_⟩⟩
    exact q e _ ne he (by rw [upd_ne (Ne.symm ne)]; exact h1) (by rw [upd_same]; rfl) (fun b b1 b2 => by rw [upd_ne b2]; exact h3 b b1 b2)
  · obtain ⟨oc, od, kV, doc, pm, an, cdv, ct, osl, rfl, lk, hcd⟩ := F.ex
    intro n hn
    refine ⟨fun s us ws X l1 l2 => ?_, rel_ga⟩
    have hn' : n ≤ 1 := hn
    rcases (show n = 0 ∨ n = 1 by omega) with rfl | rfl
    · match us, ws, l1, l2 with
      | [_], [_], _, _ => exact .of_eq rfl
    · match us, ws, l1, l2 with
      | [_, _], [], _, _ => exact .of_eq rfl
  · obtain ⟨oc, od, kV, doc, pm, an, cdv, ct, osl, rfl, lk, hcd⟩ := F.ex
    refine ⟨fun s us ws X l1 l2 => ?_, rel_sa⟩
    match us, ws, l1, l2 with
    | [_], [_], _, _ => exact .of_eq rfl
abbrev c_OrderTooLow : CD := ⟨"OrderTooLow", 0, ["have", "wanted"], 5, 101⟩
theorem sc_OrderTooLow : FnScope ["self", "have", "wanted"] ["self", "have", "wanted"] (defScope (initS c_OrderTooLow)) := ⟨rfl, rfl, rfl, by decide +kernel, rfl, by decide +kernel, by decide +kernel⟩
theorem init_OrderTooLow : InitP P w K mg base c_OrderTooLow := by
  intro f fd F T n0 nx
  refine ⟨?_, ?_, ?_⟩
  · refine F.ok sc_OrderTooLow (fun vs H Q E h => ?_) (fun cdv A outer s H vs Q E hr h => ?_)
    · obtain ⟨a, ws, rfl, l, _⟩ := h
      exact congrArg Nat.succ l
    obtain ⟨a, ws, rfl, l, ha, q⟩ := h
    obtain ⟨v, u, rfl⟩ : ∃ v u, ws = [v, u] := by match ws, l with | [v, u], _ => exact ⟨v, u, rfl⟩
    refine ⟨_, pss_cons (ps_xst (pv 0) pe_str) (pss_cons (ps_xst (pv 0) (pv 1)) (pss_one (ps_xst (pv 0) (pv 2)))), ?_⟩
    refine ⟨_, rfl, a, _, rfl, T, n0, .inl ⟨ha, fun e H1 ne he h1 h2 h3 => ?_⟩⟩
    refine ⟨_, rfl, _, rfl, a, _, rfl, T, nx _ List.mem_cons_self, .inr ⟨e, _, h1, h2, (by show 1 ≤ 900; decide), ?_⟩⟩
    refine ⟨_, rfl, _, rfl, a, _, rfl, T, nx _ (List.mem_cons_of_mem _ List.mem_cons_self), .inr ⟨e, _, (by rw [upd_ne (Ne.symm ne)]; exact h1), upd_same, (by show 2 ≤ 900; decide), ?_⟩⟩
    exact q e _ ne he (by rw [upd_ne (Ne.symm ne), upd_ne (Ne.symm ne)]; exact h1) (by rw [upd_same]; rfl) (fun b b1 b2 => by rw [upd_ne b2, upd_ne b2]; exact h3 b b1 b2)
  · obtain ⟨oc, od, kV, doc, pm, an, cdv, ct, osl, rfl, lk, hcd⟩ := F.ex
    intro n hn
    refine ⟨fun s us ws X l1 l2 => ?_, rel_ga⟩
    have hn' : n ≤ 2 := hn
    rcases (show n = 0 ∨ n = 1 ∨ n = 2 by omega) with rfl | rfl | rfl
    · match us, ws, l1, l2 with
      | [_], [_, _], _, _ => exact .of_eq rfl
    · match us, ws, l1, l2 with
      | [_, _], [_], _, _ => exact .of_eq rfl
    · match us, ws, l1, l2 with
      | [_, _, _], [], _, _ => exact .of_eq rfl
  · obtain ⟨oc, od, kV, doc, pm, an, cdv, ct, osl, rfl, lk, hcd⟩ := F.ex
    refine ⟨fun s us ws X l1 l2 => ?_, rel_sa⟩
    match us, ws, l1, l2 with
    | [_], [_, _], _, _ => exact .of_eq rfl
abbrev c_UnlikeOrders : CD := ⟨"UnlikeOrders", 0, ["one", "other"], 6, 120⟩
theorem sc_UnlikeOrders : FnScope ["self", "one", "other"] ["self", "one", "other"] (defScope (initS c_UnlikeOrders)) := ⟨rfl, rfl, rfl, by decide +kernel, rfl, by decide +kernel, by decide +kernel⟩
theorem init_UnlikeOrders : InitP P w K mg base c_UnlikeOrders := by
  intro f fd F T n0 nx
  refine ⟨?_, ?_, ?_⟩
  · refine F.ok sc_UnlikeOrders (fun vs H Q E h => ?_) (fun cdv A outer s H vs Q E hr h => ?_)
    · obtain ⟨a, ws, rfl, l, _⟩ := h
      exact congrArg Nat.succ l
    obtain ⟨a, ws, rfl, l, ha, q⟩ := h
    obtain ⟨v, u, rfl⟩ : ∃ v u, ws = [v, u] := by match ws, l with | [v, u], _ => exact ⟨v, u, rfl⟩
    refine ⟨_, pss_cons (ps_xst (pv 0) pe_str) (pss_cons (ps_xst (pv 0) (pv 1)) (pss_one (ps_xst (pv 0) (pv 2)))), ?_⟩
    refine ⟨_, rfl, a, _, rfl, T, n0, .inl ⟨ha, fun e H1 ne he h1 h2 h3 => ?_⟩⟩
    refine ⟨_, rfl, _, rfl, a, _, rfl, T, nx _ List.mem_cons_self, .inr ⟨e, _, h1, h2, (by show 1 ≤ 900; decide), ?_⟩⟩
    refine ⟨_, rfl, _, rfl, a, _, rfl, T, nx _ (List.mem_cons_of_mem _ List.mem_cons_self), .inr ⟨e, _, (by rw [upd_ne (Ne.symm ne)]; exact h1), upd_same, (by show 2 ≤ 900; decide), ?_⟩⟩
    exact q e _ ne he (by rw [upd_ne (Ne.symm ne), upd_ne (Ne.symm ne)]; exact h1) (by rw [upd_same]; rfl) (fun b b1 b2 => by rw [upd_ne b2, upd_ne b2]; exact h3 b b1 b2)
  · obtain ⟨oc, od, kV, doc, pm, an, cdv, ct, osl, rfl, lk, hcd⟩ := F.ex
    intro n hn
    refine ⟨fun s us ws X l1 l2 => ?_, rel_ga⟩
    have hn' : n ≤ 2 := hn
    rcases (show n = 0 ∨ n = 1 ∨ n = 2 by omega) with rfl | rfl | rfl
    · match us, ws, l1, l2 with
      | [_], [_, _], _, _ => exact .of_eq rfl
    · match us, ws, l1, l2 with
      | [_, _], [_], _, _ => exact .of_eq rfl
    · match us, ws, l1, l2 with
      | [_, _, _], [], _, _ => exact .of_eq rfl
  · obtain ⟨oc, od, kV, doc, pm, an, cdv, ct, osl, rfl, lk, hcd⟩ := F.ex
    refine ⟨fun s us ws X l1 l2 => ?_, rel_sa⟩
    match us, ws, l1, l2 with
    | [_], [_, _], _, _ => exact .of_eq rfl
abbrev c_InvalidPlace : CD := ⟨"InvalidPlace", 0, ["value"], 7, 139⟩
theorem sc_InvalidPlace : FnScope ["self", "value"] ["self", "value"] (defScope (initS c_InvalidPlace)) := ⟨rfl, rfl, rfl, by decide +kernel, rfl, by decide +kernel, by decide +kernel⟩
theorem init_InvalidPlace : InitP P w K mg base c_InvalidPlace := by
  intro f fd F T n0 nx
  refine ⟨?_, ?_, ?_⟩
  · refine F.ok sc_InvalidPlace (fun vs H Q E h => ?_) (fun cdv A outer s H vs Q E hr h => ?_)
    · obtain ⟨a, ws, rfl, l, _⟩ := h
      exact congrArg Nat.succ l
    obtain ⟨a, ws, rfl, l, ha, q⟩ := h
    obtain ⟨v, rfl⟩ : ∃ v, ws = [v] := by match ws, l with | [v], _ => exact ⟨v, rfl⟩
    refine ⟨_, pss_cons (ps_xst (pv 0) pe_str) (pss_one (ps_xst (pv 0) (pv 1))), ?_⟩
    refine ⟨_, rfl, a, _, rfl, T, n0, .inl ⟨ha, fun e H1 ne he h1 h2 h3 => ?_⟩⟩
    refine ⟨_, rfl, _, rfl, a, _, rfl, T, nx _ List.mem_cons_self, .inr ⟨e, _, h1, h2, (by show 1 ≤ 900; decide), ?_⟩⟩
    exact q e _ ne he (by rw [upd_ne (Ne.symm ne)]; exact h1) (by rw [upd_same]; rfl) (fun b b1 b2 => by rw [upd_ne b2]; exact h3 b b1 b2)
  · obtain ⟨oc, od, kV, doc, pm, an, cdv, ct, osl, rfl, lk, hcd⟩ := F.ex
    intro n hn
    refine ⟨fun s us ws X l1 l2 => ?_, rel_ga⟩
    have hn' : n ≤ 1 := hn
    rcases (show n = 0 ∨ n = 1 by omega) with rfl | rfl
    · match us, ws, l1, l2 with
      | [_], [_], _, _ => exact .of_eq rfl
    · match us, ws, l1, l2 with
      | [_, _], [], _, _ => exact .of_eq rfl
  · obtain ⟨oc, od, kV, doc, pm, an, cdv, ct, osl, rfl, lk, hcd⟩ := F.ex
    refine ⟨fun s us ws X l1 l2 => ?_, rel_sa⟩
    match us, ws, l1, l2 with
    | [_], [_], _, _ => exact .of_eq rfl
abbrev c_InvalidPower : CD := ⟨"InvalidPower", 0, ["value"], 8, 158⟩
theorem sc_InvalidPower : FnScope ["self", "value"] ["self", "value"] (defScope (initS c_InvalidPower)) := ⟨rfl, rfl, rfl, by decide +kernel, rfl, by decide +kernel, by decide +kernel⟩
theorem init_InvalidPower : InitP P w K mg base c_InvalidPower := by
  intro f fd F T n0 nx
  refine ⟨?_, ?_, ?_⟩
  · refine F.ok sc_InvalidPower (fun vs H Q E h => ?_) (fun cdv A outer s H vs Q E hr h => ?_)
    · obtain ⟨a, ws, rfl, l, _⟩ := h
      exact congrArg Nat.succ l
    obtain ⟨a, ws, rfl, l, ha, q⟩ := h
    obtain ⟨v, rfl⟩ : ∃ v, ws = [v] := by match ws, l with | [v], _ => exact ⟨v, rfl⟩
    refine ⟨_, pss_cons (ps_xst (pv 0) pe_str) (pss_one (ps_xst (pv 0) (pv 1))), ?_⟩
    refine ⟨_, rfl, a, _, rfl, T, n0, .inl ⟨ha, fun e H1 ne he h1 h2 h3 => ?_⟩⟩
    refine ⟨_, rfl, _, rfl, a, _, rfl, T, nx _ List.mem_cons_self, .inr ⟨e, _, h1, h2, (by show 1 ≤ 900; decide), ?_⟩⟩
    exact q e _ ne he (by rw [upd_ne (Ne.symm ne)]; exact h1) (by rw [upd_same]; rfl) (fun b b1 b2 => by rw [upd_ne b2]; exact h3 b b1 b2)
  · obtain ⟨oc, od, kV, doc, pm, an, cdv, ct, osl, rfl, lk, hcd⟩ := F.ex
    intro n hn
    refine ⟨fun s us ws X l1 l2 => ?_, rel_ga⟩
    have hn' : n ≤ 1 := hn
    rcases (show n = 0 ∨ n = 1 by omega) with rfl | rfl
    · match us, ws, l1, l2 with
      | [_], [_], _, _ => exact .of_eq rfl
    · match us, ws, l1, l2 with
      | [_, _], [], _, _ => exact .of_eq rfl
  · obtain ⟨oc, od, kV, doc, pm, an, cdv, ct, osl, rfl, lk, hcd⟩ := F.ex
    refine ⟨fun s us ws X l1 l2 => ?_, rel_sa⟩
    match us, ws, l1, l2 with
    | [_], [_], _, _ => exact .of_eq rfl
abbrev c_InvalidTimes : CD := ⟨"InvalidTimes", 0, ["value"], 9, 177⟩
theorem sc_InvalidTimes : FnScope ["self", "value"] ["self", "value"] (defScope (initS c_InvalidTimes)) := ⟨rfl, rfl, rfl, by decide +kernel, rfl, by decide +kernel, by decide +kernel⟩
theorem init_InvalidTimes : InitP P w K mg base c_InvalidTimes := by
  intro f fd F T n0 nx
  refine ⟨?_, ?_, ?_⟩
  · refine F.ok sc_InvalidTimes (fun vs H Q E h => ?_) (fun cdv A outer s H vs Q E hr h => ?_)
    · obtain ⟨a, ws, rfl, l, _⟩ := h
      exact congrArg Nat.succ l
    obtain ⟨a, ws, rfl, l, ha, q⟩ := h
    obtain ⟨v, rfl⟩ : ∃ v, ws = [v] := by match ws, l with | [v], _ => exact ⟨v, rfl⟩
    refine ⟨_, pss_cons (ps_xst (pv 0) pe_str) (pss_one (ps_xst (pv 0) (pv 1))), ?_⟩
    refine ⟨_, rfl, a, _, rfl, T, n0, .inl ⟨ha, fun e H1 ne he h1 h2 h3 => ?_⟩⟩
    refine ⟨_, rfl, _, rfl, a, _, rfl, T, nx _ List.mem_cons_self, .inr ⟨e, _, h1, h2, (by show 1 ≤ 900; decide), ?_⟩⟩
    exact q e _ ne he (by rw [upd_ne (Ne.symm ne)]; exact h1) (by rw [upd_same]; rfl) (fun b b1 b2 => by rw [upd_ne b2]; exact h3 b b1 b2)
  · obtain ⟨oc, od, kV, doc, pm, an, cdv, ct, osl, rfl, lk, hcd⟩ := F.ex
    intro n hn
    refine ⟨fun s us ws X l1 l2 => ?_, rel_ga⟩
    have hn' : n ≤ 1 := hn
    rcases (show n = 0 ∨ n = 1 by omega) with rfl | rfl
    · match us, ws, l1, l2 with
      | [_], [_], _, _ => exact .of_eq rfl
    · match us, ws, l1, l2 with
      | [_, _], [], _, _ => exact .of_eq rfl
  · obtain ⟨oc, od, kV, doc, pm, an, cdv, ct, osl, rfl, lk, hcd⟩ := F.ex
    refine ⟨fun s us ws X l1 l2 => ?_, rel_sa⟩
    match us, ws, l1, l2 with
    | [_], [_], _, _ => exact .of_eq rfl
abbrev c_InvalidText : CD := ⟨"InvalidText", 0, ["at"], 10, 196⟩
theorem sc_InvalidText : FnScope ["self", "at"] ["self", "at"] (defScope (initS c_InvalidText)) := ⟨rfl, rfl, rfl, by decide +kernel, rfl, by decide +kernel, by decide +kernel⟩
theorem init_InvalidText : InitP P w K mg base c_InvalidText := by
  intro f fd F T n0 nx
  refine ⟨?_, ?_, ?_⟩
  · refine F.ok sc_InvalidText (fun vs H Q E h => ?_) (fun cdv A outer s H vs Q E hr h => ?_)
    · obtain ⟨a, ws, rfl, l, _⟩ := h
      exact congrArg Nat.succ l
    obtain ⟨a, ws, rfl, l, ha, q⟩ := h
    obtain ⟨v, rfl⟩ : ∃ v, ws = [v] := by match ws, l with | [v], _ => exact ⟨v, rfl⟩
    refine ⟨_, pss_cons (ps_xst (pv 0) pe_str) (pss_one (ps_xst (pv 0) (pv 1))), ?_⟩
    refine ⟨_, rfl, a, _, rfl, T, n0, .inl ⟨ha, fun e H1 ne he h1 h2 h3 => ?_⟩⟩
    refine ⟨_, rfl, _, rfl, a, _, rfl, T, nx _ List.mem_cons_self, .inr ⟨e, _, h1, h2, (by show 1 ≤ 900; decide), ?_⟩⟩
    exact q e _ ne he (by rw [upd_ne (Ne.symm ne)]; exact h1) (by rw [upd_same]; rfl) (fun b b1 b2 => by rw [upd_ne b2]; exact h3 b b1 b2)
  · obtain ⟨oc, od, kV, doc, pm, an, cdv, ct, osl, rfl, lk, hcd⟩ := F.ex
    intro n hn
    refine ⟨fun s us ws X l1 l2 => ?_, rel_ga⟩
    have hn' : n ≤ 1 := hn
    rcases (show n = 0 ∨ n = 1 by omega) with rfl | rfl
    · match us, ws, l1, l2 with
      | [_], [_], _, _ => exact .of_eq rfl
    · match us, ws, l1, l2 with
      | [_, _], [], _, _ => exact .of_eq rfl
  · obtain ⟨oc, od, kV, doc, pm, an, cdv, ct, osl, rfl, lk, hcd⟩ := F.ex
    refine ⟨fun s us ws X l1 l2 => ?_, rel_sa⟩
    match us, ws, l1, l2 with
    | [_], [_], _, _ => exact .of_eq rfl
abbrev c_InvalidTable : CD := ⟨"InvalidTable", 0, ["at"], 11, 215⟩
theorem sc_InvalidTable : FnScope ["self", "at"] ["self", "at"] (defScope (initS c_InvalidTable)) := ⟨rfl, rfl, rfl, by decide +kernel, rfl, by decide +kernel, by decide +kernel⟩
theorem init_InvalidTable : InitP P w K mg base c_InvalidTable := by
  intro f fd F T n0 nx
  refine ⟨?_, ?_, ?_⟩
  · refine F.ok sc_InvalidTable (fun vs H Q E h => ?_) (fun cdv A outer s H vs Q E hr h => ?_)
    · obtain ⟨a, ws, rfl, l, _⟩ := h
      exact congrArg Nat.succ l
    obtain ⟨a, ws, rfl, l, ha, q⟩ := h
    obtain ⟨v, rfl⟩ : ∃ v, ws = [v] := by match ws, l with | [v], _ => exact ⟨v, rfl⟩
    refine ⟨_, pss_cons (ps_xst (pv 0) pe_str) (pss_one (ps_xst (pv 0) (pv 1))), ?_⟩
    refine ⟨_, rfl, a, _, rfl, T, n0, .inl ⟨ha, fun e H1 ne he h1 h2 h3 => ?_⟩⟩
    refine ⟨_, rfl, _, rfl, a, _, rfl, T, nx _ List.mem_cons_self, .inr ⟨e, _, h1, h2, (by show 1 ≤ 900; decide), ?_⟩⟩
    exact q e _ ne he (by rw [upd_ne (Ne.symm ne)]; exact h1) (by rw [upd_same]; rfl) (fun b b1 b2 => by rw [upd_ne b2]; exact h3 b b1 b2)
  · obtain ⟨oc, od, kV, doc, pm, an, cdv, ct, osl, rfl, lk, hcd⟩ := F.ex
    intro n hn
    refine ⟨fun s us ws X l1 l2 => ?_, rel_ga⟩
    have hn' : n ≤ 1 := hn
    rcases (show n = 0 ∨ n = 1 by omega) with rfl | rfl
    · match us, ws, l1, l2 with
      | [_], [_], _, _ => exact .of_eq rfl
    · match us, ws, l1, l2 with
      | [_, _], [], _, _ => exact .of_eq rfl
  · obtain ⟨oc, od, kV, doc, pm, an, cdv, ct, osl, rfl, lk, hcd⟩ := F.ex
    refine ⟨fun s us ws X l1 l2 => ?_, rel_sa⟩
    match us, ws, l1, l2 with
    | [_], [_], _, _ => exact .of_eq rfl
abbrev c_CantTurn : CD := ⟨"CantTurn", 0, [], 12, 234⟩
theorem sc_CantTurn : FnScope ["self"] ["self"] (defScope (initS c_CantTurn)) := ⟨rfl, rfl, rfl, by decide +kernel, rfl, by decide +kernel, by decide +kernel⟩
theorem init_CantTurn : InitP P w K mg base c_CantTurn := by
  intro f fd F T n0 nx
  refine ⟨?_, ?_, ?_⟩
  · refine F.ok sc_CantTurn (fun vs H Q E h => ?_) (fun cdv A outer s H vs Q E hr h => ?_)
    · obtain ⟨a, ws, rfl, l, _⟩ := h
      exact congrArg Nat.succ l
    obtain ⟨a, ws, rfl, l, ha, q⟩ := h
    obtain rfl : ws = [] := by match ws, l with | [], _ => rfl
    refine ⟨_, pss_one (ps_xst (pv 0) pe_str), ?_⟩
    exact ⟨_, rfl, a, _, rfl, T, n0, .inl ⟨ha, fun e H1 ne he h1 h2 h3 => q e _ ne he h1 h2 h3⟩⟩
  · obtain ⟨oc, od, kV, doc, pm, an, cdv, ct, osl, rfl, lk, hcd⟩ := F.ex
    intro n hn
    refine ⟨fun s us ws X l1 l2 => ?_, rel_ga⟩
    obtain rfl : n = 0 := Nat.le_zero.mp hn
    match us, ws, l1, l2 with
    | [_], [], _, _ => exact .of_eq rfl
  · obtain ⟨oc, od, kV, doc, pm, an, cdv, ct, osl, rfl, lk, hcd⟩ := F.ex
    refine ⟨fun s us ws X l1 l2 => ?_, rel_sa⟩
    match us, ws, l1, l2 with
    | [_], [], _, _ => exact .of_eq rfl
abbrev c_NotSlow : CD := ⟨"NotSlow", 0, ["first"], 13, 253⟩
theorem sc_NotSlow : FnScope ["self", "first"] ["self", "first"] (defScope (initS c_NotSlow)) := ⟨rfl, rfl, rfl, by decide +kernel, rfl, by decide +kernel, by decide +kernel⟩
theorem init_NotSlow : InitP P w K mg base c_NotSlow := by
  intro f fd F T n0 nx
  refine ⟨?_, ?_, ?_⟩
  · refine F.ok sc_NotSlow (fun vs H Q E h => ?_) (fun cdv A outer s H vs Q E hr h => ?_)
    · obtain ⟨a, ws, rfl, l, _⟩ := h
      exact congrArg Nat.succ l
    obtain ⟨a, ws, rfl, l, ha, q⟩ := h
    obtain ⟨v, rfl⟩ : ∃ v, ws = [v] := by match ws, l with | [v], _ => exact ⟨v, rfl⟩
    refine ⟨_, pss_cons (ps_xst (pv 0) pe_str) (pss_one (ps_xst (pv 0) (pv 1))), ?_⟩
    refine ⟨_, rfl, a, _, rfl, T, n0, .inl ⟨ha, fun e H1 ne he h1 h2 h3 => ?_⟩⟩
    refine ⟨_, rfl, _, rfl, a, _, rfl, T, nx _ List.mem_cons_self, .inr ⟨e, _, h1, h2, (by show 1 ≤ 900; decide), ?_⟩⟩
    exact q e _ ne he (by rw [upd_ne (Ne.symm ne)]; exact h1) (by rw [upd_same]; rfl) (fun b b1 b2 => by rw [upd_ne b2]; exact h3 b b1 b2)
  · obtain ⟨oc, od, kV, doc, pm, an, cdv, ct, osl, rfl, lk, hcd⟩ := F.ex
    intro n hn
    refine ⟨fun s us ws X l1 l2 => ?_, rel_ga⟩
    have hn' : n ≤ 1 := hn
    rcases (show n = 0 ∨ n = 1 by omega) with rfl | rfl
    · match us, ws, l1, l2 with
      | [_], [_], _, _ => exact .of_eq rfl
    · match us, ws, l1, l2 with
      | [_, _], [], _, _ => exact .of_eq rfl
  · obtain ⟨oc, od, kV, doc, pm, an, cdv, ct, osl, rfl, lk, hcd⟩ := F.ex
    refine ⟨fun s us ws X l1 l2 => ?_, rel_sa⟩
    match us, ws, l1, l2 with
    | [_], [_], _, _ => exact .of_eq rfl
abbrev c_IsStill : CD := ⟨"IsStill", 0, ["have"], 14, 272⟩
theorem sc_IsStill : FnScope ["self", "have"] ["self", "have"] (defScope (initS c_IsStill)) := ⟨rfl, rfl, rfl, by decide +kernel, rfl, by decide +kernel, by decide +kernel⟩
theorem init_IsStill : InitP P w K mg base c_IsStill := by
  intro f fd F T n0 nx
  refine ⟨?_, ?_, ?_⟩
  · refine F.ok sc_IsStill (fun vs H Q E h => ?_) (fun cdv A outer s H vs Q E hr h => ?_)
    · obtain ⟨a, ws, rfl, l, _⟩ := h
      exact congrArg Nat.succ l
    obtain ⟨a, ws, rfl, l, ha, q⟩ := h
    obtain ⟨v, rfl⟩ : ∃ v, ws = [v] := by match ws, l with | [v], _ => exact ⟨v, rfl⟩
    refine ⟨_, pss_cons (ps_xst (pv 0) pe_str) (pss_one (ps_xst (pv 0) (pv 1))), ?_⟩
    refine ⟨_, rfl, a, _, rfl, T, n0, .inl ⟨ha, fun e H1 ne he h1 h2 h3 => ?_⟩⟩
    refine ⟨_, rfl, _, rfl, a, _, rfl, T, nx _ List.mem_cons_self, .inr ⟨e, _, h1, h2, (by show 1 ≤ 900; decide), ?_⟩⟩
    exact q e _ ne he (by rw [upd_ne (Ne.symm ne)]; exact h1) (by rw [upd_same]; rfl) (fun b b1 b2 => by rw [upd_ne b2]; exact h3 b b1 b2)
  · obtain ⟨oc, od, kV, doc, pm, an, cdv, ct, osl, rfl, lk, hcd⟩ := F.ex
    intro n hn
    refine ⟨fun s us ws X l1 l2 => ?_, rel_ga⟩
    have hn' : n ≤ 1 := hn
    rcases (show n = 0 ∨ n = 1 by omega) with rfl | rfl
    · match us, ws, l1, l2 with
      | [_], [_], _, _ => exact .of_eq rfl
    · match us, ws, l1, l2 with
      | [_, _], [], _, _ => exact .of_eq rfl
  · obtain ⟨oc, od, kV, doc, pm, an, cdv, ct, osl, rfl, lk, hcd⟩ := F.ex
    refine ⟨fun s us ws X l1 l2 => ?_, rel_sa⟩
    match us, ws, l1, l2 with
    | [_], [_], _, _ => exact .of_eq rfl
abbrev c_NotOne : CD := ⟨"NotOne", 0, ["first"], 15, 291⟩
theorem sc_NotOne : FnScope ["self", "first"] ["self", "first"] (defScope (initS c_NotOne)) := ⟨rfl, rfl, rfl, by decide +kernel, rfl, by decide +kernel, by decide +kernel⟩
theorem init_NotOne : InitP P w K mg base c_NotOne := by
  intro f fd F T n0 nx
  refine ⟨?_, ?_, ?_⟩
  · refine F.ok sc_NotOne (fun vs H Q E h => ?_) (fun cdv A outer s H vs Q E hr h => ?_)
    · obtain ⟨a, ws, rfl, l, _⟩ := h
      exact congrArg Nat.succ l
    obtain ⟨a, ws, rfl, l, ha, q⟩ := h
    obtain ⟨v, rfl⟩ : ∃ v, ws = [v] := by match ws, l with | [v], _ => exact ⟨v, rfl⟩
    refine ⟨_, pss_cons (ps_xst (pv 0) pe_str) (pss_one (ps_xst (pv 0) (pv 1))), ?_⟩
    refine ⟨_, rfl, a, _, rfl, T, n0, .inl ⟨ha, fun e H1 ne he h1 h2 h3 => ?_⟩⟩
    refine ⟨_, rfl, _, rfl, a, _, rfl, T, nx _ List.mem_cons_self, .inr ⟨e, _, h1, h2, (by show 1 ≤ 900; decide), ?_⟩⟩
    exact q e _ ne he (by rw [upd_ne (Ne.symm ne)]; exact h1) (by rw [upd_same]; rfl) (fun b b1 b2 => by rw [upd_ne b2]; exact h3 b b1 b2)
  · obtain ⟨oc, od, kV, doc, pm, an, cdv, ct, osl, rfl, lk, hcd⟩ := F.ex
    intro n hn
    refine ⟨fun s us ws X l1 l2 => ?_, rel_ga⟩
    have hn' : n ≤ 1 := hn
    rcases (show n = 0 ∨ n = 1 by omega) with rfl | rfl
    · match us, ws, l1, l2 with
      | [_], [_], _, _ => exact .of_eq rfl
    · match us, ws, l1, l2 with
      | [_, _], [], _, _ => exact .of_eq rfl
  · obtain ⟨oc, od, kV, doc, pm, an, cdv, ct, osl, rfl, lk, hcd⟩ := F.ex
    refine ⟨fun s us ws X l1 l2 => ?_, rel_sa⟩
    match us, ws, l1, l2 with
    | [_], [_], _, _ => exact .of_eq rfl
abbrev c_NotUnit : CD := ⟨"NotUnit", 0, ["line", "place"], 16, 310⟩
theorem sc_NotUnit : FnScope ["self", "line", "place"] ["self", "line", "place"] (defScope (initS c_NotUnit)) := ⟨rfl, rfl, rfl, by decide +kernel, rfl, by decide +kernel, by decide +kernel⟩
theorem init_NotUnit : InitP P w K mg base c_NotUnit := by
  intro f fd F T n0 nx
  refine ⟨?_, ?_, ?_⟩
  · refine F.ok sc_NotUnit (fun vs H Q E h => ?_) (fun cdv A outer s H vs Q E hr h => ?_)
    · obtain ⟨a, ws, rfl, l, _⟩ := h
      exact congrArg Nat.succ l
    obtain ⟨a, ws, rfl, l, ha, q⟩ := h
    obtain ⟨v, u, rfl⟩ : ∃ v u, ws = [v, u] := by match ws, l with | [v, u], _ => exact ⟨v, u, rfl⟩
    refine ⟨_, pss_cons (ps_xst (pv 0) pe_str) (pss_cons (ps_xst (pv 0) (pv 1)) (pss_one (ps_xst (pv 0) (pv 2)))), ?_⟩
    refine ⟨_, rfl, a, _, rfl, T, n0, .inl ⟨ha, fun e H1 ne he h1 h2 h3 => ?_⟩⟩
    refine ⟨_, rfl, _, rfl, a, _, rfl, T, nx _ List.mem_cons_self, .inr ⟨e, _, h1, h2, (by show 1 ≤ 900; decide), ?_⟩⟩
    refine ⟨_, rfl, _, rfl, a, _, rfl, T, nx _ (List.mem_cons_of_mem _ List.mem_cons_self), .inr ⟨e, _, (by rw [upd_ne (Ne.symm ne)]; exact h1), upd_same, (by show 2 ≤ 900; decide), ?_⟩⟩
    exact q e _ ne he (by rw [upd_ne (Ne.symm ne), upd_ne (Ne.symm ne)]; exact h1) (by rw [upd_same]; rfl) (fun b b1 b2 => by rw [upd_ne b2, upd_ne b2]; exact h3 b b1 b2)
  · obtain ⟨oc, od, kV, doc, pm, an, cdv, ct, osl, rfl, lk, hcd⟩ := F.ex
    intro n hn
    refine ⟨fun s us ws X l1 l2 => ?_, rel_ga⟩
    have hn' : n ≤ 2 := hn
    rcases (show n = 0 ∨ n = 1 ∨ n = 2 by omega) with rfl | rfl | rfl
    · match us, ws, l1, l2 with
      | [_], [_, _], _, _ => exact .of_eq rfl
    · match us, ws, l1, l2 with
      | [_, _], [_], _, _ => exact .of_eq rfl
    · match us, ws, l1, l2 with
      | [_, _, _], [], _, _ => exact .of_eq rfl
  · obtain ⟨oc, od, kV, doc, pm, an, cdv, ct, osl, rfl, lk, hcd⟩ := F.ex
    refine ⟨fun s us ws X l1 l2 => ?_, rel_sa⟩
    match us, ws, l1, l2 with
    | [_], [_, _], _, _ => exact .of_eq rfl
abbrev c_NotATable : CD := ⟨"NotATable", 0, ["line", "place"], 17, 329⟩
theorem sc_NotATable : FnScope ["self", "line", "place"] ["self", "line", "place"] (defScope (initS c_NotATable)) := ⟨rfl, rfl, rfl, by decide +kernel, rfl, by decide +kernel, by decide +kernel⟩
theorem init_NotATable : InitP P w K mg base c_NotATable := by
  intro f fd F T n0 nx
  refine ⟨?_, ?_, ?_⟩
  · refine F.ok sc_NotATable (fun vs H Q E h => ?_) (fun cdv A outer s H vs Q E hr h => ?_)
    · obtain ⟨a, ws, rfl, l, _⟩ := h
      exact congrArg Nat.succ l
    obtain ⟨a, ws, rfl, l, ha, q⟩ := h
    obtain ⟨v, u, rfl⟩ : ∃ v u, ws = [v, u] := by match ws, l with | [v, u], _ => exact ⟨v, u, rfl⟩
    refine ⟨_, pss_cons (ps_xst (pv 0) pe_str) (pss_cons (ps_xst (pv 0) (pv 1)) (pss_one (ps_xst (pv 0) (pv 2)))), ?_⟩
    refine ⟨_, rfl, a, _, rfl, T, n0, .inl ⟨ha, fun e H1 ne he h1 h2 h3 => ?_⟩⟩
    refine ⟨_, rfl, _, rfl, a, _, rfl, T, nx _ List.mem_cons_self, .inr ⟨e, _, h1, h2, (by show 1 ≤ 900; decide), ?_⟩⟩
    refine ⟨_, rfl, _, rfl, a, _, rfl, T, nx _ (List.mem_cons_of_mem _ List.mem_cons_self), .inr ⟨e, _, (by rw [upd_ne (Ne.symm ne)]; exact h1), upd_same, (by show 2 ≤ 900; decide), ?_⟩⟩
    exact q e _ ne he (by rw [upd_ne (Ne.symm ne), upd_ne (Ne.symm ne)]; exact h1) (by rw [upd_same]; rfl) (fun b b1 b2 => by rw [upd_ne b2, upd_ne b2]; exact h3 b b1 b2)
  · obtain ⟨oc, od, kV, doc, pm, an, cdv, ct, osl, rfl, lk, hcd⟩ := F.ex
    intro n hn
    refine ⟨fun s us ws X l1 l2 => ?_, rel_ga⟩
    have hn' : n ≤ 2 := hn
    rcases (show n = 0 ∨ n = 1 ∨ n = 2 by omega) with rfl | rfl | rfl
    · match us, ws, l1, l2 with
      | [_], [_, _], _, _ => exact .of_eq rfl
    · match us, ws, l1, l2 with
      | [_, _], [_], _, _ => exact .of_eq rfl
    · match us, ws, l1, l2 with
      | [_, _, _], [], _, _ => exact .of_eq rfl
  · obtain ⟨oc, od, kV, doc, pm, an, cdv, ct, osl, rfl, lk, hcd⟩ := F.ex
    refine ⟨fun s us ws X l1 l2 => ?_, rel_sa⟩
    match us, ws, l1, l2 with
    | [_], [_, _], _, _ => exact .of_eq rfl
abbrev c_NotAFlow : CD := ⟨"NotAFlow", 0, ["place"], 18, 348⟩
theorem sc_NotAFlow : FnScope ["self", "place"] ["self", "place"] (defScope (initS c_NotAFlow)) := ⟨rfl, rfl, rfl, by decide +kernel, rfl, by decide +kernel, by decide +kernel⟩
theorem init_NotAFlow : InitP P w K mg base c_NotAFlow := by
  intro f fd F T n0 nx
  refine ⟨?_, ?_, ?_⟩
  · refine F.ok sc_NotAFlow (fun vs H Q E h => ?_) (fun cdv A outer s H vs Q E hr h => ?_)
    · obtain ⟨a, ws, rfl, l, _⟩ := h
      exact congrArg Nat.succ l
    obtain ⟨a, ws, rfl, l, ha, q⟩ := h
    obtain ⟨v, rfl⟩ : ∃ v, ws = [v] := by match ws, l with | [v], _ => exact ⟨v, rfl⟩
    refine ⟨_, pss_cons (ps_xst (pv 0) pe_str) (pss_one (ps_xst (pv 0) (pv 1))), ?_⟩
    refine ⟨_, rfl, a, _, rfl, T, n0, .inl ⟨ha, fun e H1 ne he h1 h2 h3 => ?_⟩⟩
    refine ⟨_, rfl, _, rfl, a, _, rfl, T, nx _ List.mem_cons_self, .inr ⟨e, _, h1, h2, (by show 1 ≤ 900; decide), ?_⟩⟩
    exact q e _ ne he (by rw [upd_ne (Ne.symm ne)]; exact h1) (by rw [upd_same]; rfl) (fun b b1 b2 => by rw [upd_ne b2]; exact h3 b b1 b2)
  · obtain ⟨oc, od, kV, doc, pm, an, cdv, ct, osl, rfl, lk, hcd⟩ := F.ex
    intro n hn
    refine ⟨fun s us ws X l1 l2 => ?_, rel_ga⟩
    have hn' : n ≤ 1 := hn
    rcases (show n = 0 ∨ n = 1 by omega) with rfl | rfl
    · match us, ws, l1, l2 with
      | [_], [_], _, _ => exact .of_eq rfl
    · match us, ws, l1, l2 with
      | [_, _], [], _, _ => exact .of_eq rfl
  · obtain ⟨oc, od, kV, doc, pm, an, cdv, ct, osl, rfl, lk, hcd⟩ := F.ex
    refine ⟨fun s us ws X l1 l2 => ?_, rel_sa⟩
    match us, ws, l1, l2 with
    | [_], [_], _, _ => exact .of_eq rfl
abbrev c_InvalidFlat : CD := ⟨"InvalidFlat", 0, ["value"], 19, 367⟩
theorem sc_InvalidFlat : FnScope ["self", "value"] ["self", "value"] (defScope (initS c_InvalidFlat)) := ⟨rfl, rfl, rfl, by decide +kernel, rfl, by decide +kernel, by decide +kernel⟩
theorem init_InvalidFlat : InitP P w K mg base c_InvalidFlat := by
  intro f fd F T n0 nx
  refine ⟨?_, ?_, ?_⟩
  · refine F.ok sc_InvalidFlat (fun vs H Q E h => ?_) (fun cdv A outer s H vs Q E hr h => ?_)
    · obtain ⟨a, ws, rfl, l, _⟩ := h
      exact congrArg Nat.succ l
    obtain ⟨a, ws, rfl, l, ha, q⟩ := h
    obtain ⟨v, rfl⟩ : ∃ v, ws = [v] := by match ws, l with | [v], _ => exact ⟨v, rfl⟩
    refine ⟨_, pss_cons (ps_xst (pv 0) pe_str) (pss_one (ps_xst (pv 0) (pv 1))), ?_⟩
    refine ⟨_, rfl, a, _, rfl, T, n0, .inl ⟨ha, fun e H1 ne he h1 h2 h3 => ?_⟩⟩
    refine ⟨_, rfl, _, rfl, a, _, rfl, T, nx _ List.mem_cons_self, .inr ⟨e, _, h1, h2, (by show 1 ≤ 900; decide), ?_⟩⟩
    exact q e _ ne he (by rw [upd_ne (Ne.symm ne)]; exact h1) (by rw [upd_same]; rfl) (fun b b1 b2 => by rw [upd_ne b2]; exact h3 b b1 b2)
  · obtain ⟨oc, od, kV, doc, pm, an, cdv, ct, osl, rfl, lk, hcd⟩ := F.ex
    intro n hn
    refine ⟨fun s us ws X l1 l2 => ?_, rel_ga⟩
    have hn' : n ≤ 1 := hn
    rcases (show n = 0 ∨ n = 1 by omega) with rfl | rfl
    · match us, ws, l1, l2 with
      | [_], [_], _, _ => exact .of_eq rfl
    · match us, ws, l1, l2 with
      | [_, _], [], _, _ => exact .of_eq rfl
  · obtain ⟨oc, od, kV, doc, pm, an, cdv, ct, osl, rfl, lk, hcd⟩ := F.ex
    refine ⟨fun s us ws X l1 l2 => ?_, rel_sa⟩
    match us, ws, l1, l2 with
    | [_], [_], _, _ => exact .of_eq rfl
abbrev c_NotAClock : CD := ⟨"NotAClock", 0, [], 20, 386⟩
theorem sc_NotAClock : FnScope ["self"] ["self"] (defScope (initS c_NotAClock)) := ⟨rfl, rfl, rfl, by decide +kernel, rfl, by decide +kernel, by decide +kernel⟩
theorem init_NotAClock : InitP P w K mg base c_NotAClock := by
  intro f fd F T n0 nx
  refine ⟨?_, ?_, ?_⟩
  · refine F.ok sc_NotAClock (fun vs H Q E h => ?_) (fun cdv A outer s H vs Q E hr h => ?_)
    · obtain ⟨a, ws, rfl, l, _⟩ := h
      exact congrArg Nat.succ l
    obtain ⟨a, ws, rfl, l, ha, q⟩ := h
    obtain rfl : ws = [] := by match ws, l with | [], _ => rfl
    refine ⟨_, pss_one (ps_xst (pv 0) pe_str), ?_⟩
    exact ⟨_, rfl, a, _, rfl, T, n0, .inl ⟨ha, fun e H1 ne he h1 h2 h3 => q e _ ne he h1 h2 h3⟩⟩
  · obtain ⟨oc, od, kV, doc, pm, an, cdv, ct, osl, rfl, lk, hcd⟩ := F.ex
    intro n hn
    refine ⟨fun s us ws X l1 l2 => ?_, rel_ga⟩
    obtain rfl : n = 0 := Nat.le_zero.mp hn
    match us, ws, l1, l2 with
    | [_], [], _, _ => exact .of_eq rfl
  · obtain ⟨oc, od, kV, doc, pm, an, cdv, ct, osl, rfl, lk, hcd⟩ := F.ex
    refine ⟨fun s us ws X l1 l2 => ?_, rel_sa⟩
    match us, ws, l1, l2 with
    | [_], [], _, _ => exact .of_eq rfl
abbrev c_UnlikeFlats : CD := ⟨"UnlikeFlats", 0, ["one", "other"], 21, 405⟩
theorem sc_UnlikeFlats : FnScope ["self", "one", "other"] ["self", "one", "other"] (defScope (initS c_UnlikeFlats)) := ⟨rfl, rfl, rfl, by decide +kernel, rfl, by decide +kernel, by decide +kernel⟩
theorem init_UnlikeFlats : InitP P w K mg base c_UnlikeFlats := by
  intro f fd F T n0 nx
  refine ⟨?_, ?_, ?_⟩
  · refine F.ok sc_UnlikeFlats (fun vs H Q E h => ?_) (fun cdv A outer s H vs Q E hr h => ?_)
    · obtain ⟨a, ws, rfl, l, _⟩ := h
      exact congrArg Nat.succ l
    obtain ⟨a, ws, rfl, l, ha, q⟩ := h
    obtain ⟨v, u, rfl⟩ : ∃ v u, ws = [v, u] := by match ws, l with | [v, u], _ => exact ⟨v, u, rfl⟩
    refine ⟨_, pss_cons (ps_xst (pv 0) pe_str) (pss_cons (ps_xst (pv 0) (pv 1)) (pss_one (ps_xst (pv 0) (pv 2)))), ?_⟩
    refine ⟨_, rfl, a, _, rfl, T, n0, .inl ⟨ha, fun e H1 ne he h1 h2 h3 => ?_⟩⟩
    refine ⟨_, rfl, _, rfl, a, _, rfl, T, nx _ List.mem_cons_self, .inr ⟨e, _, h1, h2, (by show 1 ≤ 900; decide), ?_⟩⟩
    refine ⟨_, rfl, _, rfl, a, _, rfl, T, nx _ (List.mem_cons_of_mem _ List.mem_cons_self), .inr ⟨e, _, (by rw [upd_ne (Ne.symm ne)]; exact h1), upd_same, (by show 2 ≤ 900; decide), ?_⟩⟩
    exact q e _ ne he (by rw [upd_ne (Ne.symm ne), upd_ne (Ne.symm ne)]; exact h1) (by rw [upd_same]; rfl) (fun b b1 b2 => by rw [upd_ne b2, upd_ne b2]; exact h3 b b1 b2)
  · obtain ⟨oc, od, kV, doc, pm, an, cdv, ct, osl, rfl, lk, hcd⟩ := F.ex
    intro n hn
    refine ⟨fun s us ws X l1 l2 => ?_, rel_ga⟩
    have hn' : n ≤ 2 := hn
    rcases (show n = 0 ∨ n = 1 ∨ n = 2 by omega) with rfl | rfl | rfl
    · match us, ws, l1, l2 with
      | [_], [_, _], _, _ => exact .of_eq rfl
    · match us, ws, l1, l2 with
      | [_, _], [_], _, _ => exact .of_eq rfl
    · match us, ws, l1, l2 with
      | [_, _, _], [], _, _ => exact .of_eq rfl
  · obtain ⟨oc, od, kV, doc, pm, an, cdv, ct, osl, rfl, lk, hcd⟩ := F.ex
    refine ⟨fun s us ws X l1 l2 => ?_, rel_sa⟩
    match us, ws, l1, l2 with
    | [_], [_, _], _, _ => exact .of_eq rfl
abbrev c_NotAlike : CD := ⟨"NotAlike", 0, ["paper"], 22, 424⟩
theorem sc_NotAlike : FnScope ["self", "paper"] ["self", "paper"] (defScope (initS c_NotAlike)) := ⟨rfl, rfl, rfl, by decide +kernel, rfl, by decide +kernel, by decide +kernel⟩
theorem init_NotAlike : InitP P w K mg base c_NotAlike := by
  intro f fd F T n0 nx
  refine ⟨?_, ?_, ?_⟩
  · refine F.ok sc_NotAlike (fun vs H Q E h => ?_) (fun cdv A outer s H vs Q E hr h => ?_)
    · obtain ⟨a, ws, rfl, l, _⟩ := h
      exact congrArg Nat.succ l
    obtain ⟨a, ws, rfl, l, ha, q⟩ := h
    obtain ⟨v, rfl⟩ : ∃ v, ws = [v] := by match ws, l with | [v], _ => exact ⟨v, rfl⟩
    refine ⟨_, pss_cons (ps_xst (pv 0) pe_str) (pss_one (ps_xst (pv 0) (pv 1))), ?_⟩
    refine ⟨_, rfl, a, _, rfl, T, n0, .inl ⟨ha, fun e H1 ne he h1 h2 h3 => ?_⟩⟩
    refine ⟨_, rfl, _, rfl, a, _, rfl, T, nx _ List.mem_cons_self, .inr ⟨e, _, h1, h2, (by show 1 ≤ 900; decide), ?_⟩⟩
    exact q e _ ne he (by rw [upd_ne (Ne.symm ne)]; exact h1) (by rw [upd_same]; rfl) (fun b b1 b2 => by rw [upd_ne b2]; exact h3 b b1 b2)
  · obtain ⟨oc, od, kV, doc, pm, an, cdv, ct, osl, rfl, lk, hcd⟩ := F.ex
    intro n hn
    refine ⟨fun s us ws X l1 l2 => ?_, rel_ga⟩
    have hn' : n ≤ 1 := hn
    rcases (show n = 0 ∨ n = 1 by omega) with rfl | rfl
    · match us, ws, l1, l2 with
      | [_], [_], _, _ => exact .of_eq rfl
    · match us, ws, l1, l2 with
      | [_, _], [], _, _ => exact .of_eq rfl
  · obtain ⟨oc, od, kV, doc, pm, an, cdv, ct, osl, rfl, lk, hcd⟩ := F.ex
    refine ⟨fun s us ws X l1 l2 => ?_, rel_sa⟩
    match us, ws, l1, l2 with
    | [_], [_], _, _ => exact .of_eq rfl
abbrev c_InvalidLead : CD := ⟨"InvalidLead", 0, ["value"], 23, 443⟩
theorem sc_InvalidLead : FnScope ["self", "value"] ["self", "value"] (defScope (initS c_InvalidLead)) := ⟨rfl, rfl, rfl, by decide +kernel, rfl, by decide +kernel, by decide +kernel⟩
theorem init_InvalidLead : InitP P w K mg base c_InvalidLead := by
  intro f fd F T n0 nx
  refine ⟨?_, ?_, ?_⟩
  · refine F.ok sc_InvalidLead (fun vs H Q E h => ?_) (fun cdv A outer s H vs Q E hr h => ?_)
    · obtain ⟨a, ws, rfl, l, _⟩ := h
      exact congrArg Nat.succ l
    obtain ⟨a, ws, rfl, l, ha, q⟩ := h
    obtain ⟨v, rfl⟩ : ∃ v, ws = [v] := by match ws, l with | [v], _ => exact ⟨v, rfl⟩
    refine ⟨_, pss_cons (ps_xst (pv 0) pe_str) (pss_one (ps_xst (pv 0) (pv 1))), ?_⟩
    refine ⟨_, rfl, a, _, rfl, T, n0, .inl ⟨ha, fun e H1 ne he h1 h2 h3 => ?_⟩⟩
    refine ⟨_, rfl, _, rfl, a, _, rfl, T, nx _ List.mem_cons_self, .inr ⟨e, _, h1, h2, (by show 1 ≤ 900; decide), ?_⟩⟩
    exact q e _ ne he (by rw [upd_ne (Ne.symm ne)]; exact h1) (by rw [upd_same]; rfl) (fun b b1 b2 => by rw [upd_ne b2]; exact h3 b b1 b2)
  · obtain ⟨oc, od, kV, doc, pm, an, cdv, ct, osl, rfl, lk, hcd⟩ := F.ex
    intro n hn
    refine ⟨fun s us ws X l1 l2 => ?_, rel_ga⟩
    have hn' : n ≤ 1 := hn
    rcases (show n = 0 ∨ n = 1 by omega) with rfl | rfl
    · match us, ws, l1, l2 with
      | [_], [_], _, _ => exact .of_eq rfl
    · match us, ws, l1, l2 with
      | [_, _], [], _, _ => exact .of_eq rfl
  · obtain ⟨oc, od, kV, doc, pm, an, cdv, ct, osl, rfl, lk, hcd⟩ := F.ex
    refine ⟨fun s us ws X l1 l2 => ?_, rel_sa⟩
    match us, ws, l1, l2 with
    | [_], [_], _, _ => exact .of_eq rfl
abbrev c_InvalidTime : CD := ⟨"InvalidTime", 0, ["value"], 24, 462⟩
theorem sc_InvalidTime : FnScope ["self", "value"] ["self", "value"] (defScope (initS c_InvalidTime)) := ⟨rfl, rfl, rfl, by decide +kernel, rfl, by decide +kernel, by decide +kernel⟩
theorem init_InvalidTime : InitP P w K mg base c_InvalidTime := by
  intro f fd F T n0 nx
  refine ⟨?_, ?_, ?_⟩
  · refine F.ok sc_InvalidTime (fun vs H Q E h => ?_) (fun cdv A outer s H vs Q E hr h => ?_)
    · obtain ⟨a, ws, rfl, l, _⟩ := h
      exact congrArg Nat.succ l
    obtain ⟨a, ws, rfl, l, ha, q⟩ := h
    obtain ⟨v, rfl⟩ : ∃ v, ws = [v] := by match ws, l with | [v], _ => exact ⟨v, rfl⟩
    refine ⟨_, pss_cons (ps_xst (pv 0) pe_str) (pss_one (ps_xst (pv 0) (pv 1))), ?_⟩
    refine ⟨_, rfl, a, _, rfl, T, n0, .inl ⟨ha, fun e H1 ne he h1 h2 h3 => ?_⟩⟩
    refine ⟨_, rfl, _, rfl, a, _, rfl, T, nx _ List.mem_cons_self, .inr ⟨e, _, h1, h2, (by show 1 ≤ 900; decide), ?_⟩⟩
    exact q e _ ne he (by rw [upd_ne (Ne.symm ne)]; exact h1) (by rw [upd_same]; rfl) (fun b b1 b2 => by rw [upd_ne b2]; exact h3 b b1 b2)
  · obtain ⟨oc, od, kV, doc, pm, an, cdv, ct, osl, rfl, lk, hcd⟩ := F.ex
    intro n hn
    refine ⟨fun s us ws X l1 l2 => ?_, rel_ga⟩
    have hn' : n ≤ 1 := hn
    rcases (show n = 0 ∨ n = 1 by omega) with rfl | rfl
    · match us, ws, l1, l2 with
      | [_], [_], _, _ => exact .of_eq rfl
    · match us, ws, l1, l2 with
      | [_, _], [], _, _ => exact .of_eq rfl
  · obtain ⟨oc, od, kV, doc, pm, an, cdv, ct, osl, rfl, lk, hcd⟩ := F.ex
    refine ⟨fun s us ws X l1 l2 => ?_, rel_sa⟩
    match us, ws, l1, l2 with
    | [_], [_], _, _ => exact .of_eq rfl
abbrev c_InvalidTop : CD := ⟨"InvalidTop", 0, ["at"], 25, 481⟩
theorem sc_InvalidTop : FnScope ["self", "at"] ["self", "at"] (defScope (initS c_InvalidTop)) := ⟨rfl, rfl, rfl, by decide +kernel, rfl, by decide +kernel, by decide +kernel⟩
theorem init_InvalidTop : InitP P w K mg base c_InvalidTop := by
  intro f fd F T n0 nx
  refine ⟨?_, ?_, ?_⟩
  · refine F.ok sc_InvalidTop (fun vs H Q E h => ?_) (fun cdv A outer s H vs Q E hr h => ?_)
    · obtain ⟨a, ws, rfl, l, _⟩ := h
      exact congrArg Nat.succ l
    obtain ⟨a, ws, rfl, l, ha, q⟩ := h
    obtain ⟨v, rfl⟩ : ∃ v, ws = [v] := by match ws, l with | [v], _ => exact ⟨v, rfl⟩
    refine ⟨_, pss_cons (ps_xst (pv 0) pe_str) (pss_one (ps_xst (pv 0) (pv 1))), ?_⟩
    refine ⟨_, rfl, a, _, rfl, T, n0, .inl ⟨ha, fun e H1 ne he h1 h2 h3 => ?_⟩⟩
    refine ⟨_, rfl, _, rfl, a, _, rfl, T, nx _ List.mem_cons_self, .inr ⟨e, _, h1, h2, (by show 1 ≤ 900; decide), ?_⟩⟩
    exact q e _ ne he (by rw [upd_ne (Ne.symm ne)]; exact h1) (by rw [upd_same]; rfl) (fun b b1 b2 => by rw [upd_ne b2]; exact h3 b b1 b2)
  · obtain ⟨oc, od, kV, doc, pm, an, cdv, ct, osl, rfl, lk, hcd⟩ := F.ex
    intro n hn
    refine ⟨fun s us ws X l1 l2 => ?_, rel_ga⟩
    have hn' : n ≤ 1 := hn
    rcases (show n = 0 ∨ n = 1 by omega) with rfl | rfl
    · match us, ws, l1, l2 with
      | [_], [_], _, _ => exact .of_eq rfl
    · match us, ws, l1, l2 with
      | [_, _], [], _, _ => exact .of_eq rfl
  · obtain ⟨oc, od, kV, doc, pm, an, cdv, ct, osl, rfl, lk, hcd⟩ := F.ex
    refine ⟨fun s us ws X l1 l2 => ?_, rel_sa⟩
    match us, ws, l1, l2 with
    | [_], [_], _, _ => exact .of_eq rfl
abbrev c_NotInFamily : CD := ⟨"NotInFamily", 0, ["place"], 26, 500⟩
theorem sc_NotInFamily : FnScope ["self", "place"] ["self", "place"] (defScope (initS c_NotInFamily)) := ⟨rfl, rfl, rfl, by decide +kernel, rfl, by decide +kernel, by decide +kernel⟩
theorem init_NotInFamily : InitP P w K mg base c_NotInFamily := by
  intro f fd F T n0 nx
  refine ⟨?_, ?_, ?_⟩
  · refine F.ok sc_NotInFamily (fun vs H Q E h => ?_) (fun cdv A outer s H vs Q E hr h => ?_)
    · obtain ⟨a, ws, rfl, l, _⟩ := h
      exact congrArg Nat.succ l
    obtain ⟨a, ws, rfl, l, ha, q⟩ := h
    obtain ⟨v, rfl⟩ : ∃ v, ws = [v] := by match ws, l with | [v], _ => exact ⟨v, rfl⟩
    refine ⟨_, pss_cons (ps_xst (pv 0) pe_str) (pss_one (ps_xst (pv 0) (pv 1))), ?_⟩
    refine ⟨_, rfl, a, _, rfl, T, n0, .inl ⟨ha, fun e H1 ne he h1 h2 h3 => ?_⟩⟩
    refine ⟨_, rfl, _, rfl, a, _, rfl, T, nx _ List.mem_cons_self, .inr ⟨e, _, h1, h2, (by show 1 ≤ 900; decide), ?_⟩⟩
    exact q e _ ne he (by rw [upd_ne (Ne.symm ne)]; exact h1) (by rw [upd_same]; rfl) (fun b b1 b2 => by rw [upd_ne b2]; exact h3 b b1 b2)
  · obtain ⟨oc, od, kV, doc, pm, an, cdv, ct, osl, rfl, lk, hcd⟩ := F.ex
    intro n hn
    refine ⟨fun s us ws X l1 l2 => ?_, rel_ga⟩
    have hn' : n ≤ 1 := hn
    rcases (show n = 0 ∨ n = 1 by omega) with rfl | rfl
    · match us, ws, l1, l2 with
      | [_], [_], _, _ => exact .of_eq rfl
    · match us, ws, l1, l2 with
      | [_, _], [], _, _ => exact .of_eq rfl
  · obtain ⟨oc, od, kV, doc, pm, an, cdv, ct, osl, rfl, lk, hcd⟩ := F.ex
    refine ⟨fun s us ws X l1 l2 => ?_, rel_sa⟩
    match us, ws, l1, l2 with
    | [_], [_], _, _ => exact .of_eq rfl
abbrev c_NoFlips : CD := ⟨"NoFlips", 0, [], 27, 519⟩
theorem sc_NoFlips : FnScope ["self"] ["self"] (defScope (initS c_NoFlips)) := ⟨rfl, rfl, rfl, by decide +kernel, rfl, by decide +kernel, by decide +kernel⟩
theorem init_NoFlips : InitP P w K mg base c_NoFlips := by
  intro f fd F T n0 nx
  refine ⟨?_, ?_, ?_⟩
  · refine F.ok sc_NoFlips (fun vs H Q E h => ?_) (fun cdv A outer s H vs Q E hr h => ?_)
    · obtain ⟨a, ws, rfl, l, _⟩ := h
      exact congrArg Nat.succ l
    obtain ⟨a, ws, rfl, l, ha, q⟩ := h
    obtain rfl : ws = [] := by match ws, l with | [], _ => rfl
    refine ⟨_, pss_one (ps_xst (pv 0) pe_str), ?_⟩
    exact ⟨_, rfl, a, _, rfl, T, n0, .inl ⟨ha, fun e H1 ne he h1 h2 h3 => q e _ ne he h1 h2 h3⟩⟩
  · obtain ⟨oc, od, kV, doc, pm, an, cdv, ct, osl, rfl, lk, hcd⟩ := F.ex
    intro n hn
    refine ⟨fun s us ws X l1 l2 => ?_, rel_ga⟩
    obtain rfl : n = 0 := Nat.le_zero.mp hn
    match us, ws, l1, l2 with
    | [_], [], _, _ => exact .of_eq rfl
  · obtain ⟨oc, od, kV, doc, pm, an, cdv, ct, osl, rfl, lk, hcd⟩ := F.ex
    refine ⟨fun s us ws X l1 l2 => ?_, rel_sa⟩
    match us, ws, l1, l2 with
    | [_], [], _, _ => exact .of_eq rfl
abbrev c_NotFolded : CD := ⟨"NotFolded", 0, ["value"], 28, 538⟩
theorem sc_NotFolded : FnScope ["self", "value"] ["self", "value"] (defScope (initS c_NotFolded)) := ⟨rfl, rfl, rfl, by decide +kernel, rfl, by decide +kernel, by decide +kernel⟩
theorem init_NotFolded : InitP P w K mg base c_NotFolded := by
  intro f fd F T n0 nx
  refine ⟨?_, ?_, ?_⟩
  · refine F.ok sc_NotFolded (fun vs H Q E h => ?_) (fun cdv A outer s H vs Q E hr h => ?_)
    · obtain ⟨a, ws, rfl, l, _⟩ := h
      exact congrArg Nat.succ l
    obtain ⟨a, ws, rfl, l, ha, q⟩ := h
    obtain ⟨v, rfl⟩ : ∃ v, ws = [v] := by match ws, l with | [v], _ => exact ⟨v, rfl⟩
    refine ⟨_, pss_cons (ps_xst (pv 0) pe_str) (pss_one (ps_xst (pv 0) (pv 1))), ?_⟩
    refine ⟨_, rfl, a, _, rfl, T, n0, .inl ⟨ha, fun e H1 ne he h1 h2 h3 => ?_⟩⟩
    refine ⟨_, rfl, _, rfl, a, _, rfl, T, nx _ List.mem_cons_self, .inr ⟨e, _, h1, h2, (by show 1 ≤ 900; decide), ?_⟩⟩
    exact q e _ ne he (by rw [upd_ne (Ne.symm ne)]; exact h1) (by rw [upd_same]; rfl) (fun b b1 b2 => by rw [upd_ne b2]; exact h3 b b1 b2)
  · obtain ⟨oc, od, kV, doc, pm, an, cdv, ct, osl, rfl, lk, hcd⟩ := F.ex
    intro n hn
    refine ⟨fun s us ws X l1 l2 => ?_, rel_ga⟩
    have hn' : n ≤ 1 := hn
    rcases (show n = 0 ∨ n = 1 by omega) with rfl | rfl
    · match us, ws, l1, l2 with
      | [_], [_], _, _ => exact .of_eq rfl
    · match us, ws, l1, l2 with
      | [_, _], [], _, _ => exact .of_eq rfl
  · obtain ⟨oc, od, kV, doc, pm, an, cdv, ct, osl, rfl, lk, hcd⟩ := F.ex
    refine ⟨fun s us ws X l1 l2 => ?_, rel_sa⟩
    match us, ws, l1, l2 with
    | [_], [_], _, _ => exact .of_eq rfl
abbrev c_InvalidFar : CD := ⟨"InvalidFar", 0, ["at"], 29, 557⟩
theorem sc_InvalidFar : FnScope ["self", "at"] ["self", "at"] (defScope (initS c_InvalidFar)) := ⟨rfl, rfl, rfl, by decide +kernel, rfl, by decide +kernel, by decide +kernel⟩
theorem init_InvalidFar : InitP P w K mg base c_InvalidFar := by
  intro f fd F T n0 nx
  refine ⟨?_, ?_, ?_⟩
  · refine F.ok sc_InvalidFar (fun vs H Q E h => ?_) (fun cdv A outer s H vs Q E hr h => ?_)
    · obtain ⟨a, ws, rfl, l, _⟩ := h
      exact congrArg Nat.succ l
    obtain ⟨a, ws, rfl, l, ha, q⟩ := h
    obtain ⟨v, rfl⟩ : ∃ v, ws = [v] := by match ws, l with | [v], _ => exact ⟨v, rfl⟩
    refine ⟨_, pss_cons (ps_xst (pv 0) pe_str) (pss_one (ps_xst (pv 0) (pv 1))), ?_⟩
    refine ⟨_, rfl, a, _, rfl, T, n0, .inl ⟨ha, fun e H1 ne he h1 h2 h3 => ?_⟩⟩
    refine ⟨_, rfl, _, rfl, a, _, rfl, T, nx _ List.mem_cons_self, .inr ⟨e, _, h1, h2, (by show 1 ≤ 900; decide), ?_⟩⟩
    exact q e _ ne he (by rw [upd_ne (Ne.symm ne)]; exact h1) (by rw [upd_same]; rfl) (fun b b1 b2 => by rw [upd_ne b2]; exact h3 b b1 b2)
  · obtain ⟨oc, od, kV, doc, pm, an, cdv, ct, osl, rfl, lk, hcd⟩ := F.ex
    intro n hn
    refine ⟨fun s us ws X l1 l2 => ?_, rel_ga⟩
    have hn' : n ≤ 1 := hn
    rcases (show n = 0 ∨ n = 1 by omega) with rfl | rfl
    · match us, ws, l1, l2 with
      | [_], [_], _, _ => exact .of_eq rfl
    · match us, ws, l1, l2 with
      | [_, _], [], _, _ => exact .of_eq rfl
  · obtain ⟨oc, od, kV, doc, pm, an, cdv, ct, osl, rfl, lk, hcd⟩ := F.ex
    refine ⟨fun s us ws X l1 l2 => ?_, rel_sa⟩
    match us, ws, l1, l2 with
    | [_], [_], _, _ => exact .of_eq rfl
abbrev c_NotFar : CD := ⟨"NotFar", 0, ["place"], 30, 576⟩
theorem sc_NotFar : FnScope ["self", "place"] ["self", "place"] (defScope (initS c_NotFar)) := ⟨rfl, rfl, rfl, by decide +kernel, rfl, by decide +kernel, by decide +kernel⟩
theorem init_NotFar : InitP P w K mg base c_NotFar := by
  intro f fd F T n0 nx
  refine ⟨?_, ?_, ?_⟩
  · refine F.ok sc_NotFar (fun vs H Q E h => ?_) (fun cdv A outer s H vs Q E hr h => ?_)
    · obtain ⟨a, ws, rfl, l, _⟩ := h
      exact congrArg Nat.succ l
    obtain ⟨a, ws, rfl, l, ha, q⟩ := h
    obtain ⟨v, rfl⟩ : ∃ v, ws = [v] := by match ws, l with | [v], _ => exact ⟨v, rfl⟩
    refine ⟨_, pss_cons (ps_xst (pv 0) pe_str) (pss_one (ps_xst (pv 0) (pv 1))), ?_⟩
    refine ⟨_, rfl, a, _, rfl, T, n0, .inl ⟨ha, fun e H1 ne he h1 h2 h3 => ?_⟩⟩
    refine ⟨_, rfl, _, rfl, a, _, rfl, T, nx _ List.mem_cons_self, .inr ⟨e, _, h1, h2, (by show 1 ≤ 900; decide), ?_⟩⟩
    exact q e _ ne he (by rw [upd_ne (Ne.symm ne)]; exact h1) (by rw [upd_same]; rfl) (fun b b1 b2 => by rw [upd_ne b2]; exact h3 b b1 b2)
  · obtain ⟨oc, od, kV, doc, pm, an, cdv, ct, osl, rfl, lk, hcd⟩ := F.ex
    intro n hn
    refine ⟨fun s us ws X l1 l2 => ?_, rel_ga⟩
    have hn' : n ≤ 1 := hn
    rcases (show n = 0 ∨ n = 1 by omega) with rfl | rfl
    · match us, ws, l1, l2 with
      | [_], [_], _, _ => exact .of_eq rfl
    · match us, ws, l1, l2 with
      | [_, _], [], _, _ => exact .of_eq rfl
  · obtain ⟨oc, od, kV, doc, pm, an, cdv, ct, osl, rfl, lk, hcd⟩ := F.ex
    refine ⟨fun s us ws X l1 l2 => ?_, rel_sa⟩
    match us, ws, l1, l2 with
    | [_], [_], _, _ => exact .of_eq rfl
abbrev c_NotLed : CD := ⟨"NotLed", 0, ["first"], 31, 595⟩
theorem sc_NotLed : FnScope ["self", "first"] ["self", "first"] (defScope (initS c_NotLed)) := ⟨rfl, rfl, rfl, by decide +kernel, rfl, by decide +kernel, by decide +kernel⟩
theorem init_NotLed : InitP P w K mg base c_NotLed := by
  intro f fd F T n0 nx
  refine ⟨?_, ?_, ?_⟩
  · refine F.ok sc_NotLed (fun vs H Q E h => ?_) (fun cdv A outer s H vs Q E hr h => ?_)
    · obtain ⟨a, ws, rfl, l, _⟩ := h
      exact congrArg Nat.succ l
    obtain ⟨a, ws, rfl, l, ha, q⟩ := h
    obtain ⟨v, rfl⟩ : ∃ v, ws = [v] := by match ws, l with | [v], _ => exact ⟨v, rfl⟩
    refine ⟨_, pss_cons (ps_xst (pv 0) pe_str) (pss_one (ps_xst (pv 0) (pv 1))), ?_⟩
    refine ⟨_, rfl, a, _, rfl, T, n0, .inl ⟨ha, fun e H1 ne he h1 h2 h3 => ?_⟩⟩
    refine ⟨_, rfl, _, rfl, a, _, rfl, T, nx _ List.mem_cons_self, .inr ⟨e, _, h1, h2, (by show 1 ≤ 900; decide), ?_⟩⟩
    exact q e _ ne he (by rw [upd_ne (Ne.symm ne)]; exact h1) (by rw [upd_same]; rfl) (fun b b1 b2 => by rw [upd_ne b2]; exact h3 b b1 b2)
  · obtain ⟨oc, od, kV, doc, pm, an, cdv, ct, osl, rfl, lk, hcd⟩ := F.ex
    intro n hn
    refine ⟨fun s us ws X l1 l2 => ?_, rel_ga⟩
    have hn' : n ≤ 1 := hn
    rcases (show n = 0 ∨ n = 1 by omega) with rfl | rfl
    · match us, ws, l1, l2 with
      | [_], [_], _, _ => exact .of_eq rfl
    · match us, ws, l1, l2 with
      | [_, _], [], _, _ => exact .of_eq rfl
  · obtain ⟨oc, od, kV, doc, pm, an, cdv, ct, osl, rfl, lk, hcd⟩ := F.ex
    refine ⟨fun s us ws X l1 l2 => ?_, rel_sa⟩
    match us, ws, l1, l2 with
    | [_], [_], _, _ => exact .of_eq rfl
abbrev c_NotInCrew : CD := ⟨"NotInCrew", 0, ["paper"], 32, 614⟩
theorem sc_NotInCrew : FnScope ["self", "paper"] ["self", "paper"] (defScope (initS c_NotInCrew)) := ⟨rfl, rfl, rfl, by decide +kernel, rfl, by decide +kernel, by decide +kernel⟩
theorem init_NotInCrew : InitP P w K mg base c_NotInCrew := by
  intro f fd F T n0 nx
  refine ⟨?_, ?_, ?_⟩
  · refine F.ok sc_NotInCrew (fun vs H Q E h => ?_) (fun cdv A outer s H vs Q E hr h => ?_)
    · obtain ⟨a, ws, rfl, l, _⟩ := h
      exact congrArg Nat.succ l
    obtain ⟨a, ws, rfl, l, ha, q⟩ := h
    obtain ⟨v, rfl⟩ : ∃ v, ws = [v] := by match ws, l with | [v], _ => exact ⟨v, rfl⟩
    refine ⟨_, pss_cons (ps_xst (pv 0) pe_str) (pss_one (ps_xst (pv 0) (pv 1))), ?_⟩
    refine ⟨_, rfl, a, _, rfl, T, n0, .inl ⟨ha, fun e H1 ne he h1 h2 h3 => ?_⟩⟩
    refine ⟨_, rfl, _, rfl, a, _, rfl, T, nx _ List.mem_cons_self, .inr ⟨e, _, h1, h2, (by show 1 ≤ 900; decide), ?_⟩⟩
    exact q e _ ne he (by rw [upd_ne (Ne.symm ne)]; exact h1) (by rw [upd_same]; rfl) (fun b b1 b2 => by rw [upd_ne b2]; exact h3 b b1 b2)
  · obtain ⟨oc, od, kV, doc, pm, an, cdv, ct, osl, rfl, lk, hcd⟩ := F.ex
    intro n hn
    refine ⟨fun s us ws X l1 l2 => ?_, rel_ga⟩
    have hn' : n ≤ 1 := hn
    rcases (show n = 0 ∨ n = 1 by omega) with rfl | rfl
    · match us, ws, l1, l2 with
      | [_], [_], _, _ => exact .of_eq rfl
    · match us, ws, l1, l2 with
      | [_, _], [], _, _ => exact .of_eq rfl
  · obtain ⟨oc, od, kV, doc, pm, an, cdv, ct, osl, rfl, lk, hcd⟩ := F.ex
    refine ⟨fun s us ws X l1 l2 => ?_, rel_sa⟩
    match us, ws, l1, l2 with
    | [_], [_], _, _ => exact .of_eq rfl
abbrev c_InCrew : CD := ⟨"InCrew", 0, [], 33, 633⟩
theorem sc_InCrew : FnScope ["self"] ["self"] (defScope (initS c_InCrew)) := ⟨rfl, rfl, rfl, by decide +kernel, rfl, by decide +kernel, by decide +kernel⟩
theorem init_InCrew : InitP P w K mg base c_InCrew := by
  intro f fd F T n0 nx
  refine ⟨?_, ?_, ?_⟩
  · refine F.ok sc_InCrew (fun vs H Q E h => ?_) (fun cdv A outer s H vs Q E hr h => ?_)
    · obtain ⟨a, ws, rfl, l, _⟩ := h
      exact congrArg Nat.succ l
    obtain ⟨a, ws, rfl, l, ha, q⟩ := h
    obtain rfl : ws = [] := by match ws, l with | [], _ => rfl
    refine ⟨_, pss_one (ps_xst (pv 0) pe_str), ?_⟩
    exact ⟨_, rfl, a, _, rfl, T, n0, .inl ⟨ha, fun e H1 ne he h1 h2 h3 => q e _ ne he h1 h2 h3⟩⟩
  · obtain ⟨oc, od, kV, doc, pm, an, cdv, ct, osl, rfl, lk, hcd⟩ := F.ex
    intro n hn
    refine ⟨fun s us ws X l1 l2 => ?_, rel_ga⟩
    obtain rfl : n = 0 := Nat.le_zero.mp hn
    match us, ws, l1, l2 with
    | [_], [], _, _ => exact .of_eq rfl
  · obtain ⟨oc, od, kV, doc, pm, an, cdv, ct, osl, rfl, lk, hcd⟩ := F.ex
    refine ⟨fun s us ws X l1 l2 => ?_, rel_sa⟩
    match us, ws, l1, l2 with
    | [_], [], _, _ => exact .of_eq rfl
abbrev c_InvalidName : CD := ⟨"InvalidName", 0, ["value"], 34, 652⟩
theorem sc_InvalidName : FnScope ["self", "value"] ["self", "value"] (defScope (initS c_InvalidName)) := ⟨rfl, rfl, rfl, by decide +kernel, rfl, by decide +kernel, by decide +kernel⟩
theorem init_InvalidName : InitP P w K mg base c_InvalidName := by
  intro f fd F T n0 nx
  refine ⟨?_, ?_, ?_⟩
  · refine F.ok sc_InvalidName (fun vs H Q E h => ?_) (fun cdv A outer s H vs Q E hr h => ?_)
    · obtain ⟨a, ws, rfl, l, _⟩ := h
      exact congrArg Nat.succ l
    obtain ⟨a, ws, rfl, l, ha, q⟩ := h
    obtain ⟨v, rfl⟩ : ∃ v, ws = [v] := by match ws, l with | [v], _ => exact ⟨v, rfl⟩
    refine ⟨_, pss_cons (ps_xst (pv 0) pe_str) (pss_one (ps_xst (pv 0) (pv 1))), ?_⟩
    refine ⟨_, rfl, a, _, rfl, T, n0, .inl ⟨ha, fun e H1 ne he h1 h2 h3 => ?_⟩⟩
    refine ⟨_, rfl, _, rfl, a, _, rfl, T, nx _ List.mem_cons_self, .inr ⟨e, _, h1, h2, (by show 1 ≤ 900; decide), ?_⟩⟩
    exact q e _ ne he (by rw [upd_ne (Ne.symm ne)]; exact h1) (by rw [upd_same]; rfl) (fun b b1 b2 => by rw [upd_ne b2]; exact h3 b b1 b2)
  · obtain ⟨oc, od, kV, doc, pm, an, cdv, ct, osl, rfl, lk, hcd⟩ := F.ex
    intro n hn
    refine ⟨fun s us ws X l1 l2 => ?_, rel_ga⟩
    have hn' : n ≤ 1 := hn
    rcases (show n = 0 ∨ n = 1 by omega) with rfl | rfl
    · match us, ws, l1, l2 with
      | [_], [_], _, _ => exact .of_eq rfl
    · match us, ws, l1, l2 with
      | [_, _], [], _, _ => exact .of_eq rfl
  · obtain ⟨oc, od, kV, doc, pm, an, cdv, ct, osl, rfl, lk, hcd⟩ := F.ex
    refine ⟨fun s us ws X l1 l2 => ?_, rel_sa⟩
    match us, ws, l1, l2 with
    | [_], [_], _, _ => exact .of_eq rfl
abbrev c_InvalidNames : CD := ⟨"InvalidNames", 0, ["at"], 35, 671⟩
theorem sc_InvalidNames : FnScope ["self", "at"] ["self", "at"] (defScope (initS c_InvalidNames)) := ⟨rfl, rfl, rfl, by decide +kernel, rfl, by decide +kernel, by decide +kernel⟩
theorem init_InvalidNames : InitP P w K mg base c_InvalidNames := by
  intro f fd F T n0 nx
  refine ⟨?_, ?_, ?_⟩
  · refine F.ok sc_InvalidNames (fun vs H Q E h => ?_) (fun cdv A outer s H vs Q E hr h => ?_)
    · obtain ⟨a, ws, rfl, l, _⟩ := h
      exact congrArg Nat.succ l
    obtain ⟨a, ws, rfl, l, ha, q⟩ := h
    obtain ⟨v, rfl⟩ : ∃ v, ws = [v] := by match ws, l with | [v], _ => exact ⟨v, rfl⟩
    refine ⟨_, pss_cons (ps_xst (pv 0) pe_str) (pss_one (ps_xst (pv 0) (pv 1))), ?_⟩
    refine ⟨_, rfl, a, _, rfl, T, n0, .inl ⟨ha, fun e H1 ne he h1 h2 h3 => ?_⟩⟩
    refine ⟨_, rfl, _, rfl, a, _, rfl, T, nx _ List.mem_cons_self, .inr ⟨e, _, h1, h2, (by show 1 ≤ 900; decide), ?_⟩⟩
    exact q e _ ne he (by rw [upd_ne (Ne.symm ne)]; exact h1) (by rw [upd_same]; rfl) (fun b b1 b2 => by rw [upd_ne b2]; exact h3 b b1 b2)
  · obtain ⟨oc, od, kV, doc, pm, an, cdv, ct, osl, rfl, lk, hcd⟩ := F.ex
    intro n hn
    refine ⟨fun s us ws X l1 l2 => ?_, rel_ga⟩
    have hn' : n ≤ 1 := hn
    rcases (show n = 0 ∨ n = 1 by omega) with rfl | rfl
    · match us, ws, l1, l2 with
      | [_], [_], _, _ => exact .of_eq rfl
    · match us, ws, l1, l2 with
      | [_, _], [], _, _ => exact .of_eq rfl
  · obtain ⟨oc, od, kV, doc, pm, an, cdv, ct, osl, rfl, lk, hcd⟩ := F.ex
    refine ⟨fun s us ws X l1 l2 => ?_, rel_sa⟩
    match us, ws, l1, l2 with
    | [_], [_], _, _ => exact .of_eq rfl
abbrev c_InvalidWord : CD := ⟨"InvalidWord", 0, ["at"], 36, 690⟩
theorem sc_InvalidWord : FnScope ["self", "at"] ["self", "at"] (defScope (initS c_InvalidWord)) := ⟨rfl, rfl, rfl, by decide +kernel, rfl, by decide +kernel, by decide +kernel⟩
theorem init_InvalidWord : InitP P w K mg base c_InvalidWord := by
  intro f fd F T n0 nx
  refine ⟨?_, ?_, ?_⟩
  · refine F.ok sc_InvalidWord (fun vs H Q E h => ?_) (fun cdv A outer s H vs Q E hr h => ?_)
    · obtain ⟨a, ws, rfl, l, _⟩ := h
      exact congrArg Nat.succ l
    obtain ⟨a, ws, rfl, l, ha, q⟩ := h
    obtain ⟨v, rfl⟩ : ∃ v, ws = [v] := by match ws, l with | [v], _ => exact ⟨v, rfl⟩
    refine ⟨_, pss_cons (ps_xst (pv 0) pe_str) (pss_one (ps_xst (pv 0) (pv 1))), ?_⟩
    refine ⟨_, rfl, a, _, rfl, T, n0, .inl ⟨ha, fun e H1 ne he h1 h2 h3 => ?_⟩⟩
    refine ⟨_, rfl, _, rfl, a, _, rfl, T, nx _ List.mem_cons_self, .inr ⟨e, _, h1, h2, (by show 1 ≤ 900; decide), ?_⟩⟩
    exact q e _ ne he (by rw [upd_ne (Ne.symm ne)]; exact h1) (by rw [upd_same]; rfl) (fun b b1 b2 => by rw [upd_ne b2]; exact h3 b b1 b2)
  · obtain ⟨oc, od, kV, doc, pm, an, cdv, ct, osl, rfl, lk, hcd⟩ := F.ex
    intro n hn
    refine ⟨fun s us ws X l1 l2 => ?_, rel_ga⟩
    have hn' : n ≤ 1 := hn
    rcases (show n = 0 ∨ n = 1 by omega) with rfl | rfl
    · match us, ws, l1, l2 with
      | [_], [_], _, _ => exact .of_eq rfl
    · match us, ws, l1, l2 with
      | [_, _], [], _, _ => exact .of_eq rfl
  · obtain ⟨oc, od, kV, doc, pm, an, cdv, ct, osl, rfl, lk, hcd⟩ := F.ex
    refine ⟨fun s us ws X l1 l2 => ?_, rel_sa⟩
    match us, ws, l1, l2 with
    | [_], [_], _, _ => exact .of_eq rfl
abbrev c_SameName : CD := ⟨"SameName", 0, ["name"], 37, 709⟩
theorem sc_SameName : FnScope ["self", "name"] ["self", "name"] (defScope (initS c_SameName)) := ⟨rfl, rfl, rfl, by decide +kernel, rfl, by decide +kernel, by decide +kernel⟩
theorem init_SameName : InitP P w K mg base c_SameName := by
  intro f fd F T n0 nx
  refine ⟨?_, ?_, ?_⟩
  · refine F.ok sc_SameName (fun vs H Q E h => ?_) (fun cdv A outer s H vs Q E hr h => ?_)
    · obtain ⟨a, ws, rfl, l, _⟩ := h
      exact congrArg Nat.succ l
    obtain ⟨a, ws, rfl, l, ha, q⟩ := h
    obtain ⟨v, rfl⟩ : ∃ v, ws = [v] := by match ws, l with | [v], _ => exact ⟨v, rfl⟩
    refine ⟨_, pss_cons (ps_xst (pv 0) pe_str) (pss_one (ps_xst (pv 0) (pv 1))), ?_⟩
    refine ⟨_, rfl, a, _, rfl, T, n0, .inl ⟨ha, fun e H1 ne he h1 h2 h3 => ?_⟩⟩
    refine ⟨_, rfl, _, rfl, a, _, rfl, T, nx _ List.mem_cons_self, .inr ⟨e, _, h1, h2, (by show 1 ≤ 900; decide), ?_⟩⟩
    exact q e _ ne he (by rw [upd_ne (Ne.symm ne)]; exact h1) (by rw [upd_same]; rfl) (fun b b1 b2 => by rw [upd_ne b2]; exact h3 b b1 b2)
  · obtain ⟨oc, od, kV, doc, pm, an, cdv, ct, osl, rfl, lk, hcd⟩ := F.ex
    intro n hn
    refine ⟨fun s us ws X l1 l2 => ?_, rel_ga⟩
    have hn' : n ≤ 1 := hn
    rcases (show n = 0 ∨ n = 1 by omega) with rfl | rfl
    · match us, ws, l1, l2 with
      | [_], [_], _, _ => exact .of_eq rfl
    · match us, ws, l1, l2 with
      | [_, _], [], _, _ => exact .of_eq rfl
  · obtain ⟨oc, od, kV, doc, pm, an, cdv, ct, osl, rfl, lk, hcd⟩ := F.ex
    refine ⟨fun s us ws X l1 l2 => ?_, rel_sa⟩
    match us, ws, l1, l2 with
    | [_], [_], _, _ => exact .of_eq rfl
abbrev c_NotOpen : CD := ⟨"NotOpen", 0, [], 38, 728⟩
theorem sc_NotOpen : FnScope ["self"] ["self"] (defScope (initS c_NotOpen)) := ⟨rfl, rfl, rfl, by decide +kernel, rfl, by decide +kernel, by decide +kernel⟩
theorem init_NotOpen : InitP P w K mg base c_NotOpen := by
  intro f fd F T n0 nx
  refine ⟨?_, ?_, ?_⟩
  · refine F.ok sc_NotOpen (fun vs H Q E h => ?_) (fun cdv A outer s H vs Q E hr h => ?_)
    · obtain ⟨a, ws, rfl, l, _⟩ := h
      exact congrArg Nat.succ l
    obtain ⟨a, ws, rfl, l, ha, q⟩ := h
    obtain rfl : ws = [] := by match ws, l with | [], _ => rfl
    refine ⟨_, pss_one (ps_xst (pv 0) pe_str), ?_⟩
    exact ⟨_, rfl, a, _, rfl, T, n0, .inl ⟨ha, fun e H1 ne he h1 h2 h3 => q e _ ne he h1 h2 h3⟩⟩
  · obtain ⟨oc, od, kV, doc, pm, an, cdv, ct, osl, rfl, lk, hcd⟩ := F.ex
    intro n hn
    refine ⟨fun s us ws X l1 l2 => ?_, rel_ga⟩
    obtain rfl : n = 0 := Nat.le_zero.mp hn
    match us, ws, l1, l2 with
    | [_], [], _, _ => exact .of_eq rfl
  · obtain ⟨oc, od, kV, doc, pm, an, cdv, ct, osl, rfl, lk, hcd⟩ := F.ex
    refine ⟨fun s us ws X l1 l2 => ?_, rel_sa⟩
    match us, ws, l1, l2 with
    | [_], [], _, _ => exact .of_eq rfl
abbrev c_InvalidStep : CD := ⟨"InvalidStep", 0, [], 39, 747⟩
theorem sc_InvalidStep : FnScope ["self"] ["self"] (defScope (initS c_InvalidStep)) := ⟨rfl, rfl, rfl, by decide +kernel, rfl, by decide +kernel, by decide +kernel⟩
theorem init_InvalidStep : InitP P w K mg base c_InvalidStep := by
  intro f fd F T n0 nx
  refine ⟨?_, ?_, ?_⟩
  · refine F.ok sc_InvalidStep (fun vs H Q E h => ?_) (fun cdv A outer s H vs Q E hr h => ?_)
    · obtain ⟨a, ws, rfl, l, _⟩ := h
      exact congrArg Nat.succ l
    obtain ⟨a, ws, rfl, l, ha, q⟩ := h
    obtain rfl : ws = [] := by match ws, l with | [], _ => rfl
    refine ⟨_, pss_one (ps_xst (pv 0) pe_str), ?_⟩
    exact ⟨_, rfl, a, _, rfl, T, n0, .inl ⟨ha, fun e H1 ne he h1 h2 h3 => q e _ ne he h1 h2 h3⟩⟩
  · obtain ⟨oc, od, kV, doc, pm, an, cdv, ct, osl, rfl, lk, hcd⟩ := F.ex
    intro n hn
    refine ⟨fun s us ws X l1 l2 => ?_, rel_ga⟩
    obtain rfl : n = 0 := Nat.le_zero.mp hn
    match us, ws, l1, l2 with
    | [_], [], _, _ => exact .of_eq rfl
  · obtain ⟨oc, od, kV, doc, pm, an, cdv, ct, osl, rfl, lk, hcd⟩ := F.ex
    refine ⟨fun s us ws X l1 l2 => ?_, rel_sa⟩
    match us, ws, l1, l2 with
    | [_], [], _, _ => exact .of_eq rfl
abbrev c_InvalidPaper : CD := ⟨"InvalidPaper", 0, ["at"], 40, 766⟩
theorem sc_InvalidPaper : FnScope ["self", "at"] ["self", "at"] (defScope (initS c_InvalidPaper)) := ⟨rfl, rfl, rfl, by decide +kernel, rfl, by decide +kernel, by decide +kernel⟩
theorem init_InvalidPaper : InitP P w K mg base c_InvalidPaper := by
  intro f fd F T n0 nx
  refine ⟨?_, ?_, ?_⟩
  · refine F.ok sc_InvalidPaper (fun vs H Q E h => ?_) (fun cdv A outer s H vs Q E hr h => ?_)
    · obtain ⟨a, ws, rfl, l, _⟩ := h
      exact congrArg Nat.succ l
    obtain ⟨a, ws, rfl, l, ha, q⟩ := h
    obtain ⟨v, rfl⟩ : ∃ v, ws = [v] := by match ws, l with | [v], _ => exact ⟨v, rfl⟩
    refine ⟨_, pss_cons (ps_xst (pv 0) pe_str) (pss_one (ps_xst (pv 0) (pv 1))), ?_⟩
    refine ⟨_, rfl, a, _, rfl, T, n0, .inl ⟨ha, fun e H1 ne he h1 h2 h3 => ?_⟩⟩
    refine ⟨_, rfl, _, rfl, a, _, rfl, T, nx _ List.mem_cons_self, .inr ⟨e, _, h1, h2, (by show 1 ≤ 900; decide), ?_⟩⟩
    exact q e _ ne he (by rw [upd_ne (Ne.symm ne)]; exact h1) (by rw [upd_same]; rfl) (fun b b1 b2 => by rw [upd_ne b2]; exact h3 b b1 b2)
  · obtain ⟨oc, od, kV, doc, pm, an, cdv, ct, osl, rfl, lk, hcd⟩ := F.ex
    intro n hn
    refine ⟨fun s us ws X l1 l2 => ?_, rel_ga⟩
    have hn' : n ≤ 1 := hn
    rcases (show n = 0 ∨ n = 1 by omega) with rfl | rfl
    · match us, ws, l1, l2 with
      | [_], [_], _, _ => exact .of_eq rfl
    · match us, ws, l1, l2 with
      | [_, _], [], _, _ => exact .of_eq rfl
  · obtain ⟨oc, od, kV, doc, pm, an, cdv, ct, osl, rfl, lk, hcd⟩ := F.ex
    refine ⟨fun s us ws X l1 l2 => ?_, rel_sa⟩
    match us, ws, l1, l2 with
    | [_], [_], _, _ => exact .of_eq rfl
abbrev c_InvalidDeed : CD := ⟨"InvalidDeed", 0, ["at"], 41, 785⟩
theorem sc_InvalidDeed : FnScope ["self", "at"] ["self", "at"] (defScope (initS c_InvalidDeed)) := ⟨rfl, rfl, rfl, by decide +kernel, rfl, by decide +kernel, by decide +kernel⟩
theorem init_InvalidDeed : InitP P w K mg base c_InvalidDeed := by
  intro f fd F T n0 nx
  refine ⟨?_, ?_, ?_⟩
  · refine F.ok sc_InvalidDeed (fun vs H Q E h => ?_) (fun cdv A outer s H vs Q E hr h => ?_)
    · obtain ⟨a, ws, rfl, l, _⟩ := h
      exact congrArg Nat.succ l
    obtain ⟨a, ws, rfl, l, ha, q⟩ := h
    obtain ⟨v, rfl⟩ : ∃ v, ws = [v] := by match ws, l with | [v], _ => exact ⟨v, rfl⟩
    refine ⟨_, pss_cons (ps_xst (pv 0) pe_str) (pss_one (ps_xst (pv 0) (pv 1))), ?_⟩
    refine ⟨_, rfl, a, _, rfl, T, n0, .inl ⟨ha, fun e H1 ne he h1 h2 h3 => ?_⟩⟩
    refine ⟨_, rfl, _, rfl, a, _, rfl, T, nx _ List.mem_cons_self, .inr ⟨e, _, h1, h2, (by show 1 ≤ 900; decide), ?_⟩⟩
    exact q e _ ne he (by rw [upd_ne (Ne.symm ne)]; exact h1) (by rw [upd_same]; rfl) (fun b b1 b2 => by rw [upd_ne b2]; exact h3 b b1 b2)
  · obtain ⟨oc, od, kV, doc, pm, an, cdv, ct, osl, rfl, lk, hcd⟩ := F.ex
    intro n hn
    refine ⟨fun s us ws X l1 l2 => ?_, rel_ga⟩
    have hn' : n ≤ 1 := hn
    rcases (show n = 0 ∨ n = 1 by omega) with rfl | rfl
    · match us, ws, l1, l2 with
      | [_], [_], _, _ => exact .of_eq rfl
    · match us, ws, l1, l2 with
      | [_, _], [], _, _ => exact .of_eq rfl
  · obtain ⟨oc, od, kV, doc, pm, an, cdv, ct, osl, rfl, lk, hcd⟩ := F.ex
    refine ⟨fun s us ws X l1 l2 => ?_, rel_sa⟩
    match us, ws, l1, l2 with
    | [_], [_], _, _ => exact .of_eq rfl
abbrev c_InvalidLine : CD := ⟨"InvalidLine", 0, ["line"], 42, 804⟩
theorem sc_InvalidLine : FnScope ["self", "line"] ["self", "line"] (defScope (initS c_InvalidLine)) := ⟨rfl, rfl, rfl, by decide +kernel, rfl, by decide +kernel, by decide +kernel⟩
theorem init_InvalidLine : InitP P w K mg base c_InvalidLine := by
  intro f fd F T n0 nx
  refine ⟨?_, ?_, ?_⟩
  · refine F.ok sc_InvalidLine (fun vs H Q E h => ?_) (fun cdv A outer s H vs Q E hr h => ?_)
    · obtain ⟨a, ws, rfl, l, _⟩ := h
      exact congrArg Nat.succ l
    obtain ⟨a, ws, rfl, l, ha, q⟩ := h
    obtain ⟨v, rfl⟩ : ∃ v, ws = [v] := by match ws, l with | [v], _ => exact ⟨v, rfl⟩
    refine ⟨_, pss_cons (ps_xst (pv 0) pe_str) (pss_one (ps_xst (pv 0) (pv 1))), ?_⟩
    refine ⟨_, rfl, a, _, rfl, T, n0, .inl ⟨ha, fun e H1 ne he h1 h2 h3 => ?_⟩⟩
    refine ⟨_, rfl, _, rfl, a, _, rfl, T, nx _ List.mem_cons_self, .inr ⟨e, _, h1, h2, (by show 1 ≤ 900; decide), ?_⟩⟩
    exact q e _ ne he (by rw [upd_ne (Ne.symm ne)]; exact h1) (by rw [upd_same]; rfl) (fun b b1 b2 => by rw [upd_ne b2]; exact h3 b b1 b2)
  · obtain ⟨oc, od, kV, doc, pm, an, cdv, ct, osl, rfl, lk, hcd⟩ := F.ex
    intro n hn
    refine ⟨fun s us ws X l1 l2 => ?_, rel_ga⟩
    have hn' : n ≤ 1 := hn
    rcases (show n = 0 ∨ n = 1 by omega) with rfl | rfl
    · match us, ws, l1, l2 with
      | [_], [_], _, _ => exact .of_eq rfl
    · match us, ws, l1, l2 with
      | [_, _], [], _, _ => exact .of_eq rfl
  · obtain ⟨oc, od, kV, doc, pm, an, cdv, ct, osl, rfl, lk, hcd⟩ := F.ex
    refine ⟨fun s us ws X l1 l2 => ?_, rel_sa⟩
    match us, ws, l1, l2 with
    | [_], [_], _, _ => exact .of_eq rfl
abbrev c_TooMany : CD := ⟨"TooMany", 0, ["most"], 43, 823⟩
theorem sc_TooMany : FnScope ["self", "most"] ["self", "most"] (defScope (initS c_TooMany)) := ⟨rfl, rfl, rfl, by decide +kernel, rfl, by decide +kernel, by decide +kernel⟩
theorem init_TooMany : InitP P w K mg base c_TooMany := by
  intro f fd F T n0 nx
  refine ⟨?_, ?_, ?_⟩
  · refine F.ok sc_TooMany (fun vs H Q E h => ?_) (fun cdv A outer s H vs Q E hr h => ?_)
    · obtain ⟨a, ws, rfl, l, _⟩ := h
      exact congrArg Nat.succ l
    obtain ⟨a, ws, rfl, l, ha, q⟩ := h
    obtain ⟨v, rfl⟩ : ∃ v, ws = [v] := by match ws, l with | [v], _ => exact ⟨v, rfl⟩
    refine ⟨_, pss_cons (ps_xst (pv 0) pe_str) (pss_one (ps_xst (pv 0) (pv 1))), ?_⟩
    refine ⟨_, rfl, a, _, rfl, T, n0, .inl ⟨ha, fun e H1 ne he h1 h2 h3 => ?_⟩⟩
    refine ⟨_, rfl, _, rfl, a, _, rfl, T, nx _ List.mem_cons_self, .inr ⟨e, _, h1, h2, (by show 1 ≤ 900; decide), ?_⟩⟩
    exact q e _ ne he (by rw [upd_ne (Ne.symm ne)]; exact h1) (by rw [upd_same]; rfl) (fun b b1 b2 => by rw [upd_ne b2]; exact h3 b b1 b2)
  · obtain ⟨oc, od, kV, doc, pm, an, cdv, ct, osl, rfl, lk, hcd⟩ := F.ex
    intro n hn
    refine ⟨fun s us ws X l1 l2 => ?_, rel_ga⟩
    have hn' : n ≤ 1 := hn
    rcases (show n = 0 ∨ n = 1 by omega) with rfl | rfl
    · match us, ws, l1, l2 with
      | [_], [_], _, _ => exact .of_eq rfl
    · match us, ws, l1, l2 with
      | [_, _], [], _, _ => exact .of_eq rfl
  · obtain ⟨oc, od, kV, doc, pm, an, cdv, ct, osl, rfl, lk, hcd⟩ := F.ex
    refine ⟨fun s us ws X l1 l2 => ?_, rel_sa⟩
    match us, ws, l1, l2 with
    | [_], [_], _, _ => exact .of_eq rfl
abbrev c_Solved : CD := ⟨"Solved", 0, [], 44, 842⟩
theorem sc_Solved : FnScope ["self"] ["self"] (defScope (initS c_Solved)) := ⟨rfl, rfl, rfl, by decide +kernel, rfl, by decide +kernel, by decide +kernel⟩
theorem init_Solved : InitP P w K mg base c_Solved := by
  intro f fd F T n0 nx
  refine ⟨?_, ?_, ?_⟩
  · refine F.ok sc_Solved (fun vs H Q E h => ?_) (fun cdv A outer s H vs Q E hr h => ?_)
    · obtain ⟨a, ws, rfl, l, _⟩ := h
      exact congrArg Nat.succ l
    obtain ⟨a, ws, rfl, l, ha, q⟩ := h
    obtain rfl : ws = [] := by match ws, l with | [], _ => rfl
    refine ⟨_, pss_one (ps_xst (pv 0) pe_str), ?_⟩
    exact ⟨_, rfl, a, _, rfl, T, n0, .inl ⟨ha, fun e H1 ne he h1 h2 h3 => q e _ ne he h1 h2 h3⟩⟩
  · obtain ⟨oc, od, kV, doc, pm, an, cdv, ct, osl, rfl, lk, hcd⟩ := F.ex
    intro n hn
    refine ⟨fun s us ws X l1 l2 => ?_, rel_ga⟩
    obtain rfl : n = 0 := Nat.le_zero.mp hn
    match us, ws, l1, l2 with
    | [_], [], _, _ => exact .of_eq rfl
  · obtain ⟨oc, od, kV, doc, pm, an, cdv, ct, osl, rfl, lk, hcd⟩ := F.ex
    refine ⟨fun s us ws X l1 l2 => ?_, rel_sa⟩
    match us, ws, l1, l2 with
    | [_], [], _, _ => exact .of_eq rfl
abbrev c_DividedByZero : CD := ⟨"DividedByZero", 1, [], 46, 874⟩
theorem sc_DividedByZero : FnScope ["self"] ["self"] (defScope (initS c_DividedByZero)) := ⟨rfl, rfl, rfl, by decide +kernel, rfl, by decide +kernel, by decide +kernel⟩
theorem init_DividedByZero : InitP P w K mg base c_DividedByZero := by
  intro f fd F T n0 nx
  refine ⟨?_, ?_, ?_⟩
  · refine F.ok sc_DividedByZero (fun vs H Q E h => ?_) (fun cdv A outer s H vs Q E hr h => ?_)
    · obtain ⟨a, ws, rfl, l, _⟩ := h
      exact congrArg Nat.succ l
    obtain ⟨a, ws, rfl, l, ha, q⟩ := h
    obtain rfl : ws = [] := by match ws, l with | [], _ => rfl
    refine ⟨_, pss_one (ps_xst (pv 0) pe_str), ?_⟩
    exact ⟨_, rfl, a, _, rfl, T, n0, .inl ⟨ha, fun e H1 ne he h1 h2 h3 => q e _ ne he h1 h2 h3⟩⟩
  · obtain ⟨oc, od, kV, doc, pm, an, cdv, ct, osl, rfl, lk, hcd⟩ := F.ex
    intro n hn
    refine ⟨fun s us ws X l1 l2 => ?_, rel_ga⟩
    obtain rfl : n = 0 := Nat.le_zero.mp hn
    match us, ws, l1, l2 with
    | [_], [], _, _ => exact .of_eq rfl
  · obtain ⟨oc, od, kV, doc, pm, an, cdv, ct, osl, rfl, lk, hcd⟩ := F.ex
    refine ⟨fun s us ws X l1 l2 => ?_, rel_sa⟩
    match us, ws, l1, l2 with
    | [_], [], _, _ => exact .of_eq rfl
abbrev c_Tied : CD := ⟨"Tied", 1, ["ties"], 47, 893⟩
theorem sc_Tied : FnScope ["self", "ties"] ["self", "ties"] (defScope (initS c_Tied)) := ⟨rfl, rfl, rfl, by decide +kernel, rfl, by decide +kernel, by decide +kernel⟩
theorem init_Tied : InitP P w K mg base c_Tied := by
  intro f fd F T n0 nx
  refine ⟨?_, ?_, ?_⟩
  · refine F.ok sc_Tied (fun vs H Q E h => ?_) (fun cdv A outer s H vs Q E hr h => ?_)
    · obtain ⟨a, ws, rfl, l, _⟩ := h
      exact congrArg Nat.succ l
    obtain ⟨a, ws, rfl, l, ha, q⟩ := h
    obtain ⟨v, rfl⟩ : ∃ v, ws = [v] := by match ws, l with | [v], _ => exact ⟨v, rfl⟩
    refine ⟨_, pss_cons (ps_xst (pv 0) pe_str) (pss_one (ps_xst (pv 0) (pv 1))), ?_⟩
    refine ⟨_, rfl, a, _, rfl, T, n0, .inl ⟨ha, fun e H1 ne he h1 h2 h3 => ?_⟩⟩
    refine ⟨_, rfl, _, rfl, a, _, rfl, T, nx _ List.mem_cons_self, .inr ⟨e, _, h1, h2, (by show 1 ≤ 900; decide), ?_⟩⟩
    exact q e _ ne he (by rw [upd_ne (Ne.symm ne)]; exact h1) (by rw [upd_same]; rfl) (fun b b1 b2 => by rw [upd_ne b2]; exact h3 b b1 b2)
  · obtain ⟨oc, od, kV, doc, pm, an, cdv, ct, osl, rfl, lk, hcd⟩ := F.ex
    intro n hn
    refine ⟨fun s us ws X l1 l2 => ?_, rel_ga⟩
    have hn' : n ≤ 1 := hn
    rcases (show n = 0 ∨ n = 1 by omega) with rfl | rfl
    · match us, ws, l1, l2 with
      | [_], [_], _, _ => exact .of_eq rfl
    · match us, ws, l1, l2 with
      | [_, _], [], _, _ => exact .of_eq rfl
  · obtain ⟨oc, od, kV, doc, pm, an, cdv, ct, osl, rfl, lk, hcd⟩ := F.ex
    refine ⟨fun s us ws X l1 l2 => ?_, rel_sa⟩
    match us, ws, l1, l2 with
    | [_], [_], _, _ => exact .of_eq rfl
abbrev c_NotSquare : CD := ⟨"NotSquare", 1, ["equations", "unknowns"], 48, 912⟩
theorem sc_NotSquare : FnScope ["self", "equations", "unknowns"] ["self", "equations", "unknowns"] (defScope (initS c_NotSquare)) := ⟨rfl, rfl, rfl, by decide +kernel, rfl, by decide +kernel, by decide +kernel⟩
theorem init_NotSquare : InitP P w K mg base c_NotSquare := by
  intro f fd F T n0 nx
  refine ⟨?_, ?_, ?_⟩
  · refine F.ok sc_NotSquare (fun vs H Q E h => ?_) (fun cdv A outer s H vs Q E hr h => ?_)
    · obtain ⟨a, ws, rfl, l, _⟩ := h
      exact congrArg Nat.succ l
    obtain ⟨a, ws, rfl, l, ha, q⟩ := h
    obtain ⟨v, u, rfl⟩ : ∃ v u, ws = [v, u] := by match ws, l with | [v, u], _ => exact ⟨v, u, rfl⟩
    refine ⟨_, pss_cons (ps_xst (pv 0) pe_str) (pss_cons (ps_xst (pv 0) (pv 1)) (pss_one (ps_xst (pv 0) (pv 2)))), ?_⟩
    refine ⟨_, rfl, a, _, rfl, T, n0, .inl ⟨ha, fun e H1 ne he h1 h2 h3 => ?_⟩⟩
    refine ⟨_, rfl, _, rfl, a, _, rfl, T, nx _ List.mem_cons_self, .inr ⟨e, _, h1, h2, (by show 1 ≤ 900; decide), ?_⟩⟩
    refine ⟨_, rfl, _, rfl, a, _, rfl, T, nx _ (List.mem_cons_of_mem _ List.mem_cons_self), .inr ⟨e, _, (by rw [upd_ne (Ne.symm ne)]; exact h1), upd_same, (by show 2 ≤ 900; decide), ?_⟩⟩
    exact q e _ ne he (by rw [upd_ne (Ne.symm ne), upd_ne (Ne.symm ne)]; exact h1) (by rw [upd_same]; rfl) (fun b b1 b2 => by rw [upd_ne b2, upd_ne b2]; exact h3 b b1 b2)
  · obtain ⟨oc, od, kV, doc, pm, an, cdv, ct, osl, rfl, lk, hcd⟩ := F.ex
    intro n hn
    refine ⟨fun s us ws X l1 l2 => ?_, rel_ga⟩
    have hn' : n ≤ 2 := hn
    rcases (show n = 0 ∨ n = 1 ∨ n = 2 by omega) with rfl | rfl | rfl
    · match us, ws, l1, l2 with
      | [_], [_, _], _, _ => exact .of_eq rfl
    · match us, ws, l1, l2 with
      | [_, _], [_], _, _ => exact .of_eq rfl
    · match us, ws, l1, l2 with
      | [_, _, _], [], _, _ => exact .of_eq rfl
  · obtain ⟨oc, od, kV, doc, pm, an, cdv, ct, osl, rfl, lk, hcd⟩ := F.ex
    refine ⟨fun s us ws X l1 l2 => ?_, rel_sa⟩
    match us, ws, l1, l2 with
    | [_], [_, _], _, _ => exact .of_eq rfl
abbrev c_UnknownName : CD := ⟨"UnknownName", 2, ["name"], 50, 944⟩
theorem sc_UnknownName : FnScope ["self", "name"] ["self", "name"] (defScope (initS c_UnknownName)) := ⟨rfl, rfl, rfl, by decide +kernel, rfl, by decide +kernel, by decide +kernel⟩
theorem init_UnknownName : InitP P w K mg base c_UnknownName := by
  intro f fd F T n0 nx
  refine ⟨?_, ?_, ?_⟩
  · refine F.ok sc_UnknownName (fun vs H Q E h => ?_) (fun cdv A outer s H vs Q E hr h => ?_)
    · obtain ⟨a, ws, rfl, l, _⟩ := h
      exact congrArg Nat.succ l
    obtain ⟨a, ws, rfl, l, ha, q⟩ := h
    obtain ⟨v, rfl⟩ : ∃ v, ws = [v] := by match ws, l with | [v], _ => exact ⟨v, rfl⟩
    refine ⟨_, pss_cons (ps_xst (pv 0) pe_str) (pss_one (ps_xst (pv 0) (pv 1))), ?_⟩
    refine ⟨_, rfl, a, _, rfl, T, n0, .inl ⟨ha, fun e H1 ne he h1 h2 h3 => ?_⟩⟩
    refine ⟨_, rfl, _, rfl, a, _, rfl, T, nx _ List.mem_cons_self, .inr ⟨e, _, h1, h2, (by show 1 ≤ 900; decide), ?_⟩⟩
    exact q e _ ne he (by rw [upd_ne (Ne.symm ne)]; exact h1) (by rw [upd_same]; rfl) (fun b b1 b2 => by rw [upd_ne b2]; exact h3 b b1 b2)
  · obtain ⟨oc, od, kV, doc, pm, an, cdv, ct, osl, rfl, lk, hcd⟩ := F.ex
    intro n hn
    refine ⟨fun s us ws X l1 l2 => ?_, rel_ga⟩
    have hn' : n ≤ 1 := hn
    rcases (show n = 0 ∨ n = 1 by omega) with rfl | rfl
    · match us, ws, l1, l2 with
      | [_], [_], _, _ => exact .of_eq rfl
    · match us, ws, l1, l2 with
      | [_, _], [], _, _ => exact .of_eq rfl
  · obtain ⟨oc, od, kV, doc, pm, an, cdv, ct, osl, rfl, lk, hcd⟩ := F.ex
    refine ⟨fun s us ws X l1 l2 => ?_, rel_sa⟩
    match us, ws, l1, l2 with
    | [_], [_], _, _ => exact .of_eq rfl
abbrev c_UnknownStep : CD := ⟨"UnknownStep", 2, ["at"], 51, 963⟩
theorem sc_UnknownStep : FnScope ["self", "at"] ["self", "at"] (defScope (initS c_UnknownStep)) := ⟨rfl, rfl, rfl, by decide +kernel, rfl, by decide +kernel, by decide +kernel⟩
theorem init_UnknownStep : InitP P w K mg base c_UnknownStep := by
  intro f fd F T n0 nx
  refine ⟨?_, ?_, ?_⟩
  · refine F.ok sc_UnknownStep (fun vs H Q E h => ?_) (fun cdv A outer s H vs Q E hr h => ?_)
    · obtain ⟨a, ws, rfl, l, _⟩ := h
      exact congrArg Nat.succ l
    obtain ⟨a, ws, rfl, l, ha, q⟩ := h
    obtain ⟨v, rfl⟩ : ∃ v, ws = [v] := by match ws, l with | [v], _ => exact ⟨v, rfl⟩
    refine ⟨_, pss_cons (ps_xst (pv 0) pe_str) (pss_one (ps_xst (pv 0) (pv 1))), ?_⟩
    refine ⟨_, rfl, a, _, rfl, T, n0, .inl ⟨ha, fun e H1 ne he h1 h2 h3 => ?_⟩⟩
    refine ⟨_, rfl, _, rfl, a, _, rfl, T, nx _ List.mem_cons_self, .inr ⟨e, _, h1, h2, (by show 1 ≤ 900; decide), ?_⟩⟩
    exact q e _ ne he (by rw [upd_ne (Ne.symm ne)]; exact h1) (by rw [upd_same]; rfl) (fun b b1 b2 => by rw [upd_ne b2]; exact h3 b b1 b2)
  · obtain ⟨oc, od, kV, doc, pm, an, cdv, ct, osl, rfl, lk, hcd⟩ := F.ex
    intro n hn
    refine ⟨fun s us ws X l1 l2 => ?_, rel_ga⟩
    have hn' : n ≤ 1 := hn
    rcases (show n = 0 ∨ n = 1 by omega) with rfl | rfl
    · match us, ws, l1, l2 with
      | [_], [_], _, _ => exact .of_eq rfl
    · match us, ws, l1, l2 with
      | [_, _], [], _, _ => exact .of_eq rfl
  · obtain ⟨oc, od, kV, doc, pm, an, cdv, ct, osl, rfl, lk, hcd⟩ := F.ex
    refine ⟨fun s us ws X l1 l2 => ?_, rel_sa⟩
    match us, ws, l1, l2 with
    | [_], [_], _, _ => exact .of_eq rfl
abbrev c_NothingLeft : CD := ⟨"NothingLeft", 3, [], 52, 982⟩
theorem sc_NothingLeft : FnScope ["self"] ["self"] (defScope (initS c_NothingLeft)) := ⟨rfl, rfl, rfl, by decide +kernel, rfl, by decide +kernel, by decide +kernel⟩
theorem init_NothingLeft : InitP P w K mg base c_NothingLeft := by
  intro f fd F T n0 nx
  refine ⟨?_, ?_, ?_⟩
  · refine F.ok sc_NothingLeft (fun vs H Q E h => ?_) (fun cdv A outer s H vs Q E hr h => ?_)
    · obtain ⟨a, ws, rfl, l, _⟩ := h
      exact congrArg Nat.succ l
    obtain ⟨a, ws, rfl, l, ha, q⟩ := h
    obtain rfl : ws = [] := by match ws, l with | [], _ => rfl
    refine ⟨_, pss_one (ps_xst (pv 0) pe_str), ?_⟩
    exact ⟨_, rfl, a, _, rfl, T, n0, .inl ⟨ha, fun e H1 ne he h1 h2 h3 => q e _ ne he h1 h2 h3⟩⟩
  · obtain ⟨oc, od, kV, doc, pm, an, cdv, ct, osl, rfl, lk, hcd⟩ := F.ex
    intro n hn
    refine ⟨fun s us ws X l1 l2 => ?_, rel_ga⟩
    obtain rfl : n = 0 := Nat.le_zero.mp hn
    match us, ws, l1, l2 with
    | [_], [], _, _ => exact .of_eq rfl
  · obtain ⟨oc, od, kV, doc, pm, an, cdv, ct, osl, rfl, lk, hcd⟩ := F.ex
    refine ⟨fun s us ws X l1 l2 => ?_, rel_sa⟩
    match us, ws, l1, l2 with
    | [_], [], _, _ => exact .of_eq rfl
theorem init_all : ∀ d ∈ cdT, InitP P w K mg base d := by
  intro d hd
  simp only [cdT, List.mem_cons, List.not_mem_nil, or_false] at hd
  rcases hd with rfl | rfl | rfl | rfl | rfl | rfl | rfl | rfl | rfl | rfl | rfl | rfl | rfl | rfl | rfl | rfl | rfl | rfl | rfl | rfl | rfl | rfl | rfl | rfl | rfl | rfl | rfl | rfl | rfl | rfl | rfl | rfl | rfl | rfl | rfl | rfl | rfl | rfl | rfl | rfl | rfl | rfl | rfl | rfl | rfl | rfl | rfl | rfl | rfl
  · exact init_InvalidNumber
  · exact init_InvalidFraction
  · exact init_InvalidOrder
  · exact init_OrderTooLow
  · exact init_UnlikeOrders
  · exact init_InvalidPlace
  · exact init_InvalidPower
  · exact init_InvalidTimes
  · exact init_InvalidText
  · exact init_InvalidTable
  · exact init_CantTurn
  · exact init_NotSlow
  · exact init_IsStill
  · exact init_NotOne
  · exact init_NotUnit
  · exact init_NotATable
  · exact init_NotAFlow
  · exact init_InvalidFlat
  · exact init_NotAClock
  · exact init_UnlikeFlats
  · exact init_NotAlike
  · exact init_InvalidLead
  · exact init_InvalidTime
  · exact init_InvalidTop
  · exact init_NotInFamily
  · exact init_NoFlips
  · exact init_NotFolded
  · exact init_InvalidFar
  · exact init_NotFar
  · exact init_NotLed
  · exact init_NotInCrew
  · exact init_InCrew
  · exact init_InvalidName
  · exact init_InvalidNames
  · exact init_InvalidWord
  · exact init_SameName
  · exact init_NotOpen
  · exact init_InvalidStep
  · exact init_InvalidPaper
  · exact init_InvalidDeed
  · exact init_InvalidLine
  · exact init_TooMany
  · exact init_Solved
  · exact init_DividedByZero
  · exact init_Tied
  · exact init_NotSquare
  · exact init_UnknownName
  · exact init_UnknownStep
  · exact init_NothingLeft
theorem mk_all (c : SaysP K) {h : Heap} (X : K.In h) (G : h.Ns mainGlobals mg) {d : CD} (hd : d ∈ cdT) : Mk0 P w K mg base d := by
  obtain ⟨⟨fd, F⟩, fI⟩ := fun_init c hd
  have z := init_all (P := P) (w := w) (mg := mg) (base := base) d hd _ fd F (xc_of c hd) (find_none c hd (by decide +kernel)) (fun x hx => find_none c hd (cd_ps d hd x hx))
  exact ⟨xc_of c hd, mg_cd X G c hd, find_init c hd, fI, fd, z⟩
end
end Kz
end
section
set_option maxHeartbeats 4000000
namespace Kz
open PySem PySem.Spec PyProof.Rows L2
def strV (l : List Str) : List V := l.map V.str
def dueT (d : CD) : List Str := d.nm :: match d.bs with
  | 0 => ["CreepError", "ValueError"]
  | 1 => ["NoAnswer", "ArithmeticError"]
  | 2 => ["Missing", "LookupError"]
  | _ => ["LookupError", "IndexError"]
def spWords : Sp := fun vs H Q _ => ∃ d : CD, d ∈ cdT ∧ vs = [.str d.nm] ∧ ∀ t H', Same H H' → H' t = some (.tup (strV d.ps)) → Q (.ref t) H'
def spDue : Sp := fun vs H Q _ => ∃ d : CD, d ∈ cdT ∧ vs = [.str d.nm] ∧ ∀ t H', Same H H' → H' t = some (.lst (strV (dueT d))) → Q (.ref t) H'
section
variable {P : Program} {w : World} {K : PySem.W.Frag} {mg : Str → Option Value} {base : Heap} {f : Addr} {fd : FuncData}
def wS0 : List Str := ["OrderTooLow"]
def wR0 : List Str := ["have", "wanted"]
theorem wT0 : ∀ d ∈ cdT, inV (.str d.nm) (strV wS0) = true → d.ps = wR0 := by decide +kernel
def wS1 : List Str := ["UnlikeOrders", "UnlikeFlats"]
def wR1 : List Str := ["one", "other"]
theorem wT1 : ∀ d ∈ cdT, inV (.str d.nm) (strV wS1) = true → d.ps = wR1 := by decide +kernel
def wS2 : List Str := ["NotUnit", "NotATable"]
def wR2 : List Str := ["line", "place"]
theorem wT2 : ∀ d ∈ cdT, inV (.str d.nm) (strV wS2) = true → d.ps = wR2 := by decide +kernel
def wS3 : List Str := ["NotSquare"]
def wR3 : List Str := ["equations", "unknowns"]
theorem wT3 : ∀ d ∈ cdT, inV (.str d.nm) (strV wS3) = true → d.ps = wR3 := by decide +kernel
def wS4 : List Str := ["InvalidNumber", "InvalidOrder", "InvalidPlace", "InvalidPower", "InvalidTimes", "InvalidFlat", "InvalidLead", "InvalidTime", "NotFolded", "InvalidName"]
def wR4 : List Str := ["value"]
theorem wT4 : ∀ d ∈ cdT, inV (.str d.nm) (strV wS4) = true → d.ps = wR4 := by decide +kernel
def wS5 : List Str := ["InvalidFraction", "InvalidText", "InvalidTable", "InvalidTop", "InvalidFar", "InvalidNames", "InvalidWord", "InvalidPaper", "InvalidDeed", "UnknownStep"]
def wR5 : List Str := ["at"]
theorem wT5 : ∀ d ∈ cdT, inV (.str d.nm) (strV wS5) = true → d.ps = wR5 := by decide +kernel
def wS6 : List Str := ["NotSlow", "NotOne", "NotLed"]
def wR6 : List Str := ["first"]
theorem wT6 : ∀ d ∈ cdT, inV (.str d.nm) (strV wS6) = true → d.ps = wR6 := by decide +kernel
def wS7 : List Str := ["IsStill"]
def wR7 : List Str := ["have"]
theorem wT7 : ∀ d ∈ cdT, inV (.str d.nm) (strV wS7) = true → d.ps = wR7 := by decide +kernel
def wS8 : List Str := ["NotAFlow", "NotInFamily", "NotFar"]
def wR8 : List Str := ["place"]
theorem wT8 : ∀ d ∈ cdT, inV (.str d.nm) (strV wS8) = true → d.ps = wR8 := by decide +kernel
def wS9 : List Str := ["NotAlike", "NotInCrew"]
def wR9 : List Str := ["paper"]
theorem wT9 : ∀ d ∈ cdT, inV (.str d.nm) (strV wS9) = true → d.ps = wR9 := by decide +kernel
def wS10 : List Str := ["SameName", "UnknownName"]
def wR10 : List Str := ["name"]
theorem wT10 : ∀ d ∈ cdT, inV (.str d.nm) (strV wS10) = true → d.ps = wR10 := by decide +kernel
def wS11 : List Str := ["InvalidLine"]
def wR11 : List Str := ["line"]
theorem wT11 : ∀ d ∈ cdT, inV (.str d.nm) (strV wS11) = true → d.ps = wR11 := by decide +kernel
def wS12 : List Str := ["TooMany"]
def wR12 : List Str := ["most"]
theorem wT12 : ∀ d ∈ cdT, inV (.str d.nm) (strV wS12) = true → d.ps = wR12 := by decide +kernel
def wS13 : List Str := ["Tied"]
def wR13 : List Str := ["ties"]
theorem wT13 : ∀ d ∈ cdT, inV (.str d.nm) (strV wS13) = true → d.ps = wR13 := by decide +kernel
theorem wN : ∀ d ∈ cdT, inV (.str d.nm) (strV wS0) || inV (.str d.nm) (strV wS1) || inV (.str d.nm) (strV wS2) || inV (.str d.nm) (strV wS3) || inV (.str d.nm) (strV wS4) || inV (.str d.nm) (strV wS5) || inV (.str d.nm) (strV wS6) || inV (.str d.nm) (strV wS7) || inV (.str d.nm) (strV wS8) || inV (.str d.nm) (strV wS9) || inV (.str d.nm) (strV wS10) || inV (.str d.nm) (strV wS11) || inV (.str d.nm) (strV wS12) || inV (.str d.nm) (strV wS13) || decide (d.ps = []) := by decide +kernel
theorem scWords : FnScope ["_law_pick"] ["_law_pick"] (defScope (top 65)) := ⟨rfl, rfl, rfl, by decide +kernel, rfl, by decide +kernel, by decide +kernel⟩
theorem ok_words (F : Fun K "_law_words" "_law_words" (top 65) f fd) : FnOk P w K mg base CX0 1 f fd ["_law_pick"] spWords := by
  refine F.ok scWords (fun vs H Q E h => ?_) (fun cdv A outer s H vs Q E hr h => ?_)
  · obtain ⟨d, _, rfl, _⟩ := h
    rfl
  obtain ⟨d, hd, rfl, q⟩ := h
  refine ⟨_, (pss_cons (ps_if (pt_cmpR op_in_seq (pv 0) (pe_tup (pa_cons pe_str pa_nil)) (by rfl)) (pss_one (ps_ret (pe_tup (pa_cons pe_str (pa_cons pe_str pa_nil))))) pss_nil)
    (pss_cons (ps_if (pt_cmpR op_in_seq (pv 0) (pe_tup (pa_cons pe_str (pa_cons pe_str pa_nil))) (by rfl)) (pss_one (ps_ret (pe_tup (pa_cons pe_str (pa_cons pe_str pa_nil))))) pss_nil)
    (pss_cons (ps_if (pt_cmpR op_in_seq (pv 0) (pe_tup (pa_cons pe_str (pa_cons pe_str pa_nil))) (by rfl)) (pss_one (ps_ret (pe_tup (pa_cons pe_str (pa_cons pe_str pa_nil))))) pss_nil)
    (pss_cons (ps_if (pt_cmpR op_in_seq (pv 0) (pe_tup (pa_cons pe_str pa_nil)) (by rfl)) (pss_one (ps_ret (pe_tup (pa_cons pe_str (pa_cons pe_str pa_nil))))) pss_nil)
    (pss_cons (ps_if (pt_cmpR op_in_seq (pv 0) (pe_tup (pa_cons pe_str (pa_cons pe_str (pa_cons pe_str (pa_cons pe_str (pa_cons pe_str (pa_cons pe_str (pa_cons pe_str (pa_cons pe_str (pa_cons pe_str (pa_cons pe_str pa_nil))))))))))) (by rfl)) (pss_one (ps_ret (pe_tup (pa_cons pe_str pa_nil)))) pss_nil)
    (pss_cons (ps_if (pt_cmpR op_in_seq (pv 0) (pe_tup (pa_cons pe_str (pa_cons pe_str (pa_cons pe_str (pa_cons pe_str (pa_cons pe_str (pa_cons pe_str (pa_cons pe_str (pa_cons pe_str (pa_cons pe_str (pa_cons pe_str pa_nil))))))))))) (by rfl)) (pss_one (ps_ret (pe_tup (pa_cons pe_str pa_nil)))) pss_nil)
    (pss_cons (ps_if (pt_cmpR op_in_seq (pv 0) (pe_tup (pa_cons pe_str (pa_cons pe_str (pa_cons pe_str pa_nil)))) (by rfl)) (pss_one (ps_ret (pe_tup (pa_cons pe_str pa_nil)))) pss_nil)
    (pss_cons (ps_if (pt_cmpR op_in_seq (pv 0) (pe_tup (pa_cons pe_str pa_nil)) (by rfl)) (pss_one (ps_ret (pe_tup (pa_cons pe_str pa_nil)))) pss_nil)
    (pss_cons (ps_if (pt_cmpR op_in_seq (pv 0) (pe_tup (pa_cons pe_str (pa_cons pe_str (pa_cons pe_str pa_nil)))) (by rfl)) (pss_one (ps_ret (pe_tup (pa_cons pe_str pa_nil)))) pss_nil)
    (pss_cons (ps_if (pt_cmpR op_in_seq (pv 0) (pe_tup (pa_cons pe_str (pa_cons pe_str pa_nil))) (by rfl)) (pss_one (ps_ret (pe_tup (pa_cons pe_str pa_nil)))) pss_nil)
    (pss_cons (ps_if (pt_cmpR op_in_seq (pv 0) (pe_tup (pa_cons pe_str (pa_cons pe_str pa_nil))) (by rfl)) (pss_one (ps_ret (pe_tup (pa_cons pe_str pa_nil)))) pss_nil)
    (pss_cons (ps_if (pt_cmpR op_in_seq (pv 0) (pe_tup (pa_cons pe_str pa_nil)) (by rfl)) (pss_one (ps_ret (pe_tup (pa_cons pe_str pa_nil)))) pss_nil)
    (pss_cons (ps_if (pt_cmpR op_in_seq (pv 0) (pe_tup (pa_cons pe_str pa_nil)) (by rfl)) (pss_one (ps_ret (pe_tup (pa_cons pe_str pa_nil)))) pss_nil)
    (pss_cons (ps_if (pt_cmpR op_in_seq (pv 0) (pe_tup (pa_cons pe_str pa_nil)) (by rfl)) (pss_one (ps_ret (pe_tup (pa_cons pe_str pa_nil)))) pss_nil)
    (pss_one (ps_ret (pe_tup pa_nil))))))))))))))))), ?_⟩
  have g : Same H H := Same.refl H
  refine ⟨_, rfl, (by show 1 ≤ sizeLine; decide), fun p np => ?_⟩
  replace g := g.trans (new_same np (.tup (strV wS0)))
  refine ⟨p, strV wS0, rfl, .inr (SqT.of upd_same), rfl, rfl, _, rfl, ite2 (fun c => ⟨(by show 2 ≤ sizeLine; decide), fun t nt => q t _ (g.trans (new_same nt _)) (by rw [upd_same, wT0 d hd c]; rfl)⟩) (fun c0 => ?_)⟩
  refine ⟨_, rfl, (by show 2 ≤ sizeLine; decide), fun p np => ?_⟩
  replace g := g.trans (new_same np (.tup (strV wS1)))
  refine ⟨p, strV wS1, rfl, .inr (SqT.of upd_same), rfl, rfl, _, rfl, ite2 (fun c => ⟨(by show 2 ≤ sizeLine; decide), fun t nt => q t _ (g.trans (new_same nt _)) (by rw [upd_same, wT1 d hd c]; rfl)⟩) (fun c1 => ?_)⟩
  refine ⟨_, rfl, (by show 2 ≤ sizeLine; decide), fun p np => ?_⟩
  replace g := g.trans (new_same np (.tup (strV wS2)))
  refine ⟨p, strV wS2, rfl, .inr (SqT.of upd_same), rfl, rfl, _, rfl, ite2 (fun c => ⟨(by show 2 ≤ sizeLine; decide), fun t nt => q t _ (g.trans (new_same nt _)) (by rw [upd_same, wT2 d hd c]; rfl)⟩) (fun c2 => ?_)⟩
  refine ⟨_, rfl, (by show 1 ≤ sizeLine; decide), fun p np => ?_⟩
  replace g := g.trans (new_same np (.tup (strV wS3)))
  refine ⟨p, strV wS3, rfl, .inr (SqT.of upd_same), rfl, rfl, _, rfl, ite2 (fun c => ⟨(by show 2 ≤ sizeLine; decide), fun t nt => q t _ (g.trans (new_same nt _)) (by rw [upd_same, wT3 d hd c]; rfl)⟩) (fun c3 => ?_)⟩
  refine ⟨_, rfl, (by show 10 ≤ sizeLine; decide), fun p np => ?_⟩
  replace g := g.trans (new_same np (.tup (strV wS4)))
  refine ⟨p, strV wS4, rfl, .inr (SqT.of upd_same), rfl, rfl, _, rfl, ite2 (fun c => ⟨(by show 1 ≤ sizeLine; decide), fun t nt => q t _ (g.trans (new_same nt _)) (by rw [upd_same, wT4 d hd c]; rfl)⟩) (fun c4 => ?_)⟩
  refine ⟨_, rfl, (by show 10 ≤ sizeLine; decide), fun p np => ?_⟩
  replace g := g.trans (new_same np (.tup (strV wS5)))
  refine ⟨p, strV wS5, rfl, .inr (SqT.of upd_same), rfl, rfl, _, rfl, ite2 (fun c => ⟨(by show 1 ≤ sizeLine; decide), fun t nt => q t _ (g.trans (new_same nt _)) (by rw [upd_same, wT5 d hd c]; rfl)⟩) (fun c5 => ?_)⟩
  refine ⟨_, rfl, (by show 3 ≤ sizeLine; decide), fun p np => ?_⟩
  replace g := g.trans (new_same np (.tup (strV wS6)))
  refine ⟨p, strV wS6, rfl, .inr (SqT.of upd_same), rfl, rfl, _, rfl, ite2 (fun c => ⟨(by show 1 ≤ sizeLine; decide), fun t nt => q t _ (g.trans (new_same nt _)) (by rw [upd_same, wT6 d hd c]; rfl)⟩) (fun c6 => ?_)⟩
  refine ⟨_, rfl, (by show 1 ≤ sizeLine; decide), fun p np => ?_⟩
  replace g := g.trans (new_same np (.tup (strV wS7)))
  refine ⟨p, strV wS7, rfl, .inr (SqT.of upd_same), rfl, rfl, _, rfl, ite2 (fun c => ⟨(by show 1 ≤ sizeLine; decide), fun t nt => q t _ (g.trans (new_same nt _)) (by rw [upd_same, wT7 d hd c]; rfl)⟩) (fun c7 => ?_)⟩
  refine ⟨_, rfl, (by show 3 ≤ sizeLine; decide), fun p np => ?_⟩
  replace g := g.trans (new_same np (.tup (strV wS8)))
  refine ⟨p, strV wS8, rfl, .inr (SqT.of upd_same), rfl, rfl, _, rfl, ite2 (fun c => ⟨(by show 1 ≤ sizeLine; decide), fun t nt => q t _ (g.trans (new_same nt _)) (by rw [upd_same, wT8 d hd c]; rfl)⟩) (fun c8 => ?_)⟩
  refine ⟨_, rfl, (by show 2 ≤ sizeLine; decide), fun p np => ?_⟩
  replace g := g.trans (new_same np (.tup (strV wS9)))
  refine ⟨p, strV wS9, rfl, .inr (SqT.of upd_same), rfl, rfl, _, rfl, ite2 (fun c => ⟨(by show 1 ≤ sizeLine; decide), fun t nt => q t _ (g.trans (new_same nt _)) (by rw [upd_same, wT9 d hd c]; rfl)⟩) (fun c9 => ?_)⟩
  refine ⟨_, rfl, (by show 2 ≤ sizeLine; decide), fun p np => ?_⟩
  replace g := g.trans (new_same np (.tup (strV wS10)))
  refine ⟨p, strV wS10, rfl, .inr (SqT.of upd_same), rfl, rfl, _, rfl, ite2 (fun c => ⟨(by show 1 ≤ sizeLine; decide), fun t nt => q t _ (g.trans (new_same nt _)) (by rw [upd_same, wT10 d hd c]; rfl)⟩) (fun c10 => ?_)⟩
  refine ⟨_, rfl, (by show 1 ≤ sizeLine; decide), fun p np => ?_⟩
  replace g := g.trans (new_same np (.tup (strV wS11)))
  refine ⟨p, strV wS11, rfl, .inr (SqT.of upd_same), rfl, rfl, _, rfl, ite2 (fun c => ⟨(by show 1 ≤ sizeLine; decide), fun t nt => q t _ (g.trans (new_same nt _)) (by rw [upd_same, wT11 d hd c]; rfl)⟩) (fun c11 => ?_)⟩
  refine ⟨_, rfl, (by show 1 ≤ sizeLine; decide), fun p np => ?_⟩
  replace g := g.trans (new_same np (.tup (strV wS12)))
  refine ⟨p, strV wS12, rfl, .inr (SqT.of upd_same), rfl, rfl, _, rfl, ite2 (fun c => ⟨(by show 1 ≤ sizeLine; decide), fun t nt => q t _ (g.trans (new_same nt _)) (by rw [upd_same, wT12 d hd c]; rfl)⟩) (fun c12 => ?_)⟩
  refine ⟨_, rfl, (by show 1 ≤ sizeLine; decide), fun p np => ?_⟩
  replace g := g.trans (new_same np (.tup (strV wS13)))
  refine ⟨p, strV wS13, rfl, .inr (SqT.of upd_same), rfl, rfl, _, rfl, ite2 (fun c => ⟨(by show 1 ≤ sizeLine; decide), fun t nt => q t _ (g.trans (new_same nt _)) (by rw [upd_same, wT13 d hd c]; rfl)⟩) (fun c13 => ?_)⟩
  have z := wN d hd
  rw [show inV (.str d.nm) (strV wS0) = false from Bool.eq_false_iff.mpr c0, show inV (.str d.nm) (strV wS1) = false from Bool.eq_false_iff.mpr c1, show inV (.str d.nm) (strV wS2) = false from Bool.eq_false_iff.mpr c2, show inV (.str d.nm) (strV wS3) = false from Bool.eq_false_iff.mpr c3, show inV (.str d.nm) (strV wS4) = false from Bool.eq_false_iff.mpr c4, show inV (.str d.nm) (strV wS5) = false from Bool.eq_false_iff.mpr c5, show inV (.str d.nm) (strV wS6) = false from Bool.eq_false_iff.mpr c6, show inV (.str d.nm) (strV wS7) = false from Bool.eq_false_iff.mpr c7, show inV (.str d.nm) (strV wS8) = false from Bool.eq_false_iff.mpr c8, show inV (.str d.nm) (strV wS9) = false from Bool.eq_false_iff.mpr c9, show inV (.str d.nm) (strV wS10) = false from Bool.eq_false_iff.mpr c10, show inV (.str d.nm) (strV wS11) = false from Bool.eq_false_iff.mpr c11, show inV (.str d.nm) (strV wS12) = false from Bool.eq_false_iff.mpr c12, show inV (.str d.nm) (strV wS13) = false from Bool.eq_false_iff.mpr c13] at z
  simp only [Bool.false_or, decide_eq_true_eq] at z
  exact ⟨(by show 0 ≤ sizeLine; decide), fun t nt => q t _ (g.trans (new_same nt _)) (by rw [upd_same, z]; rfl)⟩
def uS0 : List Str := ["UnknownName", "UnknownStep"]
theorem uT0 : ∀ d ∈ cdT, inV (.str d.nm) (strV uS0) = true → dueT d = d.nm :: ["Missing", "LookupError"] := by decide +kernel
def uS1 : List Str := ["DividedByZero", "Tied", "NotSquare"]
theorem uT1 : ∀ d ∈ cdT, inV (.str d.nm) (strV uS1) = true → dueT d = d.nm :: ["NoAnswer", "ArithmeticError"] := by decide +kernel
theorem uT : ∀ d ∈ cdT, d.nm = "NothingLeft" → dueT d = d.nm :: ["LookupError", "IndexError"] := by decide +kernel
theorem uN : ∀ d ∈ cdT, decide (d.nm = "NothingLeft") || inV (.str d.nm) (strV uS0) || inV (.str d.nm) (strV uS1) || decide (dueT d = d.nm :: ["CreepError", "ValueError"]) := by decide +kernel
theorem scDue : FnScope ["_law_pick"] ["_law_pick"] (defScope (top 66)) := ⟨rfl, rfl, rfl, by decide +kernel, rfl, by decide +kernel, by decide +kernel⟩
theorem ok_due (F : Fun K "_law_due" "_law_due" (top 66) f fd) : FnOk P w K mg base CX0 1 f fd ["_law_pick"] spDue := by
  refine F.ok scDue (fun vs H Q E h => ?_) (fun cdv A outer s H vs Q E hr h => ?_)
  · obtain ⟨d, _, rfl, _⟩ := h
    rfl
  obtain ⟨d, hd, rfl, q⟩ := h
  refine ⟨_, (pss_cons (ps_if (pt_cmpR op_eq (pv 0) pe_str (nomark _)) (pss_one (ps_ret (pe_lst (pa_cons (pv 0) (pa_cons pe_str (pa_cons pe_str pa_nil)))))) pss_nil)
    (pss_cons (ps_if (pt_cmpR op_in_seq (pv 0) (pe_tup (pa_cons pe_str (pa_cons pe_str pa_nil))) (by rfl)) (pss_one (ps_ret (pe_lst (pa_cons (pv 0) (pa_cons pe_str (pa_cons pe_str pa_nil)))))) pss_nil)
    (pss_cons (ps_if (pt_cmpR op_in_seq (pv 0) (pe_tup (pa_cons pe_str (pa_cons pe_str (pa_cons pe_str pa_nil)))) (by rfl)) (pss_one (ps_ret (pe_lst (pa_cons (pv 0) (pa_cons pe_str (pa_cons pe_str pa_nil)))))) pss_nil)
    (pss_one (ps_ret (pe_lst (pa_cons (pv 0) (pa_cons pe_str (pa_cons pe_str pa_nil))))))))), ?_⟩
  have g : Same H H := Same.refl H
  refine ⟨_, rfl, rfl, _, rfl, ite2 (fun c => ⟨_, rfl, (by show 3 ≤ sizeLine; decide), fun t nt => q t _ (g.trans (new_same nt _)) (by rw [upd_same, uT d hd (V.str.inj (of_decide_eq_true c))]; rfl)⟩) (fun cN => ?_)⟩
  refine ⟨_, rfl, (by show 2 ≤ sizeLine; decide), fun p np => ?_⟩
  replace g := g.trans (new_same np (.tup (strV uS0)))
  refine ⟨p, strV uS0, rfl, .inr (SqT.of upd_same), rfl, rfl, _, rfl, ite2 (fun c => ⟨_, rfl, (by show 3 ≤ sizeLine; decide), fun t nt => q t _ (g.trans (new_same nt _)) (by rw [upd_same, uT0 d hd c]; rfl)⟩) (fun c0 => ?_)⟩
  refine ⟨_, rfl, (by show 3 ≤ sizeLine; decide), fun p np => ?_⟩
  replace g := g.trans (new_same np (.tup (strV uS1)))
  refine ⟨p, strV uS1, rfl, .inr (SqT.of upd_same), rfl, rfl, _, rfl, ite2 (fun c => ⟨_, rfl, (by show 3 ≤ sizeLine; decide), fun t nt => q t _ (g.trans (new_same nt _)) (by rw [upd_same, uT1 d hd c]; rfl)⟩) (fun c1 => ?_)⟩
  have z := uN d hd
  have n0 : decide (d.nm = "NothingLeft") = false := decide_eq_false fun e => cN (decide_eq_true (congrArg V.str e))
  rw [n0, show inV (.str d.nm) (strV uS0) = false from Bool.eq_false_iff.mpr c0, show inV (.str d.nm) (strV uS1) = false from Bool.eq_false_iff.mpr c1] at z
  simp only [Bool.false_or, decide_eq_true_eq] at z
  exact ⟨_, rfl, (by show 3 ≤ sizeLine; decide), fun t nt => q t _ (g.trans (new_same nt _)) (by rw [upd_same, z]; rfl)⟩
end
end Kz
end
section
set_option maxHeartbeats 4000000
namespace Kz
open PySem PySem.Spec PyProof.Rows L2
def eqCD (a b : CD) : Bool := decide (a.nm = b.nm) && (decide (a.bs = b.bs) && (decide (a.ps = b.ps) && (decide (a.ix = b.ix) && decide (a.C = b.C))))
theorem eqCD_ok {a b : CD} (h : eqCD a b = true) : a = b := by
  unfold eqCD at h
  simp only [Bool.and_eq_true, decide_eq_true_eq] at h
  obtain ⟨h1, h2, h3, h4, h5⟩ := h
  cases a
  cases b
  simp only at h1 h2 h3 h4 h5
  subst h1 h2 h3 h4 h5
  rfl
def firsts : List Str := ["InvalidNumber", "InvalidFraction", "InvalidOrder", "InvalidPlace", "InvalidPower", "InvalidTimes", "InvalidText", "InvalidTable", "NotSlow", "NotOne", "IsStill", "NotAFlow", "InvalidFlat", "NotAlike", "InvalidLead", "InvalidTime", "InvalidTop", "NotInFamily"]
def seconds : List Str := ["NotFolded", "InvalidFar", "NotFar", "NotLed", "NotInCrew", "InvalidName", "InvalidNames", "InvalidWord", "SameName", "InvalidPaper", "InvalidDeed", "InvalidLine", "TooMany", "Tied", "UnknownName", "UnknownStep"]
theorem one_in : ∀ d ∈ cdT, d.ps.length = 1 → d.nm ∈ firsts ∨ d.nm ∈ seconds := by decide +kernel
theorem one_ps : ∀ d ∈ cdT, d.nm ∈ firsts → d.ps.length = 1 := by decide +kernel
def spFirst (l : List Str) : Sp := fun vs H Q _ => ∃ (d : CD) (v : V) (wy : Int), d ∈ cdT ∧ vs = [.str d.nm, v, .int wy] ∧ (d.nm ∈ l → ∀ x H', Made H H' x d [v] → Q (.ref x) H') ∧ (d.nm ∉ l → Q .non H)
def spBoth : Sp := fun vs H Q _ => ∃ (d : CD) (v u : V) (wy : Int), d ∈ cdT ∧ d.ps.length = 2 ∧ vs = [.str d.nm, v, u, .int wy] ∧ ∀ x H', Made H H' x d [v, u] → Q (.ref x) H'
def spBare : Sp := fun vs H Q _ => ∃ (d : CD), d ∈ cdT ∧ d.ps = [] ∧ vs = [.str d.nm] ∧ ∀ x H', Made H H' x d [] → Q (.ref x) H'
theorem both_in : ∀ d ∈ cdT, d.ps.length = 2 → d.nm ∈ (["OrderTooLow", "UnlikeOrders", "NotUnit", "NotATable", "UnlikeFlats", "NotSquare"] : List Str) := by decide +kernel
theorem bare_in : ∀ d ∈ cdT, d.ps = [] → d.nm ∈ (["CantTurn", "DividedByZero", "NotAClock", "NoFlips", "InCrew", "NotOpen", "InvalidStep", "Solved", "NothingLeft"] : List Str) := by decide +kernel
section
variable {P : Program} {w : World} {K : PySem.W.Frag} {mg : Str → Option Value} {base : Heap} {f : Addr} {fd : FuncData}
theorem at_InvalidNumber : ∀ d ∈ cdT, d.nm = "InvalidNumber" → d = c_InvalidNumber := fun d hd e => eqCD_ok ((show ∀ d ∈ cdT, d.nm = "InvalidNumber" → eqCD d c_InvalidNumber = true by decide +kernel) d hd e)
theorem in_InvalidNumber : c_InvalidNumber ∈ cdT := by simp only [cdT, List.mem_cons, true_or, or_true]
theorem at_InvalidFraction : ∀ d ∈ cdT, d.nm = "InvalidFraction" → d = c_InvalidFraction := fun d hd e => eqCD_ok ((show ∀ d ∈ cdT, d.nm = "InvalidFraction" → eqCD d c_InvalidFraction = true by decide +kernel) d hd e)
theorem in_InvalidFraction : c_InvalidFraction ∈ cdT := by simp only [cdT, List.mem_cons, true_or, or_true]
theorem at_InvalidOrder : ∀ d ∈ cdT, d.nm = "InvalidOrder" → d = c_InvalidOrder := fun d hd e => eqCD_ok ((show ∀ d ∈ cdT, d.nm = "InvalidOrder" → eqCD d c_InvalidOrder = true by decide +kernel) d hd e)
theorem in_InvalidOrder : c_InvalidOrder ∈ cdT := by simp only [cdT, List.mem_cons, true_or, or_true]
theorem at_OrderTooLow : ∀ d ∈ cdT, d.nm = "OrderTooLow" → d = c_OrderTooLow := fun d hd e => eqCD_ok ((show ∀ d ∈ cdT, d.nm = "OrderTooLow" → eqCD d c_OrderTooLow = true by decide +kernel) d hd e)
theorem in_OrderTooLow : c_OrderTooLow ∈ cdT := by simp only [cdT, List.mem_cons, true_or, or_true]
theorem at_UnlikeOrders : ∀ d ∈ cdT, d.nm = "UnlikeOrders" → d = c_UnlikeOrders := fun d hd e => eqCD_ok ((show ∀ d ∈ cdT, d.nm = "UnlikeOrders" → eqCD d c_UnlikeOrders = true by decide +kernel) d hd e)
theorem in_UnlikeOrders : c_UnlikeOrders ∈ cdT := by simp only [cdT, List.mem_cons, true_or, or_true]
theorem at_InvalidPlace : ∀ d ∈ cdT, d.nm = "InvalidPlace" → d = c_InvalidPlace := fun d hd e => eqCD_ok ((show ∀ d ∈ cdT, d.nm = "InvalidPlace" → eqCD d c_InvalidPlace = true by decide +kernel) d hd e)
theorem in_InvalidPlace : c_InvalidPlace ∈ cdT := by simp only [cdT, List.mem_cons, true_or, or_true]
theorem at_InvalidPower : ∀ d ∈ cdT, d.nm = "InvalidPower" → d = c_InvalidPower := fun d hd e => eqCD_ok ((show ∀ d ∈ cdT, d.nm = "InvalidPower" → eqCD d c_InvalidPower = true by decide +kernel) d hd e)
theorem in_InvalidPower : c_InvalidPower ∈ cdT := by simp only [cdT, List.mem_cons, true_or, or_true]
theorem at_InvalidTimes : ∀ d ∈ cdT, d.nm = "InvalidTimes" → d = c_InvalidTimes := fun d hd e => eqCD_ok ((show ∀ d ∈ cdT, d.nm = "InvalidTimes" → eqCD d c_InvalidTimes = true by decide +kernel) d hd e)
theorem in_InvalidTimes : c_InvalidTimes ∈ cdT := by simp only [cdT, List.mem_cons, true_or, or_true]
theorem at_InvalidText : ∀ d ∈ cdT, d.nm = "InvalidText" → d = c_InvalidText := fun d hd e => eqCD_ok ((show ∀ d ∈ cdT, d.nm = "InvalidText" → eqCD d c_InvalidText = true by decide +kernel) d hd e)
theorem in_InvalidText : c_InvalidText ∈ cdT := by simp only [cdT, List.mem_cons, true_or, or_true]
theorem at_InvalidTable : ∀ d ∈ cdT, d.nm = "InvalidTable" → d = c_InvalidTable := fun d hd e => eqCD_ok ((show ∀ d ∈ cdT, d.nm = "InvalidTable" → eqCD d c_InvalidTable = true by decide +kernel) d hd e)
theorem in_InvalidTable : c_InvalidTable ∈ cdT := by simp only [cdT, List.mem_cons, true_or, or_true]
theorem at_CantTurn : ∀ d ∈ cdT, d.nm = "CantTurn" → d = c_CantTurn := fun d hd e => eqCD_ok ((show ∀ d ∈ cdT, d.nm = "CantTurn" → eqCD d c_CantTurn = true by decide +kernel) d hd e)
theorem in_CantTurn : c_CantTurn ∈ cdT := by simp only [cdT, List.mem_cons, true_or, or_true]
theorem at_NotSlow : ∀ d ∈ cdT, d.nm = "NotSlow" → d = c_NotSlow := fun d hd e => eqCD_ok ((show ∀ d ∈ cdT, d.nm = "NotSlow" → eqCD d c_NotSlow = true by decide +kernel) d hd e)
theorem in_NotSlow : c_NotSlow ∈ cdT := by simp only [cdT, List.mem_cons, true_or, or_true]
theorem at_IsStill : ∀ d ∈ cdT, d.nm = "IsStill" → d = c_IsStill := fun d hd e => eqCD_ok ((show ∀ d ∈ cdT, d.nm = "IsStill" → eqCD d c_IsStill = true by decide +kernel) d hd e)
theorem in_IsStill : c_IsStill ∈ cdT := by simp only [cdT, List.mem_cons, true_or, or_true]
theorem at_NotOne : ∀ d ∈ cdT, d.nm = "NotOne" → d = c_NotOne := fun d hd e => eqCD_ok ((show ∀ d ∈ cdT, d.nm = "NotOne" → eqCD d c_NotOne = true by decide +kernel) d hd e)
theorem in_NotOne : c_NotOne ∈ cdT := by simp only [cdT, List.mem_cons, true_or, or_true]
theorem at_NotUnit : ∀ d ∈ cdT, d.nm = "NotUnit" → d = c_NotUnit := fun d hd e => eqCD_ok ((show ∀ d ∈ cdT, d.nm = "NotUnit" → eqCD d c_NotUnit = true by decide +kernel) d hd e)
theorem in_NotUnit : c_NotUnit ∈ cdT := by simp only [cdT, List.mem_cons, true_or, or_true]
theorem at_NotATable : ∀ d ∈ cdT, d.nm = "NotATable" → d = c_NotATable := fun d hd e => eqCD_ok ((show ∀ d ∈ cdT, d.nm = "NotATable" → eqCD d c_NotATable = true by decide +kernel) d hd e)
theorem in_NotATable : c_NotATable ∈ cdT := by simp only [cdT, List.mem_cons, true_or, or_true]
theorem at_NotAFlow : ∀ d ∈ cdT, d.nm = "NotAFlow" → d = c_NotAFlow := fun d hd e => eqCD_ok ((show ∀ d ∈ cdT, d.nm = "NotAFlow" → eqCD d c_NotAFlow = true by decide +kernel) d hd e)
theorem in_NotAFlow : c_NotAFlow ∈ cdT := by simp only [cdT, List.mem_cons, true_or, or_true]
theorem at_InvalidFlat : ∀ d ∈ cdT, d.nm = "InvalidFlat" → d = c_InvalidFlat := fun d hd e => eqCD_ok ((show ∀ d ∈ cdT, d.nm = "InvalidFlat" → eqCD d c_InvalidFlat = true by decide +kernel) d hd e)
theorem in_InvalidFlat : c_InvalidFlat ∈ cdT := by simp only [cdT, List.mem_cons, true_or, or_true]
theorem at_NotAClock : ∀ d ∈ cdT, d.nm = "NotAClock" → d = c_NotAClock := fun d hd e => eqCD_ok ((show ∀ d ∈ cdT, d.nm = "NotAClock" → eqCD d c_NotAClock = true by decide +kernel) d hd e)
theorem in_NotAClock : c_NotAClock ∈ cdT := by simp only [cdT, List.mem_cons, true_or, or_true]
theorem at_UnlikeFlats : ∀ d ∈ cdT, d.nm = "UnlikeFlats" → d = c_UnlikeFlats := fun d hd e => eqCD_ok ((show ∀ d ∈ cdT, d.nm = "UnlikeFlats" → eqCD d c_UnlikeFlats = true by decide +kernel) d hd e)
theorem in_UnlikeFlats : c_UnlikeFlats ∈ cdT := by simp only [cdT, List.mem_cons, true_or, or_true]
theorem at_NotAlike : ∀ d ∈ cdT, d.nm = "NotAlike" → d = c_NotAlike := fun d hd e => eqCD_ok ((show ∀ d ∈ cdT, d.nm = "NotAlike" → eqCD d c_NotAlike = true by decide +kernel) d hd e)
theorem in_NotAlike : c_NotAlike ∈ cdT := by simp only [cdT, List.mem_cons, true_or, or_true]
theorem at_InvalidLead : ∀ d ∈ cdT, d.nm = "InvalidLead" → d = c_InvalidLead := fun d hd e => eqCD_ok ((show ∀ d ∈ cdT, d.nm = "InvalidLead" → eqCD d c_InvalidLead = true by decide +kernel) d hd e)
theorem in_InvalidLead : c_InvalidLead ∈ cdT := by simp only [cdT, List.mem_cons, true_or, or_true]
theorem at_InvalidTime : ∀ d ∈ cdT, d.nm = "InvalidTime" → d = c_InvalidTime := fun d hd e => eqCD_ok ((show ∀ d ∈ cdT, d.nm = "InvalidTime" → eqCD d c_InvalidTime = true by decide +kernel) d hd e)
theorem in_InvalidTime : c_InvalidTime ∈ cdT := by simp only [cdT, List.mem_cons, true_or, or_true]
theorem at_InvalidTop : ∀ d ∈ cdT, d.nm = "InvalidTop" → d = c_InvalidTop := fun d hd e => eqCD_ok ((show ∀ d ∈ cdT, d.nm = "InvalidTop" → eqCD d c_InvalidTop = true by decide +kernel) d hd e)
theorem in_InvalidTop : c_InvalidTop ∈ cdT := by simp only [cdT, List.mem_cons, true_or, or_true]
theorem at_NotInFamily : ∀ d ∈ cdT, d.nm = "NotInFamily" → d = c_NotInFamily := fun d hd e => eqCD_ok ((show ∀ d ∈ cdT, d.nm = "NotInFamily" → eqCD d c_NotInFamily = true by decide +kernel) d hd e)
theorem in_NotInFamily : c_NotInFamily ∈ cdT := by simp only [cdT, List.mem_cons, true_or, or_true]
theorem at_NoFlips : ∀ d ∈ cdT, d.nm = "NoFlips" → d = c_NoFlips := fun d hd e => eqCD_ok ((show ∀ d ∈ cdT, d.nm = "NoFlips" → eqCD d c_NoFlips = true by decide +kernel) d hd e)
theorem in_NoFlips : c_NoFlips ∈ cdT := by simp only [cdT, List.mem_cons, true_or, or_true]
theorem at_NotFolded : ∀ d ∈ cdT, d.nm = "NotFolded" → d = c_NotFolded := fun d hd e => eqCD_ok ((show ∀ d ∈ cdT, d.nm = "NotFolded" → eqCD d c_NotFolded = true by decide +kernel) d hd e)
theorem in_NotFolded : c_NotFolded ∈ cdT := by simp only [cdT, List.mem_cons, true_or, or_true]
theorem at_InvalidFar : ∀ d ∈ cdT, d.nm = "InvalidFar" → d = c_InvalidFar := fun d hd e => eqCD_ok ((show ∀ d ∈ cdT, d.nm = "InvalidFar" → eqCD d c_InvalidFar = true by decide +kernel) d hd e)
theorem in_InvalidFar : c_InvalidFar ∈ cdT := by simp only [cdT, List.mem_cons, true_or, or_true]
theorem at_NotFar : ∀ d ∈ cdT, d.nm = "NotFar" → d = c_NotFar := fun d hd e => eqCD_ok ((show ∀ d ∈ cdT, d.nm = "NotFar" → eqCD d c_NotFar = true by decide +kernel) d hd e)
theorem in_NotFar : c_NotFar ∈ cdT := by simp only [cdT, List.mem_cons, true_or, or_true]
theorem at_NotLed : ∀ d ∈ cdT, d.nm = "NotLed" → d = c_NotLed := fun d hd e => eqCD_ok ((show ∀ d ∈ cdT, d.nm = "NotLed" → eqCD d c_NotLed = true by decide +kernel) d hd e)
theorem in_NotLed : c_NotLed ∈ cdT := by simp only [cdT, List.mem_cons, true_or, or_true]
theorem at_NotInCrew : ∀ d ∈ cdT, d.nm = "NotInCrew" → d = c_NotInCrew := fun d hd e => eqCD_ok ((show ∀ d ∈ cdT, d.nm = "NotInCrew" → eqCD d c_NotInCrew = true by decide +kernel) d hd e)
theorem in_NotInCrew : c_NotInCrew ∈ cdT := by simp only [cdT, List.mem_cons, true_or, or_true]
theorem at_InCrew : ∀ d ∈ cdT, d.nm = "InCrew" → d = c_InCrew := fun d hd e => eqCD_ok ((show ∀ d ∈ cdT, d.nm = "InCrew" → eqCD d c_InCrew = true by decide +kernel) d hd e)
theorem in_InCrew : c_InCrew ∈ cdT := by simp only [cdT, List.mem_cons, true_or, or_true]
theorem at_InvalidName : ∀ d ∈ cdT, d.nm = "InvalidName" → d = c_InvalidName := fun d hd e => eqCD_ok ((show ∀ d ∈ cdT, d.nm = "InvalidName" → eqCD d c_InvalidName = true by decide +kernel) d hd e)
theorem in_InvalidName : c_InvalidName ∈ cdT := by simp only [cdT, List.mem_cons, true_or, or_true]
theorem at_InvalidNames : ∀ d ∈ cdT, d.nm = "InvalidNames" → d = c_InvalidNames := fun d hd e => eqCD_ok ((show ∀ d ∈ cdT, d.nm = "InvalidNames" → eqCD d c_InvalidNames = true by decide +kernel) d hd e)
theorem in_InvalidNames : c_InvalidNames ∈ cdT := by simp only [cdT, List.mem_cons, true_or, or_true]
theorem at_InvalidWord : ∀ d ∈ cdT, d.nm = "InvalidWord" → d = c_InvalidWord := fun d hd e => eqCD_ok ((show ∀ d ∈ cdT, d.nm = "InvalidWord" → eqCD d c_InvalidWord = true by decide +kernel) d hd e)
theorem in_InvalidWord : c_InvalidWord ∈ cdT := by simp only [cdT, List.mem_cons, true_or, or_true]
theorem at_SameName : ∀ d ∈ cdT, d.nm = "SameName" → d = c_SameName := fun d hd e => eqCD_ok ((show ∀ d ∈ cdT, d.nm = "SameName" → eqCD d c_SameName = true by decide +kernel) d hd e)
theorem in_SameName : c_SameName ∈ cdT := by simp only [cdT, List.mem_cons, true_or, or_true]
theorem at_NotOpen : ∀ d ∈ cdT, d.nm = "NotOpen" → d = c_NotOpen := fun d hd e => eqCD_ok ((show ∀ d ∈ cdT, d.nm = "NotOpen" → eqCD d c_NotOpen = true by decide +kernel) d hd e)
theorem in_NotOpen : c_NotOpen ∈ cdT := by simp only [cdT, List.mem_cons, true_or, or_true]
theorem at_InvalidStep : ∀ d ∈ cdT, d.nm = "InvalidStep" → d = c_InvalidStep := fun d hd e => eqCD_ok ((show ∀ d ∈ cdT, d.nm = "InvalidStep" → eqCD d c_InvalidStep = true by decide +kernel) d hd e)
theorem in_InvalidStep : c_InvalidStep ∈ cdT := by simp only [cdT, List.mem_cons, true_or, or_true]
theorem at_InvalidPaper : ∀ d ∈ cdT, d.nm = "InvalidPaper" → d = c_InvalidPaper := fun d hd e => eqCD_ok ((show ∀ d ∈ cdT, d.nm = "InvalidPaper" → eqCD d c_InvalidPaper = true by decide +kernel) d hd e)
theorem in_InvalidPaper : c_InvalidPaper ∈ cdT := by simp only [cdT, List.mem_cons, true_or, or_true]
theorem at_InvalidDeed : ∀ d ∈ cdT, d.nm = "InvalidDeed" → d = c_InvalidDeed := fun d hd e => eqCD_ok ((show ∀ d ∈ cdT, d.nm = "InvalidDeed" → eqCD d c_InvalidDeed = true by decide +kernel) d hd e)
theorem in_InvalidDeed : c_InvalidDeed ∈ cdT := by simp only [cdT, List.mem_cons, true_or, or_true]
theorem at_InvalidLine : ∀ d ∈ cdT, d.nm = "InvalidLine" → d = c_InvalidLine := fun d hd e => eqCD_ok ((show ∀ d ∈ cdT, d.nm = "InvalidLine" → eqCD d c_InvalidLine = true by decide +kernel) d hd e)
theorem in_InvalidLine : c_InvalidLine ∈ cdT := by simp only [cdT, List.mem_cons, true_or, or_true]
theorem at_TooMany : ∀ d ∈ cdT, d.nm = "TooMany" → d = c_TooMany := fun d hd e => eqCD_ok ((show ∀ d ∈ cdT, d.nm = "TooMany" → eqCD d c_TooMany = true by decide +kernel) d hd e)
theorem in_TooMany : c_TooMany ∈ cdT := by simp only [cdT, List.mem_cons, true_or, or_true]
theorem at_Solved : ∀ d ∈ cdT, d.nm = "Solved" → d = c_Solved := fun d hd e => eqCD_ok ((show ∀ d ∈ cdT, d.nm = "Solved" → eqCD d c_Solved = true by decide +kernel) d hd e)
theorem in_Solved : c_Solved ∈ cdT := by simp only [cdT, List.mem_cons, true_or, or_true]
theorem at_DividedByZero : ∀ d ∈ cdT, d.nm = "DividedByZero" → d = c_DividedByZero := fun d hd e => eqCD_ok ((show ∀ d ∈ cdT, d.nm = "DividedByZero" → eqCD d c_DividedByZero = true by decide +kernel) d hd e)
theorem in_DividedByZero : c_DividedByZero ∈ cdT := by simp only [cdT, List.mem_cons, true_or, or_true]
theorem at_Tied : ∀ d ∈ cdT, d.nm = "Tied" → d = c_Tied := fun d hd e => eqCD_ok ((show ∀ d ∈ cdT, d.nm = "Tied" → eqCD d c_Tied = true by decide +kernel) d hd e)
theorem in_Tied : c_Tied ∈ cdT := by simp only [cdT, List.mem_cons, true_or, or_true]
theorem at_NotSquare : ∀ d ∈ cdT, d.nm = "NotSquare" → d = c_NotSquare := fun d hd e => eqCD_ok ((show ∀ d ∈ cdT, d.nm = "NotSquare" → eqCD d c_NotSquare = true by decide +kernel) d hd e)
theorem in_NotSquare : c_NotSquare ∈ cdT := by simp only [cdT, List.mem_cons, true_or, or_true]
theorem at_UnknownName : ∀ d ∈ cdT, d.nm = "UnknownName" → d = c_UnknownName := fun d hd e => eqCD_ok ((show ∀ d ∈ cdT, d.nm = "UnknownName" → eqCD d c_UnknownName = true by decide +kernel) d hd e)
theorem in_UnknownName : c_UnknownName ∈ cdT := by simp only [cdT, List.mem_cons, true_or, or_true]
theorem at_UnknownStep : ∀ d ∈ cdT, d.nm = "UnknownStep" → d = c_UnknownStep := fun d hd e => eqCD_ok ((show ∀ d ∈ cdT, d.nm = "UnknownStep" → eqCD d c_UnknownStep = true by decide +kernel) d hd e)
theorem in_UnknownStep : c_UnknownStep ∈ cdT := by simp only [cdT, List.mem_cons, true_or, or_true]
theorem at_NothingLeft : ∀ d ∈ cdT, d.nm = "NothingLeft" → d = c_NothingLeft := fun d hd e => eqCD_ok ((show ∀ d ∈ cdT, d.nm = "NothingLeft" → eqCD d c_NothingLeft = true by decide +kernel) d hd e)
theorem in_NothingLeft : c_NothingLeft ∈ cdT := by simp only [cdT, List.mem_cons, true_or, or_true]
theorem scFirst : FnScope ["_law_pick", "_law_a", "_law_way"] ["_law_pick", "_law_a", "_law_way"] (defScope (top 58)) := ⟨rfl, rfl, rfl, by decide +kernel, rfl, by decide +kernel, by decide +kernel⟩
theorem ok_law_first (F : Fun K "_law_first" "_law_first" (top 58) f fd) (hM : ∀ d ∈ cdT, Mk0 P w K mg base d) : FnOk P w K mg base CX0 3 f fd ["_law_pick", "_law_a", "_law_way"] (spFirst firsts) := by
  refine F.ok scFirst (fun vs H Q E h => ?_) (fun cdv A outer s H vs Q E hr h => ?_)
  · obtain ⟨d, v, wy, _, rfl, _⟩ := h
    rfl
  obtain ⟨d, v, wy, hd, rfl, qa, qb⟩ := h
  refine ⟨_, (pss_cons (ps_if (pt_cmpR op_eq (pv 0) pe_str (nomark _)) (pss_one (ps_ret (pe_ifExp (pt_cmpR op_lt (pv 2) pe_int (nomark _)) (pe_new1 (d := c_InvalidNumber) (hM _ in_InvalidNumber) rfl hr rfl (pv 1) (tm_var 1) rfl (pa_cons (pv 1) pa_nil)) (pe_new1K (d := c_InvalidNumber) (hM _ in_InvalidNumber) rfl hr rfl (tm_var 1) rfl (pk_cons (pv 1) pk_nil))))) pss_nil)
    (pss_cons (ps_if (pt_cmpR op_eq (pv 0) pe_str (nomark _)) (pss_one (ps_ret (pe_ifExp (pt_cmpR op_lt (pv 2) pe_int (nomark _)) (pe_new1 (d := c_InvalidFraction) (hM _ in_InvalidFraction) rfl hr rfl (pv 1) (tm_var 1) rfl (pa_cons (pv 1) pa_nil)) (pe_new1K (d := c_InvalidFraction) (hM _ in_InvalidFraction) rfl hr rfl (tm_var 1) rfl (pk_cons (pv 1) pk_nil))))) pss_nil)
    (pss_cons (ps_if (pt_cmpR op_eq (pv 0) pe_str (nomark _)) (pss_one (ps_ret (pe_ifExp (pt_cmpR op_lt (pv 2) pe_int (nomark _)) (pe_new1 (d := c_InvalidOrder) (hM _ in_InvalidOrder) rfl hr rfl (pv 1) (tm_var 1) rfl (pa_cons (pv 1) pa_nil)) (pe_new1K (d := c_InvalidOrder) (hM _ in_InvalidOrder) rfl hr rfl (tm_var 1) rfl (pk_cons (pv 1) pk_nil))))) pss_nil)
    (pss_cons (ps_if (pt_cmpR op_eq (pv 0) pe_str (nomark _)) (pss_one (ps_ret (pe_ifExp (pt_cmpR op_lt (pv 2) pe_int (nomark _)) (pe_new1 (d := c_InvalidPlace) (hM _ in_InvalidPlace) rfl hr rfl (pv 1) (tm_var 1) rfl (pa_cons (pv 1) pa_nil)) (pe_new1K (d := c_InvalidPlace) (hM _ in_InvalidPlace) rfl hr rfl (tm_var 1) rfl (pk_cons (pv 1) pk_nil))))) pss_nil)
    (pss_cons (ps_if (pt_cmpR op_eq (pv 0) pe_str (nomark _)) (pss_one (ps_ret (pe_ifExp (pt_cmpR op_lt (pv 2) pe_int (nomark _)) (pe_new1 (d := c_InvalidPower) (hM _ in_InvalidPower) rfl hr rfl (pv 1) (tm_var 1) rfl (pa_cons (pv 1) pa_nil)) (pe_new1K (d := c_InvalidPower) (hM _ in_InvalidPower) rfl hr rfl (tm_var 1) rfl (pk_cons (pv 1) pk_nil))))) pss_nil)
    (pss_cons (ps_if (pt_cmpR op_eq (pv 0) pe_str (nomark _)) (pss_one (ps_ret (pe_ifExp (pt_cmpR op_lt (pv 2) pe_int (nomark _)) (pe_new1 (d := c_InvalidTimes) (hM _ in_InvalidTimes) rfl hr rfl (pv 1) (tm_var 1) rfl (pa_cons (pv 1) pa_nil)) (pe_new1K (d := c_InvalidTimes) (hM _ in_InvalidTimes) rfl hr rfl (tm_var 1) rfl (pk_cons (pv 1) pk_nil))))) pss_nil)
    (pss_cons (ps_if (pt_cmpR op_eq (pv 0) pe_str (nomark _)) (pss_one (ps_ret (pe_ifExp (pt_cmpR op_lt (pv 2) pe_int (nomark _)) (pe_new1 (d := c_InvalidText) (hM _ in_InvalidText) rfl hr rfl (pv 1) (tm_var 1) rfl (pa_cons (pv 1) pa_nil)) (pe_new1K (d := c_InvalidText) (hM _ in_InvalidText) rfl hr rfl (tm_var 1) rfl (pk_cons (pv 1) pk_nil))))) pss_nil)
    (pss_cons (ps_if (pt_cmpR op_eq (pv 0) pe_str (nomark _)) (pss_one (ps_ret (pe_ifExp (pt_cmpR op_lt (pv 2) pe_int (nomark _)) (pe_new1 (d := c_InvalidTable) (hM _ in_InvalidTable) rfl hr rfl (pv 1) (tm_var 1) rfl (pa_cons (pv 1) pa_nil)) (pe_new1K (d := c_InvalidTable) (hM _ in_InvalidTable) rfl hr rfl (tm_var 1) rfl (pk_cons (pv 1) pk_nil))))) pss_nil)
    (pss_cons (ps_if (pt_cmpR op_eq (pv 0) pe_str (nomark _)) (pss_one (ps_ret (pe_ifExp (pt_cmpR op_lt (pv 2) pe_int (nomark _)) (pe_new1 (d := c_NotSlow) (hM _ in_NotSlow) rfl hr rfl (pv 1) (tm_var 1) rfl (pa_cons (pv 1) pa_nil)) (pe_new1K (d := c_NotSlow) (hM _ in_NotSlow) rfl hr rfl (tm_var 1) rfl (pk_cons (pv 1) pk_nil))))) pss_nil)
    (pss_cons (ps_if (pt_cmpR op_eq (pv 0) pe_str (nomark _)) (pss_one (ps_ret (pe_ifExp (pt_cmpR op_lt (pv 2) pe_int (nomark _)) (pe_new1 (d := c_NotOne) (hM _ in_NotOne) rfl hr rfl (pv 1) (tm_var 1) rfl (pa_cons (pv 1) pa_nil)) (pe_new1K (d := c_NotOne) (hM _ in_NotOne) rfl hr rfl (tm_var 1) rfl (pk_cons (pv 1) pk_nil))))) pss_nil)
    (pss_cons (ps_if (pt_cmpR op_eq (pv 0) pe_str (nomark _)) (pss_one (ps_ret (pe_ifExp (pt_cmpR op_lt (pv 2) pe_int (nomark _)) (pe_new1 (d := c_IsStill) (hM _ in_IsStill) rfl hr rfl (pv 1) (tm_var 1) rfl (pa_cons (pv 1) pa_nil)) (pe_new1K (d := c_IsStill) (hM _ in_IsStill) rfl hr rfl (tm_var 1) rfl (pk_cons (pv 1) pk_nil))))) pss_nil)
    (pss_cons (ps_if (pt_cmpR op_eq (pv 0) pe_str (nomark _)) (pss_one (ps_ret (pe_ifExp (pt_cmpR op_lt (pv 2) pe_int (nomark _)) (pe_new1 (d := c_NotAFlow) (hM _ in_NotAFlow) rfl hr rfl (pv 1) (tm_var 1) rfl (pa_cons (pv 1) pa_nil)) (pe_new1K (d := c_NotAFlow) (hM _ in_NotAFlow) rfl hr rfl (tm_var 1) rfl (pk_cons (pv 1) pk_nil))))) pss_nil)
    (pss_cons (ps_if (pt_cmpR op_eq (pv 0) pe_str (nomark _)) (pss_one (ps_ret (pe_ifExp (pt_cmpR op_lt (pv 2) pe_int (nomark _)) (pe_new1 (d := c_InvalidFlat) (hM _ in_InvalidFlat) rfl hr rfl (pv 1) (tm_var 1) rfl (pa_cons (pv 1) pa_nil)) (pe_new1K (d := c_InvalidFlat) (hM _ in_InvalidFlat) rfl hr rfl (tm_var 1) rfl (pk_cons (pv 1) pk_nil))))) pss_nil)
    (pss_cons (ps_if (pt_cmpR op_eq (pv 0) pe_str (nomark _)) (pss_one (ps_ret (pe_ifExp (pt_cmpR op_lt (pv 2) pe_int (nomark _)) (pe_new1 (d := c_NotAlike) (hM _ in_NotAlike) rfl hr rfl (pv 1) (tm_var 1) rfl (pa_cons (pv 1) pa_nil)) (pe_new1K (d := c_NotAlike) (hM _ in_NotAlike) rfl hr rfl (tm_var 1) rfl (pk_cons (pv 1) pk_nil))))) pss_nil)
    (pss_cons (ps_if (pt_cmpR op_eq (pv 0) pe_str (nomark _)) (pss_one (ps_ret (pe_ifExp (pt_cmpR op_lt (pv 2) pe_int (nomark _)) (pe_new1 (d := c_InvalidLead) (hM _ in_InvalidLead) rfl hr rfl (pv 1) (tm_var 1) rfl (pa_cons (pv 1) pa_nil)) (pe_new1K (d := c_InvalidLead) (hM _ in_InvalidLead) rfl hr rfl (tm_var 1) rfl (pk_cons (pv 1) pk_nil))))) pss_nil)
    (pss_cons (ps_if (pt_cmpR op_eq (pv 0) pe_str (nomark _)) (pss_one (ps_ret (pe_ifExp (pt_cmpR op_lt (pv 2) pe_int (nomark _)) (pe_new1 (d := c_InvalidTime) (hM _ in_InvalidTime) rfl hr rfl (pv 1) (tm_var 1) rfl (pa_cons (pv 1) pa_nil)) (pe_new1K (d := c_InvalidTime) (hM _ in_InvalidTime) rfl hr rfl (tm_var 1) rfl (pk_cons (pv 1) pk_nil))))) pss_nil)
    (pss_cons (ps_if (pt_cmpR op_eq (pv 0) pe_str (nomark _)) (pss_one (ps_ret (pe_ifExp (pt_cmpR op_lt (pv 2) pe_int (nomark _)) (pe_new1 (d := c_InvalidTop) (hM _ in_InvalidTop) rfl hr rfl (pv 1) (tm_var 1) rfl (pa_cons (pv 1) pa_nil)) (pe_new1K (d := c_InvalidTop) (hM _ in_InvalidTop) rfl hr rfl (tm_var 1) rfl (pk_cons (pv 1) pk_nil))))) pss_nil)
    (pss_cons (ps_if (pt_cmpR op_eq (pv 0) pe_str (nomark _)) (pss_one (ps_ret (pe_ifExp (pt_cmpR op_lt (pv 2) pe_int (nomark _)) (pe_new1 (d := c_NotInFamily) (hM _ in_NotInFamily) rfl hr rfl (pv 1) (tm_var 1) rfl (pa_cons (pv 1) pa_nil)) (pe_new1K (d := c_NotInFamily) (hM _ in_NotInFamily) rfl hr rfl (tm_var 1) rfl (pk_cons (pv 1) pk_nil))))) pss_nil)
    (pss_one (ps_ret pe_non)))))))))))))))))))), ?_⟩
  refine ⟨_, rfl, rfl, _, rfl, ite2 (fun c => ?_) (fun c0 => ?_)⟩
  · obtain rfl := at_InvalidNumber d hd (V.str.inj (of_decide_eq_true c))
    have qa' := qa (by simp only [firsts, List.mem_cons, true_or, or_true])
    exact ⟨_, rfl, wy, 2, rfl, rfl, _, rfl, ite2 (fun _ => ⟨_, rfl, qa'⟩) (fun _ => ⟨_, rfl, qa'⟩)⟩
  refine ⟨_, rfl, rfl, _, rfl, ite2 (fun c => ?_) (fun c1 => ?_)⟩
  · obtain rfl := at_InvalidFraction d hd (V.str.inj (of_decide_eq_true c))
    have qa' := qa (by simp only [firsts, List.mem_cons, true_or, or_true])
    exact ⟨_, rfl, wy, 2, rfl, rfl, _, rfl, ite2 (fun _ => ⟨_, rfl, qa'⟩) (fun _ => ⟨_, rfl, qa'⟩)⟩
  refine ⟨_, rfl, rfl, _, rfl, ite2 (fun c => ?_) (fun c2 => ?_)⟩
  · obtain rfl := at_InvalidOrder d hd (V.str.inj (of_decide_eq_true c))
    have qa' := qa (by simp only [firsts, List.mem_cons, true_or, or_true])
    exact ⟨_, rfl, wy, 2, rfl, rfl, _, rfl, ite2 (fun _ => ⟨_, rfl, qa'⟩) (fun _ => ⟨_, rfl, qa'⟩)⟩
  refine ⟨_, rfl, rfl, _, rfl, ite2 (fun c => ?_) (fun c3 => ?_)⟩
  · obtain rfl := at_InvalidPlace d hd (V.str.inj (of_decide_eq_true c))
    have qa' := qa (by simp only [firsts, List.mem_cons, true_or, or_true])
    exact ⟨_, rfl, wy, 2, rfl, rfl, _, rfl, ite2 (fun _ => ⟨_, rfl, qa'⟩) (fun _ => ⟨_, rfl, qa'⟩)⟩
  refine ⟨_, rfl, rfl, _, rfl, ite2 (fun c => ?_) (fun c4 => ?_)⟩
  · obtain rfl := at_InvalidPower d hd (V.str.inj (of_decide_eq_true c))
    have qa' := qa (by simp only [firsts, List.mem_cons, true_or, or_true])
    exact ⟨_, rfl, wy, 2, rfl, rfl, _, rfl, ite2 (fun _ => ⟨_, rfl, qa'⟩) (fun _ => ⟨_, rfl, qa'⟩)⟩
  refine ⟨_, rfl, rfl, _, rfl, ite2 (fun c => ?_) (fun c5 => ?_)⟩
  · obtain rfl := at_InvalidTimes d hd (V.str.inj (of_decide_eq_true c))
    have qa' := qa (by simp only [firsts, List.mem_cons, true_or, or_true])
    exact ⟨_, rfl, wy, 2, rfl, rfl, _, rfl, ite2 (fun _ => ⟨_, rfl, qa'⟩) (fun _ => ⟨_, rfl, qa'⟩)⟩
  refine ⟨_, rfl, rfl, _, rfl, ite2 (fun c => ?_) (fun c6 => ?_)⟩
  · obtain rfl := at_InvalidText d hd (V.str.inj (of_decide_eq_true c))
    have qa' := qa (by simp only [firsts, List.mem_cons, true_or, or_true])
    exact ⟨_, rfl, wy, 2, rfl, rfl, _, rfl, ite2 (fun _ => ⟨_, rfl, qa'⟩) (fun _ => ⟨_, rfl, qa'⟩)⟩
  refine ⟨_, rfl, rfl, _, rfl, ite2 (fun c => ?_) (fun c7 => ?_)⟩
  · obtain rfl := at_InvalidTable d hd (V.str.inj (of_decide_eq_true c))
    have qa' := qa (by simp only [firsts, List.mem_cons, true_or, or_true])
    exact ⟨_, rfl, wy, 2, rfl, rfl, _, rfl, ite2 (fun _ => ⟨_, rfl, qa'⟩) (fun _ => ⟨_, rfl, qa'⟩)⟩
  refine ⟨_, rfl, rfl, _, rfl, ite2 (fun c => ?_) (fun c8 => ?_)⟩
  · obtain rfl := at_NotSlow d hd (V.str.inj (of_decide_eq_true c))
    have qa' := qa (by simp only [firsts, List.mem_cons, true_or, or_true])
    exact ⟨_, rfl, wy, 2, rfl, rfl, _, rfl, ite2 (fun _ => ⟨_, rfl, qa'⟩) (fun _ => ⟨_, rfl, qa'⟩)⟩
  refine ⟨_, rfl, rfl, _, rfl, ite2 (fun c => ?_) (fun c9 => ?_)⟩
  · obtain rfl := at_NotOne d hd (V.str.inj (of_decide_eq_true c))
    have qa' := qa (by simp only [firsts, List.mem_cons, true_or, or_true])
    exact ⟨_, rfl, wy, 2, rfl, rfl, _, rfl, ite2 (fun _ => ⟨_, rfl, qa'⟩) (fun _ => ⟨_, rfl, qa'⟩)⟩
  refine ⟨_, rfl, rfl, _, rfl, ite2 (fun c => ?_) (fun c10 => ?_)⟩
  · obtain rfl := at_IsStill d hd (V.str.inj (of_decide_eq_true c))
    have qa' := qa (by simp only [firsts, List.mem_cons, true_or, or_true])
    exact ⟨_, rfl, wy, 2, rfl, rfl, _, rfl, ite2 (fun _ => ⟨_, rfl, qa'⟩) (fun _ => ⟨_, rfl, qa'⟩)⟩
  refine ⟨_, rfl, rfl, _, rfl, ite2 (fun c => ?_) (fun c11 => ?_)⟩
  · obtain rfl := at_NotAFlow d hd (V.str.inj (of_decide_eq_true c))
    have qa' := qa (by simp only [firsts, List.mem_cons, true_or, or_true])
    exact ⟨_, rfl, wy, 2, rfl, rfl, _, rfl, ite2 (fun _ => ⟨_, rfl, qa'⟩) (fun _ => ⟨_, rfl, qa'⟩)⟩
  refine ⟨_, rfl, rfl, _, rfl, ite2 (fun c => ?_) (fun c12 => ?_)⟩
  · obtain rfl := at_InvalidFlat d hd (V.str.inj (of_decide_eq_true c))
    have qa' := qa (by simp only [firsts, List.mem_cons, true_or, or_true])
    exact ⟨_, rfl, wy, 2, rfl, rfl, _, rfl, ite2 (fun _ => ⟨_, rfl, qa'⟩) (fun _ => ⟨_, rfl, qa'⟩)⟩
  refine ⟨_, rfl, rfl, _, rfl, ite2 (fun c => ?_) (fun c13 => ?_)⟩
  · obtain rfl := at_NotAlike d hd (V.str.inj (of_decide_eq_true c))
    have qa' := qa (by simp only [firsts, List.mem_cons, true_or, or_true])
    exact ⟨_, rfl, wy, 2, rfl, rfl, _, rfl, ite2 (fun _ => ⟨_, rfl, qa'⟩) (fun _ => ⟨_, rfl, qa'⟩)⟩
  refine ⟨_, rfl, rfl, _, rfl, ite2 (fun c => ?_) (fun c14 => ?_)⟩
  · obtain rfl := at_InvalidLead d hd (V.str.inj (of_decide_eq_true c))
    have qa' := qa (by simp only [firsts, List.mem_cons, true_or, or_true])
    exact ⟨_, rfl, wy, 2, rfl, rfl, _, rfl, ite2 (fun _ => ⟨_, rfl, qa'⟩) (fun _ => ⟨_, rfl, qa'⟩)⟩
  refine ⟨_, rfl, rfl, _, rfl, ite2 (fun c => ?_) (fun c15 => ?_)⟩
  · obtain rfl := at_InvalidTime d hd (V.str.inj (of_decide_eq_true c))
    have qa' := qa (by simp only [firsts, List.mem_cons, true_or, or_true])
    exact ⟨_, rfl, wy, 2, rfl, rfl, _, rfl, ite2 (fun _ => ⟨_, rfl, qa'⟩) (fun _ => ⟨_, rfl, qa'⟩)⟩
  refine ⟨_, rfl, rfl, _, rfl, ite2 (fun c => ?_) (fun c16 => ?_)⟩
  · obtain rfl := at_InvalidTop d hd (V.str.inj (of_decide_eq_true c))
    have qa' := qa (by simp only [firsts, List.mem_cons, true_or, or_true])
    exact ⟨_, rfl, wy, 2, rfl, rfl, _, rfl, ite2 (fun _ => ⟨_, rfl, qa'⟩) (fun _ => ⟨_, rfl, qa'⟩)⟩
  refine ⟨_, rfl, rfl, _, rfl, ite2 (fun c => ?_) (fun c17 => ?_)⟩
  · obtain rfl := at_NotInFamily d hd (V.str.inj (of_decide_eq_true c))
    have qa' := qa (by simp only [firsts, List.mem_cons, true_or, or_true])
    exact ⟨_, rfl, wy, 2, rfl, rfl, _, rfl, ite2 (fun _ => ⟨_, rfl, qa'⟩) (fun _ => ⟨_, rfl, qa'⟩)⟩
  refine qb fun h => ?_
  simp only [firsts, List.mem_cons, List.not_mem_nil, or_false] at h
  rcases h with h | h | h | h | h | h | h | h | h | h | h | h | h | h | h | h | h | h
  · exact c0 (decide_eq_true (congrArg V.str h))
  · exact c1 (decide_eq_true (congrArg V.str h))
  · exact c2 (decide_eq_true (congrArg V.str h))
  · exact c3 (decide_eq_true (congrArg V.str h))
  · exact c4 (decide_eq_true (congrArg V.str h))
  · exact c5 (decide_eq_true (congrArg V.str h))
  · exact c6 (decide_eq_true (congrArg V.str h))
  · exact c7 (decide_eq_true (congrArg V.str h))
  · exact c8 (decide_eq_true (congrArg V.str h))
  · exact c9 (decide_eq_true (congrArg V.str h))
  · exact c10 (decide_eq_true (congrArg V.str h))
  · exact c11 (decide_eq_true (congrArg V.str h))
  · exact c12 (decide_eq_true (congrArg V.str h))
  · exact c13 (decide_eq_true (congrArg V.str h))
  · exact c14 (decide_eq_true (congrArg V.str h))
  · exact c15 (decide_eq_true (congrArg V.str h))
  · exact c16 (decide_eq_true (congrArg V.str h))
  · exact c17 (decide_eq_true (congrArg V.str h))
theorem scSecond : FnScope ["_law_pick", "_law_a", "_law_way"] ["_law_pick", "_law_a", "_law_way"] (defScope (top 59)) := ⟨rfl, rfl, rfl, by decide +kernel, rfl, by decide +kernel, by decide +kernel⟩
theorem ok_law_second (F : Fun K "_law_second" "_law_second" (top 59) f fd) (hM : ∀ d ∈ cdT, Mk0 P w K mg base d) : FnOk P w K mg base CX0 3 f fd ["_law_pick", "_law_a", "_law_way"] (spFirst seconds) := by
  refine F.ok scSecond (fun vs H Q E h => ?_) (fun cdv A outer s H vs Q E hr h => ?_)
  · obtain ⟨d, v, wy, _, rfl, _⟩ := h
    rfl
  obtain ⟨d, v, wy, hd, rfl, qa, qb⟩ := h
  refine ⟨_, (pss_cons (ps_if (pt_cmpR op_eq (pv 0) pe_str (nomark _)) (pss_one (ps_ret (pe_ifExp (pt_cmpR op_lt (pv 2) pe_int (nomark _)) (pe_new1 (d := c_NotFolded) (hM _ in_NotFolded) rfl hr rfl (pv 1) (tm_var 1) rfl (pa_cons (pv 1) pa_nil)) (pe_new1K (d := c_NotFolded) (hM _ in_NotFolded) rfl hr rfl (tm_var 1) rfl (pk_cons (pv 1) pk_nil))))) pss_nil)
    (pss_cons (ps_if (pt_cmpR op_eq (pv 0) pe_str (nomark _)) (pss_one (ps_ret (pe_ifExp (pt_cmpR op_lt (pv 2) pe_int (nomark _)) (pe_new1 (d := c_InvalidFar) (hM _ in_InvalidFar) rfl hr rfl (pv 1) (tm_var 1) rfl (pa_cons (pv 1) pa_nil)) (pe_new1K (d := c_InvalidFar) (hM _ in_InvalidFar) rfl hr rfl (tm_var 1) rfl (pk_cons (pv 1) pk_nil))))) pss_nil)
    (pss_cons (ps_if (pt_cmpR op_eq (pv 0) pe_str (nomark _)) (pss_one (ps_ret (pe_ifExp (pt_cmpR op_lt (pv 2) pe_int (nomark _)) (pe_new1 (d := c_NotFar) (hM _ in_NotFar) rfl hr rfl (pv 1) (tm_var 1) rfl (pa_cons (pv 1) pa_nil)) (pe_new1K (d := c_NotFar) (hM _ in_NotFar) rfl hr rfl (tm_var 1) rfl (pk_cons (pv 1) pk_nil))))) pss_nil)
    (pss_cons (ps_if (pt_cmpR op_eq (pv 0) pe_str (nomark _)) (pss_one (ps_ret (pe_ifExp (pt_cmpR op_lt (pv 2) pe_int (nomark _)) (pe_new1 (d := c_NotLed) (hM _ in_NotLed) rfl hr rfl (pv 1) (tm_var 1) rfl (pa_cons (pv 1) pa_nil)) (pe_new1K (d := c_NotLed) (hM _ in_NotLed) rfl hr rfl (tm_var 1) rfl (pk_cons (pv 1) pk_nil))))) pss_nil)
    (pss_cons (ps_if (pt_cmpR op_eq (pv 0) pe_str (nomark _)) (pss_one (ps_ret (pe_ifExp (pt_cmpR op_lt (pv 2) pe_int (nomark _)) (pe_new1 (d := c_NotInCrew) (hM _ in_NotInCrew) rfl hr rfl (pv 1) (tm_var 1) rfl (pa_cons (pv 1) pa_nil)) (pe_new1K (d := c_NotInCrew) (hM _ in_NotInCrew) rfl hr rfl (tm_var 1) rfl (pk_cons (pv 1) pk_nil))))) pss_nil)
    (pss_cons (ps_if (pt_cmpR op_eq (pv 0) pe_str (nomark _)) (pss_one (ps_ret (pe_ifExp (pt_cmpR op_lt (pv 2) pe_int (nomark _)) (pe_new1 (d := c_InvalidName) (hM _ in_InvalidName) rfl hr rfl (pv 1) (tm_var 1) rfl (pa_cons (pv 1) pa_nil)) (pe_new1K (d := c_InvalidName) (hM _ in_InvalidName) rfl hr rfl (tm_var 1) rfl (pk_cons (pv 1) pk_nil))))) pss_nil)
    (pss_cons (ps_if (pt_cmpR op_eq (pv 0) pe_str (nomark _)) (pss_one (ps_ret (pe_ifExp (pt_cmpR op_lt (pv 2) pe_int (nomark _)) (pe_new1 (d := c_InvalidNames) (hM _ in_InvalidNames) rfl hr rfl (pv 1) (tm_var 1) rfl (pa_cons (pv 1) pa_nil)) (pe_new1K (d := c_InvalidNames) (hM _ in_InvalidNames) rfl hr rfl (tm_var 1) rfl (pk_cons (pv 1) pk_nil))))) pss_nil)
    (pss_cons (ps_if (pt_cmpR op_eq (pv 0) pe_str (nomark _)) (pss_one (ps_ret (pe_ifExp (pt_cmpR op_lt (pv 2) pe_int (nomark _)) (pe_new1 (d := c_InvalidWord) (hM _ in_InvalidWord) rfl hr rfl (pv 1) (tm_var 1) rfl (pa_cons (pv 1) pa_nil)) (pe_new1K (d := c_InvalidWord) (hM _ in_InvalidWord) rfl hr rfl (tm_var 1) rfl (pk_cons (pv 1) pk_nil))))) pss_nil)
    (pss_cons (ps_if (pt_cmpR op_eq (pv 0) pe_str (nomark _)) (pss_one (ps_ret (pe_ifExp (pt_cmpR op_lt (pv 2) pe_int (nomark _)) (pe_new1 (d := c_SameName) (hM _ in_SameName) rfl hr rfl (pv 1) (tm_var 1) rfl (pa_cons (pv 1) pa_nil)) (pe_new1K (d := c_SameName) (hM _ in_SameName) rfl hr rfl (tm_var 1) rfl (pk_cons (pv 1) pk_nil))))) pss_nil)
    (pss_cons (ps_if (pt_cmpR op_eq (pv 0) pe_str (nomark _)) (pss_one (ps_ret (pe_ifExp (pt_cmpR op_lt (pv 2) pe_int (nomark _)) (pe_new1 (d := c_InvalidPaper) (hM _ in_InvalidPaper) rfl hr rfl (pv 1) (tm_var 1) rfl (pa_cons (pv 1) pa_nil)) (pe_new1K (d := c_InvalidPaper) (hM _ in_InvalidPaper) rfl hr rfl (tm_var 1) rfl (pk_cons (pv 1) pk_nil))))) pss_nil)
    (pss_cons (ps_if (pt_cmpR op_eq (pv 0) pe_str (nomark _)) (pss_one (ps_ret (pe_ifExp (pt_cmpR op_lt (pv 2) pe_int (nomark _)) (pe_new1 (d := c_InvalidDeed) (hM _ in_InvalidDeed) rfl hr rfl (pv 1) (tm_var 1) rfl (pa_cons (pv 1) pa_nil)) (pe_new1K (d := c_InvalidDeed) (hM _ in_InvalidDeed) rfl hr rfl (tm_var 1) rfl (pk_cons (pv 1) pk_nil))))) pss_nil)
    (pss_cons (ps_if (pt_cmpR op_eq (pv 0) pe_str (nomark _)) (pss_one (ps_ret (pe_ifExp (pt_cmpR op_lt (pv 2) pe_int (nomark _)) (pe_new1 (d := c_InvalidLine) (hM _ in_InvalidLine) rfl hr rfl (pv 1) (tm_var 1) rfl (pa_cons (pv 1) pa_nil)) (pe_new1K (d := c_InvalidLine) (hM _ in_InvalidLine) rfl hr rfl (tm_var 1) rfl (pk_cons (pv 1) pk_nil))))) pss_nil)
    (pss_cons (ps_if (pt_cmpR op_eq (pv 0) pe_str (nomark _)) (pss_one (ps_ret (pe_ifExp (pt_cmpR op_lt (pv 2) pe_int (nomark _)) (pe_new1 (d := c_TooMany) (hM _ in_TooMany) rfl hr rfl (pv 1) (tm_var 1) rfl (pa_cons (pv 1) pa_nil)) (pe_new1K (d := c_TooMany) (hM _ in_TooMany) rfl hr rfl (tm_var 1) rfl (pk_cons (pv 1) pk_nil))))) pss_nil)
    (pss_cons (ps_if (pt_cmpR op_eq (pv 0) pe_str (nomark _)) (pss_one (ps_ret (pe_ifExp (pt_cmpR op_lt (pv 2) pe_int (nomark _)) (pe_new1 (d := c_Tied) (hM _ in_Tied) rfl hr rfl (pv 1) (tm_var 1) rfl (pa_cons (pv 1) pa_nil)) (pe_new1K (d := c_Tied) (hM _ in_Tied) rfl hr rfl (tm_var 1) rfl (pk_cons (pv 1) pk_nil))))) pss_nil)
    (pss_cons (ps_if (pt_cmpR op_eq (pv 0) pe_str (nomark _)) (pss_one (ps_ret (pe_ifExp (pt_cmpR op_lt (pv 2) pe_int (nomark _)) (pe_new1 (d := c_UnknownName) (hM _ in_UnknownName) rfl hr rfl (pv 1) (tm_var 1) rfl (pa_cons (pv 1) pa_nil)) (pe_new1K (d := c_UnknownName) (hM _ in_UnknownName) rfl hr rfl (tm_var 1) rfl (pk_cons (pv 1) pk_nil))))) pss_nil)
    (pss_cons (ps_if (pt_cmpR op_eq (pv 0) pe_str (nomark _)) (pss_one (ps_ret (pe_ifExp (pt_cmpR op_lt (pv 2) pe_int (nomark _)) (pe_new1 (d := c_UnknownStep) (hM _ in_UnknownStep) rfl hr rfl (pv 1) (tm_var 1) rfl (pa_cons (pv 1) pa_nil)) (pe_new1K (d := c_UnknownStep) (hM _ in_UnknownStep) rfl hr rfl (tm_var 1) rfl (pk_cons (pv 1) pk_nil))))) pss_nil)
    (pss_one (ps_ret pe_non)))))))))))))))))), ?_⟩
  refine ⟨_, rfl, rfl, _, rfl, ite2 (fun c => ?_) (fun c0 => ?_)⟩
  · obtain rfl := at_NotFolded d hd (V.str.inj (of_decide_eq_true c))
    have qa' := qa (by simp only [seconds, List.mem_cons, true_or, or_true])
    exact ⟨_, rfl, wy, 2, rfl, rfl, _, rfl, ite2 (fun _ => ⟨_, rfl, qa'⟩) (fun _ => ⟨_, rfl, qa'⟩)⟩
  refine ⟨_, rfl, rfl, _, rfl, ite2 (fun c => ?_) (fun c1 => ?_)⟩
  · obtain rfl := at_InvalidFar d hd (V.str.inj (of_decide_eq_true c))
    have qa' := qa (by simp only [seconds, List.mem_cons, true_or, or_true])
    exact ⟨_, rfl, wy, 2, rfl, rfl, _, rfl, ite2 (fun _ => ⟨_, rfl, qa'⟩) (fun _ => ⟨_, rfl, qa'⟩)⟩
  refine ⟨_, rfl, rfl, _, rfl, ite2 (fun c => ?_) (fun c2 => ?_)⟩
  · obtain rfl := at_NotFar d hd (V.str.inj (of_decide_eq_true c))
    have qa' := qa (by simp only [seconds, List.mem_cons, true_or, or_true])
    exact ⟨_, rfl, wy, 2, rfl, rfl, _, rfl, ite2 (fun _ => ⟨_, rfl, qa'⟩) (fun _ => ⟨_, rfl, qa'⟩)⟩
  refine ⟨_, rfl, rfl, _, rfl, ite2 (fun c => ?_) (fun c3 => ?_)⟩
  · obtain rfl := at_NotLed d hd (V.str.inj (of_decide_eq_true c))
    have qa' := qa (by simp only [seconds, List.mem_cons, true_or, or_true])
    exact ⟨_, rfl, wy, 2, rfl, rfl, _, rfl, ite2 (fun _ => ⟨_, rfl, qa'⟩) (fun _ => ⟨_, rfl, qa'⟩)⟩
  refine ⟨_, rfl, rfl, _, rfl, ite2 (fun c => ?_) (fun c4 => ?_)⟩
  · obtain rfl := at_NotInCrew d hd (V.str.inj (of_decide_eq_true c))
    have qa' := qa (by simp only [seconds, List.mem_cons, true_or, or_true])
    exact ⟨_, rfl, wy, 2, rfl, rfl, _, rfl, ite2 (fun _ => ⟨_, rfl, qa'⟩) (fun _ => ⟨_, rfl, qa'⟩)⟩
  refine ⟨_, rfl, rfl, _, rfl, ite2 (fun c => ?_) (fun c5 => ?_)⟩
  · obtain rfl := at_InvalidName d hd (V.str.inj (of_decide_eq_true c))
    have qa' := qa (by simp only [seconds, List.mem_cons, true_or, or_true])
    exact ⟨_, rfl, wy, 2, rfl, rfl, _, rfl, ite2 (fun _ => ⟨_, rfl, qa'⟩) (fun _ => ⟨_, rfl, qa'⟩)⟩
  refine ⟨_, rfl, rfl, _, rfl, ite2 (fun c => ?_) (fun c6 => ?_)⟩
  · obtain rfl := at_InvalidNames d hd (V.str.inj (of_decide_eq_true c))
    have qa' := qa (by simp only [seconds, List.mem_cons, true_or, or_true])
    exact ⟨_, rfl, wy, 2, rfl, rfl, _, rfl, ite2 (fun _ => ⟨_, rfl, qa'⟩) (fun _ => ⟨_, rfl, qa'⟩)⟩
  refine ⟨_, rfl, rfl, _, rfl, ite2 (fun c => ?_) (fun c7 => ?_)⟩
  · obtain rfl := at_InvalidWord d hd (V.str.inj (of_decide_eq_true c))
    have qa' := qa (by simp only [seconds, List.mem_cons, true_or, or_true])
    exact ⟨_, rfl, wy, 2, rfl, rfl, _, rfl, ite2 (fun _ => ⟨_, rfl, qa'⟩) (fun _ => ⟨_, rfl, qa'⟩)⟩
  refine ⟨_, rfl, rfl, _, rfl, ite2 (fun c => ?_) (fun c8 => ?_)⟩
  · obtain rfl := at_SameName d hd (V.str.inj (of_decide_eq_true c))
    have qa' := qa (by simp only [seconds, List.mem_cons, true_or, or_true])
    exact ⟨_, rfl, wy, 2, rfl, rfl, _, rfl, ite2 (fun _ => ⟨_, rfl, qa'⟩) (fun _ => ⟨_, rfl, qa'⟩)⟩
  refine ⟨_, rfl, rfl, _, rfl, ite2 (fun c => ?_) (fun c9 => ?_)⟩
  · obtain rfl := at_InvalidPaper d hd (V.str.inj (of_decide_eq_true c))
    have qa' := qa (by simp only [seconds, List.mem_cons, true_or, or_true])
    exact ⟨_, rfl, wy, 2, rfl, rfl, _, rfl, ite2 (fun _ => ⟨_, rfl, qa'⟩) (fun _ => ⟨_, rfl, qa'⟩)⟩
  refine ⟨_, rfl, rfl, _, rfl, ite2 (fun c => ?_) (fun c10 => ?_)⟩
  · obtain rfl := at_InvalidDeed d hd (V.str.inj (of_decide_eq_true c))
    have qa' := qa (by simp only [seconds, List.mem_cons, true_or, or_true])
    exact ⟨_, rfl, wy, 2, rfl, rfl, _, rfl, ite2 (fun _ => ⟨_, rfl, qa'⟩) (fun _ => ⟨_, rfl, qa'⟩)⟩
  refine ⟨_, rfl, rfl, _, rfl, ite2 (fun c => ?_) (fun c11 => ?_)⟩
  · obtain rfl := at_InvalidLine d hd (V.str.inj (of_decide_eq_true c))
    have qa' := qa (by simp only [seconds, List.mem_cons, true_or, or_true])
    exact ⟨_, rfl, wy, 2, rfl, rfl, _, rfl, ite2 (fun _ => ⟨_, rfl, qa'⟩) (fun _ => ⟨_, rfl, qa'⟩)⟩
  refine ⟨_, rfl, rfl, _, rfl, ite2 (fun c => ?_) (fun c12 => ?_)⟩
  · obtain rfl := at_TooMany d hd (V.str.inj (of_decide_eq_true c))
    have qa' := qa (by simp only [seconds, List.mem_cons, true_or, or_true])
    exact ⟨_, rfl, wy, 2, rfl, rfl, _, rfl, ite2 (fun _ => ⟨_, rfl, qa'⟩) (fun _ => ⟨_, rfl, qa'⟩)⟩
  refine ⟨_, rfl, rfl, _, rfl, ite2 (fun c => ?_) (fun c13 => ?_)⟩
  · obtain rfl := at_Tied d hd (V.str.inj (of_decide_eq_true c))
    have qa' := qa (by simp only [seconds, List.mem_cons, true_or, or_true])
    exact ⟨_, rfl, wy, 2, rfl, rfl, _, rfl, ite2 (fun _ => ⟨_, rfl, qa'⟩) (fun _ => ⟨_, rfl, qa'⟩)⟩
  refine ⟨_, rfl, rfl, _, rfl, ite2 (fun c => ?_) (fun c14 => ?_)⟩
  · obtain rfl := at_UnknownName d hd (V.str.inj (of_decide_eq_true c))
    have qa' := qa (by simp only [seconds, List.mem_cons, true_or, or_true])
    exact ⟨_, rfl, wy, 2, rfl, rfl, _, rfl, ite2 (fun _ => ⟨_, rfl, qa'⟩) (fun _ => ⟨_, rfl, qa'⟩)⟩
  refine ⟨_, rfl, rfl, _, rfl, ite2 (fun c => ?_) (fun c15 => ?_)⟩
  · obtain rfl := at_UnknownStep d hd (V.str.inj (of_decide_eq_true c))
    have qa' := qa (by simp only [seconds, List.mem_cons, true_or, or_true])
    exact ⟨_, rfl, wy, 2, rfl, rfl, _, rfl, ite2 (fun _ => ⟨_, rfl, qa'⟩) (fun _ => ⟨_, rfl, qa'⟩)⟩
  refine qb fun h => ?_
  simp only [seconds, List.mem_cons, List.not_mem_nil, or_false] at h
  rcases h with h | h | h | h | h | h | h | h | h | h | h | h | h | h | h | h
  · exact c0 (decide_eq_true (congrArg V.str h))
  · exact c1 (decide_eq_true (congrArg V.str h))
  · exact c2 (decide_eq_true (congrArg V.str h))
  · exact c3 (decide_eq_true (congrArg V.str h))
  · exact c4 (decide_eq_true (congrArg V.str h))
  · exact c5 (decide_eq_true (congrArg V.str h))
  · exact c6 (decide_eq_true (congrArg V.str h))
  · exact c7 (decide_eq_true (congrArg V.str h))
  · exact c8 (decide_eq_true (congrArg V.str h))
  · exact c9 (decide_eq_true (congrArg V.str h))
  · exact c10 (decide_eq_true (congrArg V.str h))
  · exact c11 (decide_eq_true (congrArg V.str h))
  · exact c12 (decide_eq_true (congrArg V.str h))
  · exact c13 (decide_eq_true (congrArg V.str h))
  · exact c14 (decide_eq_true (congrArg V.str h))
  · exact c15 (decide_eq_true (congrArg V.str h))
theorem scBoth : FnScope ["_law_pick", "_law_a", "_law_b", "_law_way"] ["_law_pick", "_law_a", "_law_b", "_law_way"] (defScope (top 60)) := ⟨rfl, rfl, rfl, by decide +kernel, rfl, by decide +kernel, by decide +kernel⟩
theorem ok_law_both (F : Fun K "_law_both" "_law_both" (top 60) f fd) (hM : ∀ d ∈ cdT, Mk0 P w K mg base d) : FnOk P w K mg base CX0 3 f fd ["_law_pick", "_law_a", "_law_b", "_law_way"] spBoth := by
  refine F.ok scBoth (fun vs H Q E h => ?_) (fun cdv A outer s H vs Q E hr h => ?_)
  · obtain ⟨d, v, u, wy, _, _, rfl, _⟩ := h
    rfl
  obtain ⟨d, v, u, wy, hd, h2, rfl, qa⟩ := h
  refine ⟨_, (pss_cons (ps_if (PW.pt (pw_and (pt_cmpR op_eq (pv 0) pe_str (nomark _)) (pw_and1 (pt_cmpR op_lt (pv 3) pe_int (nomark _))))) (pss_one (ps_ret (pe_ifExp (pt_cmpR op_eq (pv 3) pe_int (nomark _)) (pe_new2 (d := c_OrderTooLow) (hM _ in_OrderTooLow) rfl hr rfl (tm_var 1) (tm_var 2) rfl (pa_cons (pv 1) (pa_cons (pv 2) pa_nil)))
        (pe_new2K (d := c_OrderTooLow) (hM _ in_OrderTooLow) rfl hr rfl (tm_var 1) (tm_var 2) rfl (pk_cons (pv 1) (pk_cons (pv 2) pk_nil)))))) pss_nil)
    (pss_cons (ps_if (pt_cmpR op_eq (pv 0) pe_str (nomark _)) (pss_one (ps_ret (pe_ifExp (pt_cmpR op_eq (pv 3) pe_int (nomark _)) (pe_new2S (d := c_OrderTooLow) (hM _ in_OrderTooLow) rfl hr rfl (tm_var 2) (tm_var 1) rfl (pk_cons (pv 2) (pk_cons (pv 1) pk_nil)))
        (pe_new2M (d := c_OrderTooLow) (hM _ in_OrderTooLow) rfl hr rfl (tm_var 1) (tm_var 2) rfl (pa_cons (pv 1) pa_nil) (pk_cons (pv 2) pk_nil))))) pss_nil)
    (pss_cons (ps_if (PW.pt (pw_and (pt_cmpR op_eq (pv 0) pe_str (nomark _)) (pw_and1 (pt_cmpR op_lt (pv 3) pe_int (nomark _))))) (pss_one (ps_ret (pe_ifExp (pt_cmpR op_eq (pv 3) pe_int (nomark _)) (pe_new2 (d := c_UnlikeOrders) (hM _ in_UnlikeOrders) rfl hr rfl (tm_var 1) (tm_var 2) rfl (pa_cons (pv 1) (pa_cons (pv 2) pa_nil)))
        (pe_new2K (d := c_UnlikeOrders) (hM _ in_UnlikeOrders) rfl hr rfl (tm_var 1) (tm_var 2) rfl (pk_cons (pv 1) (pk_cons (pv 2) pk_nil)))))) pss_nil)
    (pss_cons (ps_if (pt_cmpR op_eq (pv 0) pe_str (nomark _)) (pss_one (ps_ret (pe_ifExp (pt_cmpR op_eq (pv 3) pe_int (nomark _)) (pe_new2S (d := c_UnlikeOrders) (hM _ in_UnlikeOrders) rfl hr rfl (tm_var 2) (tm_var 1) rfl (pk_cons (pv 2) (pk_cons (pv 1) pk_nil)))
        (pe_new2M (d := c_UnlikeOrders) (hM _ in_UnlikeOrders) rfl hr rfl (tm_var 1) (tm_var 2) rfl (pa_cons (pv 1) pa_nil) (pk_cons (pv 2) pk_nil))))) pss_nil)
    (pss_cons (ps_if (PW.pt (pw_and (pt_cmpR op_eq (pv 0) pe_str (nomark _)) (pw_and1 (pt_cmpR op_lt (pv 3) pe_int (nomark _))))) (pss_one (ps_ret (pe_ifExp (pt_cmpR op_eq (pv 3) pe_int (nomark _)) (pe_new2 (d := c_NotUnit) (hM _ in_NotUnit) rfl hr rfl (tm_var 1) (tm_var 2) rfl (pa_cons (pv 1) (pa_cons (pv 2) pa_nil)))
        (pe_new2K (d := c_NotUnit) (hM _ in_NotUnit) rfl hr rfl (tm_var 1) (tm_var 2) rfl (pk_cons (pv 1) (pk_cons (pv 2) pk_nil)))))) pss_nil)
    (pss_cons (ps_if (pt_cmpR op_eq (pv 0) pe_str (nomark _)) (pss_one (ps_ret (pe_ifExp (pt_cmpR op_eq (pv 3) pe_int (nomark _)) (pe_new2S (d := c_NotUnit) (hM _ in_NotUnit) rfl hr rfl (tm_var 2) (tm_var 1) rfl (pk_cons (pv 2) (pk_cons (pv 1) pk_nil)))
        (pe_new2M (d := c_NotUnit) (hM _ in_NotUnit) rfl hr rfl (tm_var 1) (tm_var 2) rfl (pa_cons (pv 1) pa_nil) (pk_cons (pv 2) pk_nil))))) pss_nil)
    (pss_cons (ps_if (PW.pt (pw_and (pt_cmpR op_eq (pv 0) pe_str (nomark _)) (pw_and1 (pt_cmpR op_lt (pv 3) pe_int (nomark _))))) (pss_one (ps_ret (pe_ifExp (pt_cmpR op_eq (pv 3) pe_int (nomark _)) (pe_new2 (d := c_NotATable) (hM _ in_NotATable) rfl hr rfl (tm_var 1) (tm_var 2) rfl (pa_cons (pv 1) (pa_cons (pv 2) pa_nil)))
        (pe_new2K (d := c_NotATable) (hM _ in_NotATable) rfl hr rfl (tm_var 1) (tm_var 2) rfl (pk_cons (pv 1) (pk_cons (pv 2) pk_nil)))))) pss_nil)
    (pss_cons (ps_if (pt_cmpR op_eq (pv 0) pe_str (nomark _)) (pss_one (ps_ret (pe_ifExp (pt_cmpR op_eq (pv 3) pe_int (nomark _)) (pe_new2S (d := c_NotATable) (hM _ in_NotATable) rfl hr rfl (tm_var 2) (tm_var 1) rfl (pk_cons (pv 2) (pk_cons (pv 1) pk_nil)))
        (pe_new2M (d := c_NotATable) (hM _ in_NotATable) rfl hr rfl (tm_var 1) (tm_var 2) rfl (pa_cons (pv 1) pa_nil) (pk_cons (pv 2) pk_nil))))) pss_nil)
    (pss_cons (ps_if (PW.pt (pw_and (pt_cmpR op_eq (pv 0) pe_str (nomark _)) (pw_and1 (pt_cmpR op_lt (pv 3) pe_int (nomark _))))) (pss_one (ps_ret (pe_ifExp (pt_cmpR op_eq (pv 3) pe_int (nomark _)) (pe_new2 (d := c_UnlikeFlats) (hM _ in_UnlikeFlats) rfl hr rfl (tm_var 1) (tm_var 2) rfl (pa_cons (pv 1) (pa_cons (pv 2) pa_nil)))
        (pe_new2K (d := c_UnlikeFlats) (hM _ in_UnlikeFlats) rfl hr rfl (tm_var 1) (tm_var 2) rfl (pk_cons (pv 1) (pk_cons (pv 2) pk_nil)))))) pss_nil)
    (pss_cons (ps_if (pt_cmpR op_eq (pv 0) pe_str (nomark _)) (pss_one (ps_ret (pe_ifExp (pt_cmpR op_eq (pv 3) pe_int (nomark _)) (pe_new2S (d := c_UnlikeFlats) (hM _ in_UnlikeFlats) rfl hr rfl (tm_var 2) (tm_var 1) rfl (pk_cons (pv 2) (pk_cons (pv 1) pk_nil)))
        (pe_new2M (d := c_UnlikeFlats) (hM _ in_UnlikeFlats) rfl hr rfl (tm_var 1) (tm_var 2) rfl (pa_cons (pv 1) pa_nil) (pk_cons (pv 2) pk_nil))))) pss_nil)
    (pss_cons (ps_if (PW.pt (pw_and (pt_cmpR op_eq (pv 0) pe_str (nomark _)) (pw_and1 (pt_cmpR op_lt (pv 3) pe_int (nomark _))))) (pss_one (ps_ret (pe_ifExp (pt_cmpR op_eq (pv 3) pe_int (nomark _)) (pe_new2 (d := c_NotSquare) (hM _ in_NotSquare) rfl hr rfl (tm_var 1) (tm_var 2) rfl (pa_cons (pv 1) (pa_cons (pv 2) pa_nil)))
        (pe_new2K (d := c_NotSquare) (hM _ in_NotSquare) rfl hr rfl (tm_var 1) (tm_var 2) rfl (pk_cons (pv 1) (pk_cons (pv 2) pk_nil)))))) pss_nil)
    (pss_cons (ps_if (pt_cmpR op_eq (pv 0) pe_str (nomark _)) (pss_one (ps_ret (pe_ifExp (pt_cmpR op_eq (pv 3) pe_int (nomark _)) (pe_new2S (d := c_NotSquare) (hM _ in_NotSquare) rfl hr rfl (tm_var 2) (tm_var 1) rfl (pk_cons (pv 2) (pk_cons (pv 1) pk_nil)))
        (pe_new2M (d := c_NotSquare) (hM _ in_NotSquare) rfl hr rfl (tm_var 1) (tm_var 2) rfl (pa_cons (pv 1) pa_nil) (pk_cons (pv 2) pk_nil))))) pss_nil)
    (pss_one (ps_ret pe_non)))))))))))))), ?_⟩
  refine ⟨_, rfl, rfl, _, rfl, ?_⟩
  by_cases e0 : d.nm = "OrderTooLow"
  · obtain rfl := at_OrderTooLow d hd e0
    have g2 : ∀ {A B : Prop}, A → (if decide (V.str c_OrderTooLow.nm = V.str "OrderTooLow") = true then A else B) := fun h => by rw [if_pos (decide_eq_true rfl)]; exact h
    refine g2 ⟨_, rfl, wy, 2, rfl, rfl, _, rfl, ite2 (fun _ => ?_) (fun _ => ?_)⟩
    · exact ⟨_, rfl, rfl, _, rfl, ite2 (fun _ => ⟨_, rfl, _, rfl, qa⟩) (fun _ => ⟨_, rfl, _, rfl, qa⟩)⟩
    · exact ⟨_, rfl, rfl, _, rfl, g2 ⟨_, rfl, rfl, _, rfl, ite2 (fun _ => ⟨_, rfl, _, rfl, qa⟩) (fun _ => ⟨_, rfl, _, rfl, qa⟩)⟩⟩
  have g0 : ∀ {A B : Prop}, B → (if decide (V.str d.nm = V.str "OrderTooLow") = true then A else B) := fun h => by rw [if_neg (fun z => e0 (V.str.inj (of_decide_eq_true z)))]; exact h
  refine g0 (iteF ⟨_, rfl, rfl, _, rfl, g0 ?_⟩)
  refine ⟨_, rfl, rfl, _, rfl, ?_⟩
  by_cases e1 : d.nm = "UnlikeOrders"
  · obtain rfl := at_UnlikeOrders d hd e1
    have g2 : ∀ {A B : Prop}, A → (if decide (V.str c_UnlikeOrders.nm = V.str "UnlikeOrders") = true then A else B) := fun h => by rw [if_pos (decide_eq_true rfl)]; exact h
    refine g2 ⟨_, rfl, wy, 2, rfl, rfl, _, rfl, ite2 (fun _ => ?_) (fun _ => ?_)⟩
    · exact ⟨_, rfl, rfl, _, rfl, ite2 (fun _ => ⟨_, rfl, _, rfl, qa⟩) (fun _ => ⟨_, rfl, _, rfl, qa⟩)⟩
    · exact ⟨_, rfl, rfl, _, rfl, g2 ⟨_, rfl, rfl, _, rfl, ite2 (fun _ => ⟨_, rfl, _, rfl, qa⟩) (fun _ => ⟨_, rfl, _, rfl, qa⟩)⟩⟩
  have g1 : ∀ {A B : Prop}, B → (if decide (V.str d.nm = V.str "UnlikeOrders") = true then A else B) := fun h => by rw [if_neg (fun z => e1 (V.str.inj (of_decide_eq_true z)))]; exact h
  refine g1 (iteF ⟨_, rfl, rfl, _, rfl, g1 ?_⟩)
  refine ⟨_, rfl, rfl, _, rfl, ?_⟩
  by_cases e2 : d.nm = "NotUnit"
  · obtain rfl := at_NotUnit d hd e2
    have g2 : ∀ {A B : Prop}, A → (if decide (V.str c_NotUnit.nm = V.str "NotUnit") = true then A else B) := fun h => by rw [if_pos (decide_eq_true rfl)]; exact h
    refine g2 ⟨_, rfl, wy, 2, rfl, rfl, _, rfl, ite2 (fun _ => ?_) (fun _ => ?_)⟩
    · exact ⟨_, rfl, rfl, _, rfl, ite2 (fun _ => ⟨_, rfl, _, rfl, qa⟩) (fun _ => ⟨_, rfl, _, rfl, qa⟩)⟩
    · exact ⟨_, rfl, rfl, _, rfl, g2 ⟨_, rfl, rfl, _, rfl, ite2 (fun _ => ⟨_, rfl, _, rfl, qa⟩) (fun _ => ⟨_, rfl, _, rfl, qa⟩)⟩⟩
  have g2 : ∀ {A B : Prop}, B → (if decide (V.str d.nm = V.str "NotUnit") = true then A else B) := fun h => by rw [if_neg (fun z => e2 (V.str.inj (of_decide_eq_true z)))]; exact h
  refine g2 (iteF ⟨_, rfl, rfl, _, rfl, g2 ?_⟩)
  refine ⟨_, rfl, rfl, _, rfl, ?_⟩
  by_cases e3 : d.nm = "NotATable"
  · obtain rfl := at_NotATable d hd e3
    have g2 : ∀ {A B : Prop}, A → (if decide (V.str c_NotATable.nm = V.str "NotATable") = true then A else B) := fun h => by rw [if_pos (decide_eq_true rfl)]; exact h
    refine g2 ⟨_, rfl, wy, 2, rfl, rfl, _, rfl, ite2 (fun _ => ?_) (fun _ => ?_)⟩
    · exact ⟨_, rfl, rfl, _, rfl, ite2 (fun _ => ⟨_, rfl, _, rfl, qa⟩) (fun _ => ⟨_, rfl, _, rfl, qa⟩)⟩
    · exact ⟨_, rfl, rfl, _, rfl, g2 ⟨_, rfl, rfl, _, rfl, ite2 (fun _ => ⟨_, rfl, _, rfl, qa⟩) (fun _ => ⟨_, rfl, _, rfl, qa⟩)⟩⟩
  have g3 : ∀ {A B : Prop}, B → (if decide (V.str d.nm = V.str "NotATable") = true then A else B) := fun h => by rw [if_neg (fun z => e3 (V.str.inj (of_decide_eq_true z)))]; exact h
  refine g3 (iteF ⟨_, rfl, rfl, _, rfl, g3 ?_⟩)
  refine ⟨_, rfl, rfl, _, rfl, ?_⟩
  by_cases e4 : d.nm = "UnlikeFlats"
  · obtain rfl := at_UnlikeFlats d hd e4
    have g2 : ∀ {A B : Prop}, A → (if decide (V.str c_UnlikeFlats.nm = V.str "UnlikeFlats") = true then A else B) := fun h => by rw [if_pos (decide_eq_true rfl)]; exact h
    refine g2 ⟨_, rfl, wy, 2, rfl, rfl, _, rfl, ite2 (fun _ => ?_) (fun _ => ?_)⟩
    · exact ⟨_, rfl, rfl, _, rfl, ite2 (fun _ => ⟨_, rfl, _, rfl, qa⟩) (fun _ => ⟨_, rfl, _, rfl, qa⟩)⟩
    · exact ⟨_, rfl, rfl, _, rfl, g2 ⟨_, rfl, rfl, _, rfl, ite2 (fun _ => ⟨_, rfl, _, rfl, qa⟩) (fun _ => ⟨_, rfl, _, rfl, qa⟩)⟩⟩
  have g4 : ∀ {A B : Prop}, B → (if decide (V.str d.nm = V.str "UnlikeFlats") = true then A else B) := fun h => by rw [if_neg (fun z => e4 (V.str.inj (of_decide_eq_true z)))]; exact h
  refine g4 (iteF ⟨_, rfl, rfl, _, rfl, g4 ?_⟩)
  refine ⟨_, rfl, rfl, _, rfl, ?_⟩
  by_cases e5 : d.nm = "NotSquare"
  · obtain rfl := at_NotSquare d hd e5
    have g2 : ∀ {A B : Prop}, A → (if decide (V.str c_NotSquare.nm = V.str "NotSquare") = true then A else B) := fun h => by rw [if_pos (decide_eq_true rfl)]; exact h
    refine g2 ⟨_, rfl, wy, 2, rfl, rfl, _, rfl, ite2 (fun _ => ?_) (fun _ => ?_)⟩
    · exact ⟨_, rfl, rfl, _, rfl, ite2 (fun _ => ⟨_, rfl, _, rfl, qa⟩) (fun _ => ⟨_, rfl, _, rfl, qa⟩)⟩
    · exact ⟨_, rfl, rfl, _, rfl, g2 ⟨_, rfl, rfl, _, rfl, ite2 (fun _ => ⟨_, rfl, _, rfl, qa⟩) (fun _ => ⟨_, rfl, _, rfl, qa⟩)⟩⟩
  have g5 : ∀ {A B : Prop}, B → (if decide (V.str d.nm = V.str "NotSquare") = true then A else B) := fun h => by rw [if_neg (fun z => e5 (V.str.inj (of_decide_eq_true z)))]; exact h
  refine g5 (iteF ⟨_, rfl, rfl, _, rfl, g5 ?_⟩)
  have z := both_in d hd h2
  simp only [List.mem_cons, List.not_mem_nil, or_false] at z
  rcases z with z | z | z | z | z | z
  · exact absurd z e0
  · exact absurd z e1
  · exact absurd z e2
  · exact absurd z e3
  · exact absurd z e4
  · exact absurd z e5
theorem scBare : FnScope ["_law_pick"] ["_law_pick"] (defScope (top 61)) := ⟨rfl, rfl, rfl, by decide +kernel, rfl, by decide +kernel, by decide +kernel⟩
theorem ok_law_bare (F : Fun K "_law_bare" "_law_bare" (top 61) f fd) (hM : ∀ d ∈ cdT, Mk0 P w K mg base d) : FnOk P w K mg base CX0 3 f fd ["_law_pick"] spBare := by
  refine F.ok scBare (fun vs H Q E h => ?_) (fun cdv A outer s H vs Q E hr h => ?_)
  · obtain ⟨d, _, _, rfl, _⟩ := h
    rfl
  obtain ⟨d, hd, h0, rfl, qa⟩ := h
  refine ⟨_, (pss_cons (ps_if (pt_cmpR op_eq (pv 0) pe_str (nomark _)) (pss_one (ps_ret (pe_new0 (d := c_CantTurn) (hM _ in_CantTurn) rfl hr rfl rfl))) pss_nil)
    (pss_cons (ps_if (pt_cmpR op_eq (pv 0) pe_str (nomark _)) (pss_one (ps_ret (pe_new0 (d := c_DividedByZero) (hM _ in_DividedByZero) rfl hr rfl rfl))) pss_nil)
    (pss_cons (ps_if (pt_cmpR op_eq (pv 0) pe_str (nomark _)) (pss_one (ps_ret (pe_new0 (d := c_NotAClock) (hM _ in_NotAClock) rfl hr rfl rfl))) pss_nil)
    (pss_cons (ps_if (pt_cmpR op_eq (pv 0) pe_str (nomark _)) (pss_one (ps_ret (pe_new0 (d := c_NoFlips) (hM _ in_NoFlips) rfl hr rfl rfl))) pss_nil)
    (pss_cons (ps_if (pt_cmpR op_eq (pv 0) pe_str (nomark _)) (pss_one (ps_ret (pe_new0 (d := c_InCrew) (hM _ in_InCrew) rfl hr rfl rfl))) pss_nil)
    (pss_cons (ps_if (pt_cmpR op_eq (pv 0) pe_str (nomark _)) (pss_one (ps_ret (pe_new0 (d := c_NotOpen) (hM _ in_NotOpen) rfl hr rfl rfl))) pss_nil)
    (pss_cons (ps_if (pt_cmpR op_eq (pv 0) pe_str (nomark _)) (pss_one (ps_ret (pe_new0 (d := c_InvalidStep) (hM _ in_InvalidStep) rfl hr rfl rfl))) pss_nil)
    (pss_cons (ps_if (pt_cmpR op_eq (pv 0) pe_str (nomark _)) (pss_one (ps_ret (pe_new0 (d := c_Solved) (hM _ in_Solved) rfl hr rfl rfl))) pss_nil)
    (pss_cons (ps_if (pt_cmpR op_eq (pv 0) pe_str (nomark _)) (pss_one (ps_ret (pe_new0 (d := c_NothingLeft) (hM _ in_NothingLeft) rfl hr rfl rfl))) pss_nil)
    (pss_one (ps_ret pe_non))))))))))), ?_⟩
  refine ⟨_, rfl, rfl, _, rfl, ite2 (fun c => ?_) (fun c0 => ?_)⟩
  · obtain rfl := at_CantTurn d hd (V.str.inj (of_decide_eq_true c))
    exact qa
  refine ⟨_, rfl, rfl, _, rfl, ite2 (fun c => ?_) (fun c1 => ?_)⟩
  · obtain rfl := at_DividedByZero d hd (V.str.inj (of_decide_eq_true c))
    exact qa
  refine ⟨_, rfl, rfl, _, rfl, ite2 (fun c => ?_) (fun c2 => ?_)⟩
  · obtain rfl := at_NotAClock d hd (V.str.inj (of_decide_eq_true c))
    exact qa
  refine ⟨_, rfl, rfl, _, rfl, ite2 (fun c => ?_) (fun c3 => ?_)⟩
  · obtain rfl := at_NoFlips d hd (V.str.inj (of_decide_eq_true c))
    exact qa
  refine ⟨_, rfl, rfl, _, rfl, ite2 (fun c => ?_) (fun c4 => ?_)⟩
  · obtain rfl := at_InCrew d hd (V.str.inj (of_decide_eq_true c))
    exact qa
  refine ⟨_, rfl, rfl, _, rfl, ite2 (fun c => ?_) (fun c5 => ?_)⟩
  · obtain rfl := at_NotOpen d hd (V.str.inj (of_decide_eq_true c))
    exact qa
  refine ⟨_, rfl, rfl, _, rfl, ite2 (fun c => ?_) (fun c6 => ?_)⟩
  · obtain rfl := at_InvalidStep d hd (V.str.inj (of_decide_eq_true c))
    exact qa
  refine ⟨_, rfl, rfl, _, rfl, ite2 (fun c => ?_) (fun c7 => ?_)⟩
  · obtain rfl := at_Solved d hd (V.str.inj (of_decide_eq_true c))
    exact qa
  refine ⟨_, rfl, rfl, _, rfl, ite2 (fun c => ?_) (fun c8 => ?_)⟩
  · obtain rfl := at_NothingLeft d hd (V.str.inj (of_decide_eq_true c))
    exact qa
  have z := bare_in d hd h0
  simp only [List.mem_cons, List.not_mem_nil, or_false] at z
  rcases z with z | z | z | z | z | z | z | z | z
  · exact absurd (decide_eq_true (congrArg V.str z)) c0
  · exact absurd (decide_eq_true (congrArg V.str z)) c1
  · exact absurd (decide_eq_true (congrArg V.str z)) c2
  · exact absurd (decide_eq_true (congrArg V.str z)) c3
  · exact absurd (decide_eq_true (congrArg V.str z)) c4
  · exact absurd (decide_eq_true (congrArg V.str z)) c5
  · exact absurd (decide_eq_true (congrArg V.str z)) c6
  · exact absurd (decide_eq_true (congrArg V.str z)) c7
  · exact absurd (decide_eq_true (congrArg V.str z)) c8
end
end Kz
end
section
set_option maxHeartbeats 4000000
namespace Kz
open PySem PySem.Spec PyProof.Rows L2
/-- an error of the class d with the values ws stands at x -/
def Err (H : Hp) (x : Addr) (d : CD) (ws : List V) : Prop := ∃ e, H x = some (exo x d.C (some e)) ∧ H e = some (exd e (fsOf d ws)) ∧ ws.length = d.ps.length
theorem Err.same {H H' : Hp} {x : Addr} {d : CD} {ws : List V} (h : Err H x d ws) (s : Same H H') : Err H' x d ws := by
  obtain ⟨e, h1, h2, h3⟩ := h
  exact ⟨e, s _ _ h1, s _ _ h2, h3⟩
theorem Made.err {H H' : Hp} {x : Addr} {d : CD} {ws : List V} (m : Made H H' x d ws) (h : ws.length = d.ps.length) : Err H' x d ws := by
  obtain ⟨e, _, _, h1, h2, _⟩ := m.ex
  exact ⟨e, h1, h2, h⟩
def spMade : Sp := fun vs H Q _ => ∃ (d : CD) (p : Addr) (v u : V) (wy : Int), d ∈ cdT ∧ vs = [.str d.nm, .ref p, .int wy] ∧ H p = some (.tup [v, u]) ∧ ∀ x H', Same H H' → H x = none → Err H' x d ([v, u].take d.ps.length) → Q (.ref x) H'
theorem ps_le : ∀ d ∈ cdT, d.ps.length ≤ 2 := by decide +kernel
section
variable {P : Program} {w : World} {K : PySem.W.Frag} {mg : Str → Option Value} {base : Heap} {f fW fB f0 f1 f2 : Addr} {fd fdW fdB fd0 fd1 fd2 : FuncData}
theorem scMade : FnScope ["_law_pick", "_law_pair", "_law_way", "_law_words_here", "_law_error"] ["_law_pick", "_law_pair", "_law_way"] (defScope (top 69)) := ⟨rfl, rfl, rfl, by decide +kernel, rfl, by decide +kernel, by decide +kernel⟩
theorem ok_made (F : Fun K "_law_made" "_law_made" (top 69) f fd) (mn : mg "len" = none)
    (GW : FnOk P w K mg base CX0 1 fW fdW ["_law_pick"] spWords) (bW : Binds K fdW ["_law_pick"] []) (kW : PySem.W.keepIn K (.ref fW) = true) (mW : mg "_law_words" = some (.ref fW))
    (GB : FnOk P w K mg base CX0 3 fB fdB ["_law_pick", "_law_a", "_law_b", "_law_way"] spBoth) (bB : Binds K fdB ["_law_pick", "_law_a", "_law_b", "_law_way"] []) (kB : PySem.W.keepIn K (.ref fB) = true) (mB : mg "_law_both" = some (.ref fB))
    (G0 : FnOk P w K mg base CX0 3 f0 fd0 ["_law_pick"] spBare) (b0 : Binds K fd0 ["_law_pick"] []) (k0 : PySem.W.keepIn K (.ref f0) = true) (m0 : mg "_law_bare" = some (.ref f0))
    (G1 : FnOk P w K mg base CX0 3 f1 fd1 ["_law_pick", "_law_a", "_law_way"] (spFirst firsts)) (b1 : Binds K fd1 ["_law_pick", "_law_a", "_law_way"] []) (k1 : PySem.W.keepIn K (.ref f1) = true) (m1 : mg "_law_first" = some (.ref f1))
    (G2 : FnOk P w K mg base CX0 3 f2 fd2 ["_law_pick", "_law_a", "_law_way"] (spFirst seconds)) (b2 : Binds K fd2 ["_law_pick", "_law_a", "_law_way"] []) (k2 : PySem.W.keepIn K (.ref f2) = true) (m2 : mg "_law_second" = some (.ref f2)) :
    FnOk P w K mg base CX0 4 f fd ["_law_pick", "_law_pair", "_law_way"] spMade := by
  refine F.ok scMade (fun vs H Q E h => ?_) (fun cdv A outer s H vs Q E hr h => ?_)
  · obtain ⟨d, p, v, u, wy, _, rfl, _⟩ := h
    rfl
  obtain ⟨d, p, v, u, wy, hd, rfl, hp, q⟩ := h
  have hr1 := hr.mono (show 1 ≤ 3 by decide)
  refine ⟨_, pss_cons (ps_set (i := 3) scMade.nd rfl (Or.inl rfl) (pe_call GW hr1 rfl mW kW bW .nil pass0 (pa_cons (pv 0) pa_nil)))
    (pss_cons (ps_if (pt_cmpR op_eq (pe_callB call_len_seq rfl mn PySem.boot_len (pa_cons (pv 3) pa_nil)) pe_int (nomark _)) (pss_one (ps_ret (pe_call GB hr rfl mB kB bB .nil pass0 (pa_cons (pv 0) (pa_cons (pe_ix ix_tup (pv 1) pe_int (fun _ _ => rfl)) (pa_cons (pe_ix ix_tup (pv 1) pe_int (fun _ _ => rfl)) (pa_cons (pv 2) pa_nil))))))) pss_nil)
    (pss_cons (ps_if (pt_cmpR op_eq (pe_callB call_len_seq rfl mn PySem.boot_len (pa_cons (pv 3) pa_nil)) pe_int (nomark _)) (pss_one (ps_ret (pe_call G0 hr rfl m0 k0 b0 .nil pass0 (pa_cons (pv 0) pa_nil)))) pss_nil)
    (pss_cons (ps_set (i := 4) scMade.nd rfl (Or.inl rfl) (pe_call G1 hr rfl m1 k1 b1 .nil pass0 (pa_cons (pv 0) (pa_cons (pe_ix ix_tup (pv 1) pe_int (fun _ _ => rfl)) (pa_cons (pv 2) pa_nil)))))
    (pss_one (ps_ret (pe_ifExp (pt_cmpR op_isN (pv 4) pe_non (nomark _)) (pe_call G2 hr rfl m2 k2 b2 .nil pass0 (pa_cons (pv 0) (pa_cons (pe_ix ix_tup (pv 1) pe_int (fun _ _ => rfl)) (pa_cons (pv 2) pa_nil)))) (pv 4))))))), ?_⟩
  refine ⟨_, rfl, d, hd, rfl, fun t H1 s1 ht => ?_⟩
  have hp1 := s1 _ _ hp
  have lt : (strV d.ps).length = d.ps.length := List.length_map _
  have le := ps_le d hd
  refine ⟨_, rfl, t, _, rfl, .inr (SqT.of ht), rfl, _, rfl, ite2 (fun c => ?_) (fun c => ?_)⟩
  · have l2 : d.ps.length = 2 := by
      have z := V.int.inj (of_decide_eq_true c)
      rw [lt] at z
      omega
    refine ⟨_, rfl, _, rfl, p, _, 0, _, rfl, rfl, SqT.of hp1, rfl, _, rfl, p, _, 1, _, rfl, rfl, SqT.of hp1, rfl, _, rfl, d, v, u, wy, hd, l2, rfl, fun x H' m => ?_⟩
    refine q x H' (s1.trans m.same) (s1.free m.new) ?_
    rw [l2]
    exact m.err (by rw [l2]; rfl)
  have n2 : d.ps.length ≠ 2 := fun e => c (decide_eq_true (congrArg V.int (by rw [lt, e]; rfl)))
  refine ⟨_, rfl, t, _, rfl, .inr (SqT.of ht), rfl, _, rfl, ite2 (fun c => ?_) (fun c => ?_)⟩
  · have l0 : d.ps.length = 0 := by
      have z := V.int.inj (of_decide_eq_true c)
      rw [lt] at z
      omega
    refine ⟨_, rfl, d, hd, List.eq_nil_of_length_eq_zero l0, rfl, fun x H' m => ?_⟩
    refine q x H' (s1.trans m.same) (s1.free m.new) ?_
    rw [l0]
    exact m.err (by rw [l0]; rfl)
  have n0 : d.ps.length ≠ 0 := fun e => c (decide_eq_true (congrArg V.int (by rw [lt, e]; rfl)))
  have l1 : d.ps.length = 1 := by omega
  refine ⟨_, rfl, _, rfl, p, _, 0, _, rfl, rfl, SqT.of hp1, rfl, _, rfl, d, v, wy, hd, rfl, fun _ x H' m => ?_, fun nf => ?_⟩
  · refine ⟨_, rfl, rfl, _, rfl, iteF ⟨_, rfl, ?_⟩⟩
    refine q x H' (s1.trans m.same) (s1.free m.new) ?_
    rw [l1]
    exact m.err (by rw [l1]; rfl)
  · refine ⟨_, rfl, rfl, _, rfl, iteT ⟨_, rfl, _, rfl, p, _, 0, _, rfl, rfl, SqT.of hp1, rfl, _, rfl, d, v, wy, hd, rfl, fun _ x H' m => ?_, fun ns => ?_⟩⟩
    · refine q x H' (s1.trans m.same) (s1.free m.new) ?_
      rw [l1]
      exact m.err (by rw [l1]; rfl)
    · rcases one_in d hd l1 with z | z
      · exact absurd z nf
      · exact absurd z ns
end
end Kz
end
section
set_option maxHeartbeats 4000000
namespace Kz
open PySem PySem.Spec PyProof.Rows L2
def spTold : Sp := fun vs H Q _ => ∃ (d : CD) (x t : Addr) (ws : List V), d ∈ cdT ∧ vs = [.ref x, .ref t] ∧ Err H x d ws ∧ H t = some (.tup (strV d.ps)) ∧ ∀ r H', Same H H' → H r = none → H' r = some (.lst (.str d.nm :: ws)) → Q (.ref r) H'
def wordsT : List Str := ["value", "at", "have", "wanted", "one", "other", "first", "line", "place", "paper", "name", "most", "ties", "equations", "unknowns"]
theorem ps_words : ∀ d ∈ cdT, ∀ x ∈ d.ps, x ∈ wordsT := by decide +kernel
theorem ps_nd : ∀ d ∈ cdT, d.ps.Nodup ∧ ("code" : Str) ∉ d.ps := by decide +kernel
theorem look_cons (f g : Str) (y : V) (fs : List (Str × V)) : ((f, y) :: fs).lookup g = if g = f then some y else fs.lookup g := lookup_put f g y fs
theorem fs_code {d : CD} (hd : d ∈ cdT) {ws : List V} (hl : ws.length = d.ps.length) : (fsOf d ws).lookup ("code" : Str) = some (V.str d.nm) := by
  obtain ⟨_, hc⟩ := ps_nd d hd
  have le := ps_le d hd
  unfold fsOf
  generalize d.ps = ps at hc le hl
  match ps, ws, hl with
  | [], [], _ => rfl
  | [a], [v], _ =>
    have n1 : ("code" : Str) ≠ a := fun e => hc (by rw [e]; exact List.mem_cons_self)
    show List.lookup ("code" : Str) [(a, v), ("code", .str d.nm)] = _
    rw [look_cons, if_neg n1, look_cons, if_pos rfl]
  | [a, b], [v, u], _ =>
    have n1 : ("code" : Str) ≠ a := fun e => hc (by rw [e]; exact List.mem_cons_self)
    have n2 : ("code" : Str) ≠ b := fun e => hc (by rw [e]; exact List.mem_cons_of_mem _ List.mem_cons_self)
    show List.lookup ("code" : Str) [(b, u), (a, v), ("code", .str d.nm)] = _
    rw [look_cons, if_neg n2, look_cons, if_neg n1, look_cons, if_pos rfl]
  | _ :: _ :: _ :: _, _, _ => exact absurd le (by simp)
theorem fs_at {d : CD} (hd : d ∈ cdT) {ws : List V} (hl : ws.length = d.ps.length) {i : Nat} {p : Str} (hp : d.ps[i]? = some p) : ∃ v, ws[i]? = some v ∧ (fsOf d ws).lookup p = some v := by
  obtain ⟨hn, _⟩ := ps_nd d hd
  have le := ps_le d hd
  unfold fsOf
  generalize d.ps = ps at hn le hl hp
  match ps, ws, hl with
  | [], [], _ => simp at hp
  | [a], [v], _ =>
    cases i with
    | zero =>
      obtain rfl : a = p := by simpa using hp
      refine ⟨v, rfl, ?_⟩
      show List.lookup a [(a, v), ("code", .str d.nm)] = _
      rw [look_cons, if_pos rfl]
    | succ i => simp at hp
  | [a, b], [v, u], _ =>
    have ne : a ≠ b := by
      intro e
      rw [e] at hn
      simp at hn
    cases i with
    | zero =>
      obtain rfl : a = p := by simpa using hp
      refine ⟨v, rfl, ?_⟩
      show List.lookup a [(b, u), (a, v), ("code", .str d.nm)] = _
      rw [look_cons, if_neg ne, look_cons, if_pos rfl]
    | succ i =>
      cases i with
      | zero =>
        obtain rfl : b = p := by simpa using hp
        refine ⟨u, rfl, ?_⟩
        show List.lookup b [(b, u), (a, v), ("code", .str d.nm)] = _
        rw [look_cons, if_pos rfl]
      | succ i => simp at hp
  | _ :: _ :: _ :: _, _, _ => exact absurd le (by simp)
section
variable {P : Program} {w : World} {K : PySem.W.Frag} {mg : Str → Option Value} {base : Heap} {f : Addr} {fd : FuncData}
theorem scTold : FnScope ["_law_error", "_law_words_here", "_law_some", "_law_word"] ["_law_error", "_law_words_here"] (defScope (top 62)) := ⟨rfl, rfl, rfl, by decide +kernel, rfl, by decide +kernel, by decide +kernel⟩
theorem ok_told (F : Fun K "_law_told" "_law_told" (top 62) f fd) (c : SaysP K) : FnOk P w K mg base CX0 1 f fd ["_law_error", "_law_words_here"] spTold := by
  refine F.ok scTold (fun vs H Q E h => ?_) (fun cdv A outer s H vs Q E hr h => ?_)
  · obtain ⟨d, x, t, ws, _, rfl, _⟩ := h
    rfl
  obtain ⟨d, x, t, ws, hd, rfl, he, ht, q⟩ := h
  have T := xc_of c hd
  have lw : ws.length = d.ps.length := he.choose_spec.2.2
  refine ⟨_, pss_cons (ps_set (i := 2) scTold.nd rfl (Or.inl rfl) (pe_lst (pa_cons (pe_xat (pv 0)) pa_nil)))
    (pss_cons (ps_for PassesOwn.never rfl (pi_tup (pv 1)) (pg_name (i := 3) scTold.nd rfl (Or.inl rfl)) (pss_one (ps_if (pt_cmpR op_eq (pv 3) pe_str (nomark _)) (pss_one (ps_expr (pe_bm PySem.F.plainAttrs_list PySem.F.slot_list_append PySem.F.type_list_append mt_append (pv 2) (pa_cons (pe_xat (pv 0)) pa_nil)))) (pss_one (ps_if (pt_cmpR op_eq (pv 3) pe_str (nomark _)) (pss_one (ps_expr (pe_bm PySem.F.plainAttrs_list PySem.F.slot_list_append PySem.F.type_list_append mt_append (pv 2) (pa_cons (pe_xat (pv 0)) pa_nil)))) (pss_one (ps_if (pt_cmpR op_eq (pv 3) pe_str (nomark _)) (pss_one (ps_expr (pe_bm PySem.F.plainAttrs_list PySem.F.slot_list_append PySem.F.type_list_append mt_append (pv 2) (pa_cons (pe_xat (pv 0)) pa_nil)))) (pss_one (ps_if (pt_cmpR op_eq (pv 3) pe_str (nomark _)) (pss_one (ps_expr (pe_bm PySem.F.plainAttrs_list PySem.F.slot_list_append PySem.F.type_list_append mt_append (pv 2) (pa_cons (pe_xat (pv 0)) pa_nil)))) (pss_one (ps_if (pt_cmpR op_eq (pv 3) pe_str (nomark _)) (pss_one (ps_expr (pe_bm PySem.F.plainAttrs_list PySem.F.slot_list_append PySem.F.type_list_append mt_append (pv 2) (pa_cons (pe_xat (pv 0)) pa_nil)))) (pss_one (ps_if (pt_cmpR op_eq (pv 3) pe_str (nomark _)) (pss_one (ps_expr (pe_bm PySem.F.plainAttrs_list PySem.F.slot_list_append PySem.F.type_list_append mt_append (pv 2) (pa_cons (pe_xat (pv 0)) pa_nil)))) (pss_one (ps_if (pt_cmpR op_eq (pv 3) pe_str (nomark _)) (pss_one (ps_expr (pe_bm PySem.F.plainAttrs_list PySem.F.slot_list_append PySem.F.type_list_append mt_append (pv 2) (pa_cons (pe_xat (pv 0)) pa_nil)))) (pss_one (ps_if (pt_cmpR op_eq (pv 3) pe_str (nomark _)) (pss_one (ps_expr (pe_bm PySem.F.plainAttrs_list PySem.F.slot_list_append PySem.F.type_list_append mt_append (pv 2) (pa_cons (pe_xat (pv 0)) pa_nil)))) (pss_one (ps_if (pt_cmpR op_eq (pv 3) pe_str (nomark _)) (pss_one (ps_expr (pe_bm PySem.F.plainAttrs_list PySem.F.slot_list_append PySem.F.type_list_append mt_append (pv 2) (pa_cons (pe_xat (pv 0)) pa_nil)))) (pss_one (ps_if (pt_cmpR op_eq (pv 3) pe_str (nomark _)) (pss_one (ps_expr (pe_bm PySem.F.plainAttrs_list PySem.F.slot_list_append PySem.F.type_list_append mt_append (pv 2) (pa_cons (pe_xat (pv 0)) pa_nil)))) (pss_one (ps_if (pt_cmpR op_eq (pv 3) pe_str (nomark _)) (pss_one (ps_expr (pe_bm PySem.F.plainAttrs_list PySem.F.slot_list_append PySem.F.type_list_append mt_append (pv 2) (pa_cons (pe_xat (pv 0)) pa_nil)))) (pss_one (ps_if (pt_cmpR op_eq (pv 3) pe_str (nomark _)) (pss_one (ps_expr (pe_bm PySem.F.plainAttrs_list PySem.F.slot_list_append PySem.F.type_list_append mt_append (pv 2) (pa_cons (pe_xat (pv 0)) pa_nil)))) (pss_one (ps_if (pt_cmpR op_eq (pv 3) pe_str (nomark _)) (pss_one (ps_expr (pe_bm PySem.F.plainAttrs_list PySem.F.slot_list_append PySem.F.type_list_append mt_append (pv 2) (pa_cons (pe_xat (pv 0)) pa_nil)))) (pss_one (ps_if (pt_cmpR op_eq (pv 3) pe_str (nomark _)) (pss_one (ps_expr (pe_bm PySem.F.plainAttrs_list PySem.F.slot_list_append PySem.F.type_list_append mt_append (pv 2) (pa_cons (pe_xat (pv 0)) pa_nil)))) (pss_one (ps_if (pt_cmpR op_eq (pv 3) pe_str (nomark _)) (pss_one (ps_expr (pe_bm PySem.F.plainAttrs_list PySem.F.slot_list_append PySem.F.type_list_append mt_append (pv 2) (pa_cons (pe_xat (pv 0)) pa_nil)))) pss_nil)))))))))))))))))))))))))))))))
    (pss_one (ps_ret (pv 2)))), ?_⟩
  obtain ⟨e, h1, h2, _⟩ := id he
  refine ⟨_, rfl, x, d.C, e, _, _, rfl, T, find_none c hd (by decide +kernel), h1, h2, fs_code hd lw, ?_⟩
  refine ⟨(by show 1 ≤ sizeLine; decide), fun l nl => ?_⟩
  have g0 := new_same nl (.lst [.str d.nm])
  refine ⟨_, rfl, t, rfl, ⟨_, SqT.of (g0 _ _ ht)⟩, for_tup (K := K) (a := t) (xs := strV d.ps) (fun i σ H' => Same H H' ∧ H' l = some (.lst (.str d.nm :: ws.take i)) ∧ ∃ v : Option V, σ = [some (.ref x), some (.ref t), some (.ref l), v]) ⟨g0, upd_same, none, rfl⟩ (fun i σ H' _ h => SqT.of (h.1 _ _ ht)) ?_ ?_⟩
  · rintro i y σ H' hy ⟨g, hl, v, rfl⟩
    obtain ⟨p, hp, rfl⟩ : ∃ p, d.ps[i]? = some p ∧ V.str p = y := by
      unfold strV at hy
      rw [List.getElem?_map] at hy
      exact Option.map_eq_some_iff.mp hy
    obtain ⟨z, hz, hf⟩ := fs_at hd lw hp
    have mp := ps_words d hd p (List.mem_of_getElem? hp)
    have np := find_none c hd (cd_ps d hd p (List.mem_of_getElem? hp))
    have lz := (List.getElem?_eq_some_iff.mp hz).1
    have lle := ps_le d hd
    have fin : Same H (upd H' l (.lst (.str d.nm :: ws.take i ++ [z]))) ∧ (upd H' l (.lst (.str d.nm :: ws.take i ++ [z]))) l = some (.lst (.str d.nm :: ws.take (i + 1))) := by
      refine ⟨fun b o h => by rw [upd_ne (ne_of_none h nl)]; exact g _ _ h, ?_⟩
      rw [upd_same, List.take_add_one, hz]
      rfl
    have sz : (.str d.nm :: ws.take i : List V).length < sizeLine := by
      refine small1000 ?_
      rw [List.length_cons, List.length_take]
      omega
    refine ⟨_, rfl, rfl, _, rfl, ite2 (fun cc => ?_) (fun c0 => ?_)⟩
    · obtain rfl : p = "value" := V.str.inj (of_decide_eq_true cc)
      exact ⟨_, rfl, .inl ⟨rfl, _, SqL.of hl⟩, _, rfl, x, d.C, e, _, z, rfl, T, np, g _ _ h1, g _ _ h2, hf, l, _, z, rfl, rfl, hl, sz, fin.1, fin.2, _, rfl⟩
    refine ⟨_, rfl, rfl, _, rfl, ite2 (fun cc => ?_) (fun c1 => ?_)⟩
    · obtain rfl : p = "at" := V.str.inj (of_decide_eq_true cc)
      exact ⟨_, rfl, .inl ⟨rfl, _, SqL.of hl⟩, _, rfl, x, d.C, e, _, z, rfl, T, np, g _ _ h1, g _ _ h2, hf, l, _, z, rfl, rfl, hl, sz, fin.1, fin.2, _, rfl⟩
    refine ⟨_, rfl, rfl, _, rfl, ite2 (fun cc => ?_) (fun c2 => ?_)⟩
    · obtain rfl : p = "have" := V.str.inj (of_decide_eq_true cc)
      exact ⟨_, rfl, .inl ⟨rfl, _, SqL.of hl⟩, _, rfl, x, d.C, e, _, z, rfl, T, np, g _ _ h1, g _ _ h2, hf, l, _, z, rfl, rfl, hl, sz, fin.1, fin.2, _, rfl⟩
    refine ⟨_, rfl, rfl, _, rfl, ite2 (fun cc => ?_) (fun c3 => ?_)⟩
    · obtain rfl : p = "wanted" := V.str.inj (of_decide_eq_true cc)
      exact ⟨_, rfl, .inl ⟨rfl, _, SqL.of hl⟩, _, rfl, x, d.C, e, _, z, rfl, T, np, g _ _ h1, g _ _ h2, hf, l, _, z, rfl, rfl, hl, sz, fin.1, fin.2, _, rfl⟩
    refine ⟨_, rfl, rfl, _, rfl, ite2 (fun cc => ?_) (fun c4 => ?_)⟩
    · obtain rfl : p = "one" := V.str.inj (of_decide_eq_true cc)
      exact ⟨_, rfl, .inl ⟨rfl, _, SqL.of hl⟩, _, rfl, x, d.C, e, _, z, rfl, T, np, g _ _ h1, g _ _ h2, hf, l, _, z, rfl, rfl, hl, sz, fin.1, fin.2, _, rfl⟩
    refine ⟨_, rfl, rfl, _, rfl, ite2 (fun cc => ?_) (fun c5 => ?_)⟩
    · obtain rfl : p = "other" := V.str.inj (of_decide_eq_true cc)
      exact ⟨_, rfl, .inl ⟨rfl, _, SqL.of hl⟩, _, rfl, x, d.C, e, _, z, rfl, T, np, g _ _ h1, g _ _ h2, hf, l, _, z, rfl, rfl, hl, sz, fin.1, fin.2, _, rfl⟩
    refine ⟨_, rfl, rfl, _, rfl, ite2 (fun cc => ?_) (fun c6 => ?_)⟩
    · obtain rfl : p = "first" := V.str.inj (of_decide_eq_true cc)
      exact ⟨_, rfl, .inl ⟨rfl, _, SqL.of hl⟩, _, rfl, x, d.C, e, _, z, rfl, T, np, g _ _ h1, g _ _ h2, hf, l, _, z, rfl, rfl, hl, sz, fin.1, fin.2, _, rfl⟩
    refine ⟨_, rfl, rfl, _, rfl, ite2 (fun cc => ?_) (fun c7 => ?_)⟩
    · obtain rfl : p = "line" := V.str.inj (of_decide_eq_true cc)
      exact ⟨_, rfl, .inl ⟨rfl, _, SqL.of hl⟩, _, rfl, x, d.C, e, _, z, rfl, T, np, g _ _ h1, g _ _ h2, hf, l, _, z, rfl, rfl, hl, sz, fin.1, fin.2, _, rfl⟩
    refine ⟨_, rfl, rfl, _, rfl, ite2 (fun cc => ?_) (fun c8 => ?_)⟩
    · obtain rfl : p = "place" := V.str.inj (of_decide_eq_true cc)
      exact ⟨_, rfl, .inl ⟨rfl, _, SqL.of hl⟩, _, rfl, x, d.C, e, _, z, rfl, T, np, g _ _ h1, g _ _ h2, hf, l, _, z, rfl, rfl, hl, sz, fin.1, fin.2, _, rfl⟩
    refine ⟨_, rfl, rfl, _, rfl, ite2 (fun cc => ?_) (fun c9 => ?_)⟩
    · obtain rfl : p = "paper" := V.str.inj (of_decide_eq_true cc)
      exact ⟨_, rfl, .inl ⟨rfl, _, SqL.of hl⟩, _, rfl, x, d.C, e, _, z, rfl, T, np, g _ _ h1, g _ _ h2, hf, l, _, z, rfl, rfl, hl, sz, fin.1, fin.2, _, rfl⟩
    refine ⟨_, rfl, rfl, _, rfl, ite2 (fun cc => ?_) (fun c10 => ?_)⟩
    · obtain rfl : p = "name" := V.str.inj (of_decide_eq_true cc)
      exact ⟨_, rfl, .inl ⟨rfl, _, SqL.of hl⟩, _, rfl, x, d.C, e, _, z, rfl, T, np, g _ _ h1, g _ _ h2, hf, l, _, z, rfl, rfl, hl, sz, fin.1, fin.2, _, rfl⟩
    refine ⟨_, rfl, rfl, _, rfl, ite2 (fun cc => ?_) (fun c11 => ?_)⟩
    · obtain rfl : p = "most" := V.str.inj (of_decide_eq_true cc)
      exact ⟨_, rfl, .inl ⟨rfl, _, SqL.of hl⟩, _, rfl, x, d.C, e, _, z, rfl, T, np, g _ _ h1, g _ _ h2, hf, l, _, z, rfl, rfl, hl, sz, fin.1, fin.2, _, rfl⟩
    refine ⟨_, rfl, rfl, _, rfl, ite2 (fun cc => ?_) (fun c12 => ?_)⟩
    · obtain rfl : p = "ties" := V.str.inj (of_decide_eq_true cc)
      exact ⟨_, rfl, .inl ⟨rfl, _, SqL.of hl⟩, _, rfl, x, d.C, e, _, z, rfl, T, np, g _ _ h1, g _ _ h2, hf, l, _, z, rfl, rfl, hl, sz, fin.1, fin.2, _, rfl⟩
    refine ⟨_, rfl, rfl, _, rfl, ite2 (fun cc => ?_) (fun c13 => ?_)⟩
    · obtain rfl : p = "equations" := V.str.inj (of_decide_eq_true cc)
      exact ⟨_, rfl, .inl ⟨rfl, _, SqL.of hl⟩, _, rfl, x, d.C, e, _, z, rfl, T, np, g _ _ h1, g _ _ h2, hf, l, _, z, rfl, rfl, hl, sz, fin.1, fin.2, _, rfl⟩
    refine ⟨_, rfl, rfl, _, rfl, ite2 (fun cc => ?_) (fun c14 => ?_)⟩
    · obtain rfl : p = "unknowns" := V.str.inj (of_decide_eq_true cc)
      exact ⟨_, rfl, .inl ⟨rfl, _, SqL.of hl⟩, _, rfl, x, d.C, e, _, z, rfl, T, np, g _ _ h1, g _ _ h2, hf, l, _, z, rfl, rfl, hl, sz, fin.1, fin.2, _, rfl⟩
    simp only [wordsT, List.mem_cons, List.not_mem_nil, or_false] at mp
    rcases mp with z | z | z | z | z | z | z | z | z | z | z | z | z | z | z
    · exact absurd (decide_eq_true (congrArg V.str z)) c0
    · exact absurd (decide_eq_true (congrArg V.str z)) c1
    · exact absurd (decide_eq_true (congrArg V.str z)) c2
    · exact absurd (decide_eq_true (congrArg V.str z)) c3
    · exact absurd (decide_eq_true (congrArg V.str z)) c4
    · exact absurd (decide_eq_true (congrArg V.str z)) c5
    · exact absurd (decide_eq_true (congrArg V.str z)) c6
    · exact absurd (decide_eq_true (congrArg V.str z)) c7
    · exact absurd (decide_eq_true (congrArg V.str z)) c8
    · exact absurd (decide_eq_true (congrArg V.str z)) c9
    · exact absurd (decide_eq_true (congrArg V.str z)) c10
    · exact absurd (decide_eq_true (congrArg V.str z)) c11
    · exact absurd (decide_eq_true (congrArg V.str z)) c12
    · exact absurd (decide_eq_true (congrArg V.str z)) c13
    · exact absurd (decide_eq_true (congrArg V.str z)) c14
  · rintro σ H' ⟨g, hl, v, rfl⟩
    refine ⟨_, rfl, q l H' g nl ?_⟩
    rw [hl]
    unfold strV
    rw [List.length_map, ← lw, List.take_length]
end
def kn1 : List (Str × Value) := [("InvalidNumber", .ref 44), ("InvalidFraction", .ref 63), ("InvalidOrder", .ref 82), ("OrderTooLow", .ref 101), ("UnlikeOrders", .ref 120), ("InvalidPlace", .ref 139), ("InvalidPower", .ref 158), ("InvalidTimes", .ref 177), ("InvalidText", .ref 196), ("InvalidTable", .ref 215), ("CantTurn", .ref 234), ("NotSlow", .ref 253), ("NotOne", .ref 291), ("NotUnit", .ref 310), ("NotATable", .ref 329), ("DividedByZero", .ref 874), ("IsStill", .ref 272), ("NotAFlow", .ref 348), ("InvalidFlat", .ref 367), ("NotAClock", .ref 386), ("UnlikeFlats", .ref 405), ("NotAlike", .ref 424), ("InvalidLead", .ref 443), ("InvalidTime", .ref 462), ("InvalidTop", .ref 481), ("NotInFamily", .ref 500), ("NoFlips", .ref 519), ("NotFolded", .ref 538), ("InvalidFar", .ref 557), ("NotFar", .ref 576)]
def kn2 : List (Str × Value) := [("NotLed", .ref 595), ("NotInCrew", .ref 614), ("InCrew", .ref 633), ("InvalidName", .ref 652), ("InvalidNames", .ref 671), ("InvalidWord", .ref 690), ("SameName", .ref 709), ("NotOpen", .ref 728), ("InvalidStep", .ref 747), ("InvalidPaper", .ref 766), ("InvalidDeed", .ref 785), ("InvalidLine", .ref 804), ("TooMany", .ref 823), ("Solved", .ref 842), ("Tied", .ref 893), ("NotSquare", .ref 912), ("UnknownName", .ref 944), ("UnknownStep", .ref 963), ("NothingLeft", .ref 982), ("CreepError", .ref (obA 0)), ("NoAnswer", .ref (obA 1)), ("Missing", .ref (obA 2)), ("ValueError", .type "ValueError"), ("ArithmeticError", .type "ArithmeticError"), ("ZeroDivisionError", .type "ZeroDivisionError"), ("LookupError", .type "LookupError"), ("IndexError", .type "IndexError"), ("KeyError", .type "KeyError")]
theorem rel_ref (a : Addr) : RelV (.ref a) (.ref a) := rfl
def asks (d : CD) (l : List (Str × Value)) : List (Str × Bool) := l.map fun p => (p.1, (mroT d).contains p.2)
def yesN (l : List (Str × Bool)) : List Str := (l.filter (·.2)).map (·.1)
theorem kinds_due : ∀ d ∈ cdT, yesN (asks d kn1) ++ yesN (asks d kn2) = dueT d := by decide +kernel
def spKinds (l : List (Str × Value)) : Sp := fun vs H Q _ => ∃ (d : CD) (x : Addr) (ws : List V), d ∈ cdT ∧ vs = [.ref x] ∧ Err H x d ws ∧ ∀ r H', Same H H' → H r = none → H' r = some (.lst (strV (yesN (asks d l)))) → Q (.ref r) H'
/-- the pairs laid so far -/
def Ks (H0 : Hp) (x l : Addr) (L : List (Str × Bool)) (H : Hp) : Prop := Same H0 H ∧ ∃ ps : List V, H l = some (.lst ps) ∧ Paired (fun v (q : Str × Bool) => ∃ p, v = .ref p ∧ H p = some (.tup [.str q.1, .bl q.2])) ps L
section
variable {P : Program} {w : World} {K : PySem.W.Frag} {mg : Str → Option Value} {base : Heap} {f : Addr} {fd : FuncData}
theorem ks_step {H0 H : Hp} {x l : Addr} {d : CD} {ws : List V} {L : List (Str × Bool)} {nm : Str} {cv : V} {u : Value} {b : Bool} {D : Ends} {v : Option V} (T : XC K d.C) (he : Err H0 x d ws) (hl : H0 l = none) (h : Ks H0 x l L H) (len : L.length ≤ 100) (hc : ClsV cv u) (kit : PySem.W.kitOne K (.ref d.C) u = some b) :
    tDrop (tBM K "list" rAppend (tVar 1) (tCons (tTup (tCons (tC (.str nm)) (tCons (tCB (rXis K) (tCons (tVar 0) (tCons (tC cv) tNil))) tNil))) tNil)) { D with nx := fun σ' H' => σ' = [some (.ref x), some (.ref l), v] ∧ Ks H0 x l (L ++ [(nm, b)]) H' } [some (.ref x), some (.ref l), v] H := by
  obtain ⟨g, ps, h1, pr⟩ := h
  obtain ⟨e, e1, e2, _⟩ := he
  refine ⟨_, rfl, .inl ⟨rfl, _, SqL.of h1⟩, _, rfl, x, d.C, e, _, cv, u, b, rfl, T, g _ _ e1, g _ _ e2, hc, kit, (by show 2 ≤ sizeLine; decide), fun p np => ?_⟩
  have n1 : l ≠ p := ne_of_none h1 np
  have h2 : (upd H p (.tup [.str nm, .bl b])) l = some (.lst ps) := by rw [upd_ne n1]; exact h1
  refine ⟨l, ps, .ref p, rfl, rfl, h2, ?_, rfl, fun c o z => ?_, ps ++ [.ref p], upd_same, ?_⟩
  · have := pr.length
    exact small1000 (by omega)
  · rw [upd_ne (ne_of_none z hl), upd_ne (ne_of_none (g _ _ z) np)]
    exact g _ _ z
  · refine Paired.snoc (L2.Paired.mapP pr fun v q z => ?_) ⟨p, rfl, ?_⟩
    · obtain ⟨a, rfl, ha⟩ := z
      refine ⟨a, rfl, ?_⟩
      rw [upd_ne (fun y => by rw [y, h1] at ha; cases ha), upd_ne (ne_of_none ha np)]
      exact ha
    · rw [upd_ne (Ne.symm n1), upd_same]
end
end Kz
end
section
set_option maxHeartbeats 4000000
namespace Kz
open PySem PySem.Spec PyProof.Rows L2
section
variable {P : Program} {w : World} {K : PySem.W.Frag} {mg : Str → Option Value} {base : Heap} {f : Addr} {fd : FuncData}
theorem scKinds : FnScope ["_law_error", "_law_some", "_law_pair"] ["_law_error"] (defScope (top 63)) := ⟨rfl, rfl, rfl, by decide +kernel, rfl, by decide +kernel, by decide +kernel⟩
theorem ok_law_kinds (F : Fun K "_law_kinds" "_law_kinds" (top 63) f fd) (c : SaysP K) (mI : mg "isinstance" = none) (hM : ∀ d ∈ cdT, mg d.nm = some (.ref d.C)) (mO : mg "CreepError" = some (.ref (obA 0)) ∧ mg "NoAnswer" = some (.ref (obA 1)) ∧ mg "Missing" = some (.ref (obA 2))) (mF : ∀ x ∈ freeN, mg x = none) :
    FnOk P w K mg base CX0 1 f fd ["_law_error"] (spKinds kn1) := by
  refine F.ok scKinds (fun vs H Q E h => ?_) (fun cdv A outer s H vs Q E hr h => ?_)
  · obtain ⟨d, x, ws, _, rfl, _⟩ := h
    rfl
  obtain ⟨d, x, ws, hd, rfl, he, q⟩ := h
  have T := xc_of c hd
  refine ⟨_, pss_cons (ps_set (i := 1) scKinds.nd rfl (Or.inl rfl) (pe_lst pa_nil))
    (C8.pss_cut (ps_expr (pe_bm PySem.F.plainAttrs_list PySem.F.slot_list_append PySem.F.type_list_append mt_append (pv 1) (pa_cons (pe_tup (pa_cons pe_str (pa_cons (pe_callB call_xis rfl mI (by decide +kernel) (pa_cons (pv 0) (pa_cons (pe_glob rfl (hM c_InvalidNumber in_InvalidNumber) (rel_ref _)) pa_nil))) pa_nil))) pa_nil)))
    (C8.pss_cut (ps_expr (pe_bm PySem.F.plainAttrs_list PySem.F.slot_list_append PySem.F.type_list_append mt_append (pv 1) (pa_cons (pe_tup (pa_cons pe_str (pa_cons (pe_callB call_xis rfl mI (by decide +kernel) (pa_cons (pv 0) (pa_cons (pe_glob rfl (hM c_InvalidFraction in_InvalidFraction) (rel_ref _)) pa_nil))) pa_nil))) pa_nil)))
    (C8.pss_cut (ps_expr (pe_bm PySem.F.plainAttrs_list PySem.F.slot_list_append PySem.F.type_list_append mt_append (pv 1) (pa_cons (pe_tup (pa_cons pe_str (pa_cons (pe_callB call_xis rfl mI (by decide +kernel) (pa_cons (pv 0) (pa_cons (pe_glob rfl (hM c_InvalidOrder in_InvalidOrder) (rel_ref _)) pa_nil))) pa_nil))) pa_nil)))
    (C8.pss_cut (ps_expr (pe_bm PySem.F.plainAttrs_list PySem.F.slot_list_append PySem.F.type_list_append mt_append (pv 1) (pa_cons (pe_tup (pa_cons pe_str (pa_cons (pe_callB call_xis rfl mI (by decide +kernel) (pa_cons (pv 0) (pa_cons (pe_glob rfl (hM c_OrderTooLow in_OrderTooLow) (rel_ref _)) pa_nil))) pa_nil))) pa_nil)))
    (C8.pss_cut (ps_expr (pe_bm PySem.F.plainAttrs_list PySem.F.slot_list_append PySem.F.type_list_append mt_append (pv 1) (pa_cons (pe_tup (pa_cons pe_str (pa_cons (pe_callB call_xis rfl mI (by decide +kernel) (pa_cons (pv 0) (pa_cons (pe_glob rfl (hM c_UnlikeOrders in_UnlikeOrders) (rel_ref _)) pa_nil))) pa_nil))) pa_nil)))
    (C8.pss_cut (ps_expr (pe_bm PySem.F.plainAttrs_list PySem.F.slot_list_append PySem.F.type_list_append mt_append (pv 1) (pa_cons (pe_tup (pa_cons pe_str (pa_cons (pe_callB call_xis rfl mI (by decide +kernel) (pa_cons (pv 0) (pa_cons (pe_glob rfl (hM c_InvalidPlace in_InvalidPlace) (rel_ref _)) pa_nil))) pa_nil))) pa_nil)))
    (C8.pss_cut (ps_expr (pe_bm PySem.F.plainAttrs_list PySem.F.slot_list_append PySem.F.type_list_append mt_append (pv 1) (pa_cons (pe_tup (pa_cons pe_str (pa_cons (pe_callB call_xis rfl mI (by decide +kernel) (pa_cons (pv 0) (pa_cons (pe_glob rfl (hM c_InvalidPower in_InvalidPower) (rel_ref _)) pa_nil))) pa_nil))) pa_nil)))
    (C8.pss_cut (ps_expr (pe_bm PySem.F.plainAttrs_list PySem.F.slot_list_append PySem.F.type_list_append mt_append (pv 1) (pa_cons (pe_tup (pa_cons pe_str (pa_cons (pe_callB call_xis rfl mI (by decide +kernel) (pa_cons (pv 0) (pa_cons (pe_glob rfl (hM c_InvalidTimes in_InvalidTimes) (rel_ref _)) pa_nil))) pa_nil))) pa_nil)))
    (C8.pss_cut (ps_expr (pe_bm PySem.F.plainAttrs_list PySem.F.slot_list_append PySem.F.type_list_append mt_append (pv 1) (pa_cons (pe_tup (pa_cons pe_str (pa_cons (pe_callB call_xis rfl mI (by decide +kernel) (pa_cons (pv 0) (pa_cons (pe_glob rfl (hM c_InvalidText in_InvalidText) (rel_ref _)) pa_nil))) pa_nil))) pa_nil)))
    (C8.pss_cut (ps_expr (pe_bm PySem.F.plainAttrs_list PySem.F.slot_list_append PySem.F.type_list_append mt_append (pv 1) (pa_cons (pe_tup (pa_cons pe_str (pa_cons (pe_callB call_xis rfl mI (by decide +kernel) (pa_cons (pv 0) (pa_cons (pe_glob rfl (hM c_InvalidTable in_InvalidTable) (rel_ref _)) pa_nil))) pa_nil))) pa_nil)))
    (C8.pss_cut (ps_expr (pe_bm PySem.F.plainAttrs_list PySem.F.slot_list_append PySem.F.type_list_append mt_append (pv 1) (pa_cons (pe_tup (pa_cons pe_str (pa_cons (pe_callB call_xis rfl mI (by decide +kernel) (pa_cons (pv 0) (pa_cons (pe_glob rfl (hM c_CantTurn in_CantTurn) (rel_ref _)) pa_nil))) pa_nil))) pa_nil)))
    (C8.pss_cut (ps_expr (pe_bm PySem.F.plainAttrs_list PySem.F.slot_list_append PySem.F.type_list_append mt_append (pv 1) (pa_cons (pe_tup (pa_cons pe_str (pa_cons (pe_callB call_xis rfl mI (by decide +kernel) (pa_cons (pv 0) (pa_cons (pe_glob rfl (hM c_NotSlow in_NotSlow) (rel_ref _)) pa_nil))) pa_nil))) pa_nil)))
    (C8.pss_cut (ps_expr (pe_bm PySem.F.plainAttrs_list PySem.F.slot_list_append PySem.F.type_list_append mt_append (pv 1) (pa_cons (pe_tup (pa_cons pe_str (pa_cons (pe_callB call_xis rfl mI (by decide +kernel) (pa_cons (pv 0) (pa_cons (pe_glob rfl (hM c_NotOne in_NotOne) (rel_ref _)) pa_nil))) pa_nil))) pa_nil)))
    (C8.pss_cut (ps_expr (pe_bm PySem.F.plainAttrs_list PySem.F.slot_list_append PySem.F.type_list_append mt_append (pv 1) (pa_cons (pe_tup (pa_cons pe_str (pa_cons (pe_callB call_xis rfl mI (by decide +kernel) (pa_cons (pv 0) (pa_cons (pe_glob rfl (hM c_NotUnit in_NotUnit) (rel_ref _)) pa_nil))) pa_nil))) pa_nil)))
    (C8.pss_cut (ps_expr (pe_bm PySem.F.plainAttrs_list PySem.F.slot_list_append PySem.F.type_list_append mt_append (pv 1) (pa_cons (pe_tup (pa_cons pe_str (pa_cons (pe_callB call_xis rfl mI (by decide +kernel) (pa_cons (pv 0) (pa_cons (pe_glob rfl (hM c_NotATable in_NotATable) (rel_ref _)) pa_nil))) pa_nil))) pa_nil)))
    (C8.pss_cut (ps_expr (pe_bm PySem.F.plainAttrs_list PySem.F.slot_list_append PySem.F.type_list_append mt_append (pv 1) (pa_cons (pe_tup (pa_cons pe_str (pa_cons (pe_callB call_xis rfl mI (by decide +kernel) (pa_cons (pv 0) (pa_cons (pe_glob rfl (hM c_DividedByZero in_DividedByZero) (rel_ref _)) pa_nil))) pa_nil))) pa_nil)))
    (C8.pss_cut (ps_expr (pe_bm PySem.F.plainAttrs_list PySem.F.slot_list_append PySem.F.type_list_append mt_append (pv 1) (pa_cons (pe_tup (pa_cons pe_str (pa_cons (pe_callB call_xis rfl mI (by decide +kernel) (pa_cons (pv 0) (pa_cons (pe_glob rfl (hM c_IsStill in_IsStill) (rel_ref _)) pa_nil))) pa_nil))) pa_nil)))
    (C8.pss_cut (ps_expr (pe_bm PySem.F.plainAttrs_list PySem.F.slot_list_append PySem.F.type_list_append mt_append (pv 1) (pa_cons (pe_tup (pa_cons pe_str (pa_cons (pe_callB call_xis rfl mI (by decide +kernel) (pa_cons (pv 0) (pa_cons (pe_glob rfl (hM c_NotAFlow in_NotAFlow) (rel_ref _)) pa_nil))) pa_nil))) pa_nil)))
    (C8.pss_cut (ps_expr (pe_bm PySem.F.plainAttrs_list PySem.F.slot_list_append PySem.F.type_list_append mt_append (pv 1) (pa_cons (pe_tup (pa_cons pe_str (pa_cons (pe_callB call_xis rfl mI (by decide +kernel) (pa_cons (pv 0) (pa_cons (pe_glob rfl (hM c_InvalidFlat in_InvalidFlat) (rel_ref _)) pa_nil))) pa_nil))) pa_nil)))
    (C8.pss_cut (ps_expr (pe_bm PySem.F.plainAttrs_list PySem.F.slot_list_append PySem.F.type_list_append mt_append (pv 1) (pa_cons (pe_tup (pa_cons pe_str (pa_cons (pe_callB call_xis rfl mI (by decide +kernel) (pa_cons (pv 0) (pa_cons (pe_glob rfl (hM c_NotAClock in_NotAClock) (rel_ref _)) pa_nil))) pa_nil))) pa_nil)))
    (C8.pss_cut (ps_expr (pe_bm PySem.F.plainAttrs_list PySem.F.slot_list_append PySem.F.type_list_append mt_append (pv 1) (pa_cons (pe_tup (pa_cons pe_str (pa_cons (pe_callB call_xis rfl mI (by decide +kernel) (pa_cons (pv 0) (pa_cons (pe_glob rfl (hM c_UnlikeFlats in_UnlikeFlats) (rel_ref _)) pa_nil))) pa_nil))) pa_nil)))
    (C8.pss_cut (ps_expr (pe_bm PySem.F.plainAttrs_list PySem.F.slot_list_append PySem.F.type_list_append mt_append (pv 1) (pa_cons (pe_tup (pa_cons pe_str (pa_cons (pe_callB call_xis rfl mI (by decide +kernel) (pa_cons (pv 0) (pa_cons (pe_glob rfl (hM c_NotAlike in_NotAlike) (rel_ref _)) pa_nil))) pa_nil))) pa_nil)))
    (C8.pss_cut (ps_expr (pe_bm PySem.F.plainAttrs_list PySem.F.slot_list_append PySem.F.type_list_append mt_append (pv 1) (pa_cons (pe_tup (pa_cons pe_str (pa_cons (pe_callB call_xis rfl mI (by decide +kernel) (pa_cons (pv 0) (pa_cons (pe_glob rfl (hM c_InvalidLead in_InvalidLead) (rel_ref _)) pa_nil))) pa_nil))) pa_nil)))
    (C8.pss_cut (ps_expr (pe_bm PySem.F.plainAttrs_list PySem.F.slot_list_append PySem.F.type_list_append mt_append (pv 1) (pa_cons (pe_tup (pa_cons pe_str (pa_cons (pe_callB call_xis rfl mI (by decide +kernel) (pa_cons (pv 0) (pa_cons (pe_glob rfl (hM c_InvalidTime in_InvalidTime) (rel_ref _)) pa_nil))) pa_nil))) pa_nil)))
    (C8.pss_cut (ps_expr (pe_bm PySem.F.plainAttrs_list PySem.F.slot_list_append PySem.F.type_list_append mt_append (pv 1) (pa_cons (pe_tup (pa_cons pe_str (pa_cons (pe_callB call_xis rfl mI (by decide +kernel) (pa_cons (pv 0) (pa_cons (pe_glob rfl (hM c_InvalidTop in_InvalidTop) (rel_ref _)) pa_nil))) pa_nil))) pa_nil)))
    (C8.pss_cut (ps_expr (pe_bm PySem.F.plainAttrs_list PySem.F.slot_list_append PySem.F.type_list_append mt_append (pv 1) (pa_cons (pe_tup (pa_cons pe_str (pa_cons (pe_callB call_xis rfl mI (by decide +kernel) (pa_cons (pv 0) (pa_cons (pe_glob rfl (hM c_NotInFamily in_NotInFamily) (rel_ref _)) pa_nil))) pa_nil))) pa_nil)))
    (C8.pss_cut (ps_expr (pe_bm PySem.F.plainAttrs_list PySem.F.slot_list_append PySem.F.type_list_append mt_append (pv 1) (pa_cons (pe_tup (pa_cons pe_str (pa_cons (pe_callB call_xis rfl mI (by decide +kernel) (pa_cons (pv 0) (pa_cons (pe_glob rfl (hM c_NoFlips in_NoFlips) (rel_ref _)) pa_nil))) pa_nil))) pa_nil)))
    (C8.pss_cut (ps_expr (pe_bm PySem.F.plainAttrs_list PySem.F.slot_list_append PySem.F.type_list_append mt_append (pv 1) (pa_cons (pe_tup (pa_cons pe_str (pa_cons (pe_callB call_xis rfl mI (by decide +kernel) (pa_cons (pv 0) (pa_cons (pe_glob rfl (hM c_NotFolded in_NotFolded) (rel_ref _)) pa_nil))) pa_nil))) pa_nil)))
    (C8.pss_cut (ps_expr (pe_bm PySem.F.plainAttrs_list PySem.F.slot_list_append PySem.F.type_list_append mt_append (pv 1) (pa_cons (pe_tup (pa_cons pe_str (pa_cons (pe_callB call_xis rfl mI (by decide +kernel) (pa_cons (pv 0) (pa_cons (pe_glob rfl (hM c_InvalidFar in_InvalidFar) (rel_ref _)) pa_nil))) pa_nil))) pa_nil)))
    (C8.pss_cut (ps_expr (pe_bm PySem.F.plainAttrs_list PySem.F.slot_list_append PySem.F.type_list_append mt_append (pv 1) (pa_cons (pe_tup (pa_cons pe_str (pa_cons (pe_callB call_xis rfl mI (by decide +kernel) (pa_cons (pv 0) (pa_cons (pe_glob rfl (hM c_NotFar in_NotFar) (rel_ref _)) pa_nil))) pa_nil))) pa_nil)))
    (pss_one (ps_ret (pe_lc (own := [("_law_pair", 2)]) (g := gName 2) (tt := tB (tOp (rIxT K) (tVar 2) (tC (.int 1)))) (te := tOp (rIxT K) (tVar 2) (tC (.int 0))) rfl scKinds.nd (pi_list (pv 1)) (blkOk_by (N := ["_law_error", "_law_some", "_law_pair"]) (sc := defScope (top 63)) (by decide +kernel)) (fun _ _ _ _ _ => pg_name (i := 2) scKinds.nd rfl (Or.inl rfl))
      (fun _ _ _ _ _ => pts_one (pt_val (pe_ix ix_tup (pv 2) pe_int (fun _ _ => rfl)))) (fun _ _ _ _ _ => pe_ix ix_tup (pv 2) pe_int (fun _ _ => rfl))))))))))))))))))))))))))))))))))), ?_⟩
  refine ⟨(by show 0 ≤ sizeLine; decide), fun l nl => ?_⟩
  have h0 : Ks H x l (asks d []) (upd H l (.lst [])) := ⟨new_same nl _, [], upd_same, .nil⟩
  generalize upd H l (.lst []) = H0 at h0 ⊢
  refine ⟨_, ks_step (nm := "InvalidNumber") T he nl h0 (by unfold asks; simp) (.own _) (kit_cd c hd in_InvalidNumber), ?_⟩
  rintro σ' H1 ⟨rfl, hk⟩
  refine ⟨_, ks_step (nm := "InvalidFraction") T he nl hk (by unfold asks; simp) (.own _) (kit_cd c hd in_InvalidFraction), ?_⟩
  rintro σ' H2 ⟨rfl, hk⟩
  refine ⟨_, ks_step (nm := "InvalidOrder") T he nl hk (by unfold asks; simp) (.own _) (kit_cd c hd in_InvalidOrder), ?_⟩
  rintro σ' H3 ⟨rfl, hk⟩
  refine ⟨_, ks_step (nm := "OrderTooLow") T he nl hk (by unfold asks; simp) (.own _) (kit_cd c hd in_OrderTooLow), ?_⟩
  rintro σ' H4 ⟨rfl, hk⟩
  refine ⟨_, ks_step (nm := "UnlikeOrders") T he nl hk (by unfold asks; simp) (.own _) (kit_cd c hd in_UnlikeOrders), ?_⟩
  rintro σ' H5 ⟨rfl, hk⟩
  refine ⟨_, ks_step (nm := "InvalidPlace") T he nl hk (by unfold asks; simp) (.own _) (kit_cd c hd in_InvalidPlace), ?_⟩
  rintro σ' H6 ⟨rfl, hk⟩
  refine ⟨_, ks_step (nm := "InvalidPower") T he nl hk (by unfold asks; simp) (.own _) (kit_cd c hd in_InvalidPower), ?_⟩
  rintro σ' H7 ⟨rfl, hk⟩
  refine ⟨_, ks_step (nm := "InvalidTimes") T he nl hk (by unfold asks; simp) (.own _) (kit_cd c hd in_InvalidTimes), ?_⟩
  rintro σ' H8 ⟨rfl, hk⟩
  refine ⟨_, ks_step (nm := "InvalidText") T he nl hk (by unfold asks; simp) (.own _) (kit_cd c hd in_InvalidText), ?_⟩
  rintro σ' H9 ⟨rfl, hk⟩
  refine ⟨_, ks_step (nm := "InvalidTable") T he nl hk (by unfold asks; simp) (.own _) (kit_cd c hd in_InvalidTable), ?_⟩
  rintro σ' H10 ⟨rfl, hk⟩
  refine ⟨_, ks_step (nm := "CantTurn") T he nl hk (by unfold asks; simp) (.own _) (kit_cd c hd in_CantTurn), ?_⟩
  rintro σ' H11 ⟨rfl, hk⟩
  refine ⟨_, ks_step (nm := "NotSlow") T he nl hk (by unfold asks; simp) (.own _) (kit_cd c hd in_NotSlow), ?_⟩
  rintro σ' H12 ⟨rfl, hk⟩
  refine ⟨_, ks_step (nm := "NotOne") T he nl hk (by unfold asks; simp) (.own _) (kit_cd c hd in_NotOne), ?_⟩
  rintro σ' H13 ⟨rfl, hk⟩
  refine ⟨_, ks_step (nm := "NotUnit") T he nl hk (by unfold asks; simp) (.own _) (kit_cd c hd in_NotUnit), ?_⟩
  rintro σ' H14 ⟨rfl, hk⟩
  refine ⟨_, ks_step (nm := "NotATable") T he nl hk (by unfold asks; simp) (.own _) (kit_cd c hd in_NotATable), ?_⟩
  rintro σ' H15 ⟨rfl, hk⟩
  refine ⟨_, ks_step (nm := "DividedByZero") T he nl hk (by unfold asks; simp) (.own _) (kit_cd c hd in_DividedByZero), ?_⟩
  rintro σ' H16 ⟨rfl, hk⟩
  refine ⟨_, ks_step (nm := "IsStill") T he nl hk (by unfold asks; simp) (.own _) (kit_cd c hd in_IsStill), ?_⟩
  rintro σ' H17 ⟨rfl, hk⟩
  refine ⟨_, ks_step (nm := "NotAFlow") T he nl hk (by unfold asks; simp) (.own _) (kit_cd c hd in_NotAFlow), ?_⟩
  rintro σ' H18 ⟨rfl, hk⟩
  refine ⟨_, ks_step (nm := "InvalidFlat") T he nl hk (by unfold asks; simp) (.own _) (kit_cd c hd in_InvalidFlat), ?_⟩
  rintro σ' H19 ⟨rfl, hk⟩
  refine ⟨_, ks_step (nm := "NotAClock") T he nl hk (by unfold asks; simp) (.own _) (kit_cd c hd in_NotAClock), ?_⟩
  rintro σ' H20 ⟨rfl, hk⟩
  refine ⟨_, ks_step (nm := "UnlikeFlats") T he nl hk (by unfold asks; simp) (.own _) (kit_cd c hd in_UnlikeFlats), ?_⟩
  rintro σ' H21 ⟨rfl, hk⟩
  refine ⟨_, ks_step (nm := "NotAlike") T he nl hk (by unfold asks; simp) (.own _) (kit_cd c hd in_NotAlike), ?_⟩
  rintro σ' H22 ⟨rfl, hk⟩
  refine ⟨_, ks_step (nm := "InvalidLead") T he nl hk (by unfold asks; simp) (.own _) (kit_cd c hd in_InvalidLead), ?_⟩
  rintro σ' H23 ⟨rfl, hk⟩
  refine ⟨_, ks_step (nm := "InvalidTime") T he nl hk (by unfold asks; simp) (.own _) (kit_cd c hd in_InvalidTime), ?_⟩
  rintro σ' H24 ⟨rfl, hk⟩
  refine ⟨_, ks_step (nm := "InvalidTop") T he nl hk (by unfold asks; simp) (.own _) (kit_cd c hd in_InvalidTop), ?_⟩
  rintro σ' H25 ⟨rfl, hk⟩
  refine ⟨_, ks_step (nm := "NotInFamily") T he nl hk (by unfold asks; simp) (.own _) (kit_cd c hd in_NotInFamily), ?_⟩
  rintro σ' H26 ⟨rfl, hk⟩
  refine ⟨_, ks_step (nm := "NoFlips") T he nl hk (by unfold asks; simp) (.own _) (kit_cd c hd in_NoFlips), ?_⟩
  rintro σ' H27 ⟨rfl, hk⟩
  refine ⟨_, ks_step (nm := "NotFolded") T he nl hk (by unfold asks; simp) (.own _) (kit_cd c hd in_NotFolded), ?_⟩
  rintro σ' H28 ⟨rfl, hk⟩
  refine ⟨_, ks_step (nm := "InvalidFar") T he nl hk (by unfold asks; simp) (.own _) (kit_cd c hd in_InvalidFar), ?_⟩
  rintro σ' H29 ⟨rfl, hk⟩
  refine ⟨_, ks_step (nm := "NotFar") T he nl hk (by unfold asks; simp) (.own _) (kit_cd c hd in_NotFar), ?_⟩
  rintro σ' H30 ⟨rfl, hk⟩
  replace hk : Ks H x l (asks d kn1) H30 := by
    simp only [asks, List.map_nil, List.nil_append, List.cons_append] at hk
    simp only [asks, kn1, List.map_cons, List.map_nil]
    exact hk
  have l100 : (asks d kn1).length ≤ 100 := by unfold asks; rw [List.length_map]; decide
  generalize asks d kn1 = LL at hk q l100
  obtain ⟨g, ps, hl, pr⟩ := hk
  have lps := pr.length
  refine ⟨_, rfl, l, rfl, ⟨ps, SqL.of hl⟩, fun D nD => ?_⟩
  refine lc_list (K := K) (a := l) (xs := ps) (fun i H' => Same H30 H' ∧ H' D = some (.lst (strV (yesN (LL.take i))))) ⟨new_same nD _, upd_same⟩ (fun i H' _ h => SqL.of (h.1 _ _ hl)) ?_ ?_
  · rintro i y H' hy ⟨g', hD⟩
    obtain ⟨⟨nm, b⟩, h1, p, rfl, hp⟩ := Pr_get pr hy
    have hp' := g' _ _ hp
    have sz : (strV (yesN (LL.take i))).length < sizeLine := by
      refine small1000 ?_
      unfold strV yesN
      rw [List.length_map, List.length_map]
      refine Nat.le_trans (List.length_filter_le _ _) ?_
      rw [List.length_take]
      omega
    refine ⟨rfl, _, rfl, p, _, 1, _, rfl, rfl, SqT.of hp', rfl, b, rfl, ?_⟩
    cases b with
    | true =>
      refine ⟨_, rfl, p, _, 0, _, rfl, rfl, SqT.of hp', rfl, _, hD, sz, fun c o z => by rw [upd_ne (ne_of_none z nD)]; exact g' _ _ z, ?_⟩
      rw [upd_same, List.take_add_one, h1]
      unfold strV yesN
      rw [List.filter_append, List.map_append, List.map_append]
      rfl
    | false =>
      refine ⟨g', ?_⟩
      rw [hD, List.take_add_one, h1]
      unfold strV yesN
      rw [List.filter_append, List.map_append, List.map_append]
      simp
  · rintro H' ⟨g', hD⟩
    refine q D H' (g.trans g') (g.free nD) ?_
    rw [hD, lps, List.take_length]
end
end Kz
end
section
set_option maxHeartbeats 4000000
namespace Kz
open PySem PySem.Spec PyProof.Rows L2
section
variable {P : Program} {w : World} {K : PySem.W.Frag} {mg : Str → Option Value} {base : Heap} {f : Addr} {fd : FuncData}
theorem scKindsToo : FnScope ["_law_error", "_law_some", "_law_pair"] ["_law_error"] (defScope (top 64)) := ⟨rfl, rfl, rfl, by decide +kernel, rfl, by decide +kernel, by decide +kernel⟩
theorem ok_law_kinds_too (F : Fun K "_law_kinds_too" "_law_kinds_too" (top 64) f fd) (c : SaysP K) (mI : mg "isinstance" = none) (hM : ∀ d ∈ cdT, mg d.nm = some (.ref d.C)) (mO : mg "CreepError" = some (.ref (obA 0)) ∧ mg "NoAnswer" = some (.ref (obA 1)) ∧ mg "Missing" = some (.ref (obA 2))) (mF : ∀ x ∈ freeN, mg x = none) :
    FnOk P w K mg base CX0 1 f fd ["_law_error"] (spKinds kn2) := by
  refine F.ok scKindsToo (fun vs H Q E h => ?_) (fun cdv A outer s H vs Q E hr h => ?_)
  · obtain ⟨d, x, ws, _, rfl, _⟩ := h
    rfl
  obtain ⟨d, x, ws, hd, rfl, he, q⟩ := h
  have T := xc_of c hd
  refine ⟨_, pss_cons (ps_set (i := 1) scKindsToo.nd rfl (Or.inl rfl) (pe_lst pa_nil))
    (C8.pss_cut (ps_expr (pe_bm PySem.F.plainAttrs_list PySem.F.slot_list_append PySem.F.type_list_append mt_append (pv 1) (pa_cons (pe_tup (pa_cons pe_str (pa_cons (pe_callB call_xis rfl mI (by decide +kernel) (pa_cons (pv 0) (pa_cons (pe_glob rfl (hM c_NotLed in_NotLed) (rel_ref _)) pa_nil))) pa_nil))) pa_nil)))
    (C8.pss_cut (ps_expr (pe_bm PySem.F.plainAttrs_list PySem.F.slot_list_append PySem.F.type_list_append mt_append (pv 1) (pa_cons (pe_tup (pa_cons pe_str (pa_cons (pe_callB call_xis rfl mI (by decide +kernel) (pa_cons (pv 0) (pa_cons (pe_glob rfl (hM c_NotInCrew in_NotInCrew) (rel_ref _)) pa_nil))) pa_nil))) pa_nil)))
    (C8.pss_cut (ps_expr (pe_bm PySem.F.plainAttrs_list PySem.F.slot_list_append PySem.F.type_list_append mt_append (pv 1) (pa_cons (pe_tup (pa_cons pe_str (pa_cons (pe_callB call_xis rfl mI (by decide +kernel) (pa_cons (pv 0) (pa_cons (pe_glob rfl (hM c_InCrew in_InCrew) (rel_ref _)) pa_nil))) pa_nil))) pa_nil)))
    (C8.pss_cut (ps_expr (pe_bm PySem.F.plainAttrs_list PySem.F.slot_list_append PySem.F.type_list_append mt_append (pv 1) (pa_cons (pe_tup (pa_cons pe_str (pa_cons (pe_callB call_xis rfl mI (by decide +kernel) (pa_cons (pv 0) (pa_cons (pe_glob rfl (hM c_InvalidName in_InvalidName) (rel_ref _)) pa_nil))) pa_nil))) pa_nil)))
    (C8.pss_cut (ps_expr (pe_bm PySem.F.plainAttrs_list PySem.F.slot_list_append PySem.F.type_list_append mt_append (pv 1) (pa_cons (pe_tup (pa_cons pe_str (pa_cons (pe_callB call_xis rfl mI (by decide +kernel) (pa_cons (pv 0) (pa_cons (pe_glob rfl (hM c_InvalidNames in_InvalidNames) (rel_ref _)) pa_nil))) pa_nil))) pa_nil)))
    (C8.pss_cut (ps_expr (pe_bm PySem.F.plainAttrs_list PySem.F.slot_list_append PySem.F.type_list_append mt_append (pv 1) (pa_cons (pe_tup (pa_cons pe_str (pa_cons (pe_callB call_xis rfl mI (by decide +kernel) (pa_cons (pv 0) (pa_cons (pe_glob rfl (hM c_InvalidWord in_InvalidWord) (rel_ref _)) pa_nil))) pa_nil))) pa_nil)))
    (C8.pss_cut (ps_expr (pe_bm PySem.F.plainAttrs_list PySem.F.slot_list_append PySem.F.type_list_append mt_append (pv 1) (pa_cons (pe_tup (pa_cons pe_str (pa_cons (pe_callB call_xis rfl mI (by decide +kernel) (pa_cons (pv 0) (pa_cons (pe_glob rfl (hM c_SameName in_SameName) (rel_ref _)) pa_nil))) pa_nil))) pa_nil)))
    (C8.pss_cut (ps_expr (pe_bm PySem.F.plainAttrs_list PySem.F.slot_list_append PySem.F.type_list_append mt_append (pv 1) (pa_cons (pe_tup (pa_cons pe_str (pa_cons (pe_callB call_xis rfl mI (by decide +kernel) (pa_cons (pv 0) (pa_cons (pe_glob rfl (hM c_NotOpen in_NotOpen) (rel_ref _)) pa_nil))) pa_nil))) pa_nil)))
    (C8.pss_cut (ps_expr (pe_bm PySem.F.plainAttrs_list PySem.F.slot_list_append PySem.F.type_list_append mt_append (pv 1) (pa_cons (pe_tup (pa_cons pe_str (pa_cons (pe_callB call_xis rfl mI (by decide +kernel) (pa_cons (pv 0) (pa_cons (pe_glob rfl (hM c_InvalidStep in_InvalidStep) (rel_ref _)) pa_nil))) pa_nil))) pa_nil)))
    (C8.pss_cut (ps_expr (pe_bm PySem.F.plainAttrs_list PySem.F.slot_list_append PySem.F.type_list_append mt_append (pv 1) (pa_cons (pe_tup (pa_cons pe_str (pa_cons (pe_callB call_xis rfl mI (by decide +kernel) (pa_cons (pv 0) (pa_cons (pe_glob rfl (hM c_InvalidPaper in_InvalidPaper) (rel_ref _)) pa_nil))) pa_nil))) pa_nil)))
    (C8.pss_cut (ps_expr (pe_bm PySem.F.plainAttrs_list PySem.F.slot_list_append PySem.F.type_list_append mt_append (pv 1) (pa_cons (pe_tup (pa_cons pe_str (pa_cons (pe_callB call_xis rfl mI (by decide +kernel) (pa_cons (pv 0) (pa_cons (pe_glob rfl (hM c_InvalidDeed in_InvalidDeed) (rel_ref _)) pa_nil))) pa_nil))) pa_nil)))
    (C8.pss_cut (ps_expr (pe_bm PySem.F.plainAttrs_list PySem.F.slot_list_append PySem.F.type_list_append mt_append (pv 1) (pa_cons (pe_tup (pa_cons pe_str (pa_cons (pe_callB call_xis rfl mI (by decide +kernel) (pa_cons (pv 0) (pa_cons (pe_glob rfl (hM c_InvalidLine in_InvalidLine) (rel_ref _)) pa_nil))) pa_nil))) pa_nil)))
    (C8.pss_cut (ps_expr (pe_bm PySem.F.plainAttrs_list PySem.F.slot_list_append PySem.F.type_list_append mt_append (pv 1) (pa_cons (pe_tup (pa_cons pe_str (pa_cons (pe_callB call_xis rfl mI (by decide +kernel) (pa_cons (pv 0) (pa_cons (pe_glob rfl (hM c_TooMany in_TooMany) (rel_ref _)) pa_nil))) pa_nil))) pa_nil)))
    (C8.pss_cut (ps_expr (pe_bm PySem.F.plainAttrs_list PySem.F.slot_list_append PySem.F.type_list_append mt_append (pv 1) (pa_cons (pe_tup (pa_cons pe_str (pa_cons (pe_callB call_xis rfl mI (by decide +kernel) (pa_cons (pv 0) (pa_cons (pe_glob rfl (hM c_Solved in_Solved) (rel_ref _)) pa_nil))) pa_nil))) pa_nil)))
    (C8.pss_cut (ps_expr (pe_bm PySem.F.plainAttrs_list PySem.F.slot_list_append PySem.F.type_list_append mt_append (pv 1) (pa_cons (pe_tup (pa_cons pe_str (pa_cons (pe_callB call_xis rfl mI (by decide +kernel) (pa_cons (pv 0) (pa_cons (pe_glob rfl (hM c_Tied in_Tied) (rel_ref _)) pa_nil))) pa_nil))) pa_nil)))
    (C8.pss_cut (ps_expr (pe_bm PySem.F.plainAttrs_list PySem.F.slot_list_append PySem.F.type_list_append mt_append (pv 1) (pa_cons (pe_tup (pa_cons pe_str (pa_cons (pe_callB call_xis rfl mI (by decide +kernel) (pa_cons (pv 0) (pa_cons (pe_glob rfl (hM c_NotSquare in_NotSquare) (rel_ref _)) pa_nil))) pa_nil))) pa_nil)))
    (C8.pss_cut (ps_expr (pe_bm PySem.F.plainAttrs_list PySem.F.slot_list_append PySem.F.type_list_append mt_append (pv 1) (pa_cons (pe_tup (pa_cons pe_str (pa_cons (pe_callB call_xis rfl mI (by decide +kernel) (pa_cons (pv 0) (pa_cons (pe_glob rfl (hM c_UnknownName in_UnknownName) (rel_ref _)) pa_nil))) pa_nil))) pa_nil)))
    (C8.pss_cut (ps_expr (pe_bm PySem.F.plainAttrs_list PySem.F.slot_list_append PySem.F.type_list_append mt_append (pv 1) (pa_cons (pe_tup (pa_cons pe_str (pa_cons (pe_callB call_xis rfl mI (by decide +kernel) (pa_cons (pv 0) (pa_cons (pe_glob rfl (hM c_UnknownStep in_UnknownStep) (rel_ref _)) pa_nil))) pa_nil))) pa_nil)))
    (C8.pss_cut (ps_expr (pe_bm PySem.F.plainAttrs_list PySem.F.slot_list_append PySem.F.type_list_append mt_append (pv 1) (pa_cons (pe_tup (pa_cons pe_str (pa_cons (pe_callB call_xis rfl mI (by decide +kernel) (pa_cons (pv 0) (pa_cons (pe_glob rfl (hM c_NothingLeft in_NothingLeft) (rel_ref _)) pa_nil))) pa_nil))) pa_nil)))
    (C8.pss_cut (ps_expr (pe_bm PySem.F.plainAttrs_list PySem.F.slot_list_append PySem.F.type_list_append mt_append (pv 1) (pa_cons (pe_tup (pa_cons pe_str (pa_cons (pe_callB call_xis rfl mI (by decide +kernel) (pa_cons (pv 0) (pa_cons (pe_glob rfl mO.1 (rel_ref _)) pa_nil))) pa_nil))) pa_nil)))
    (C8.pss_cut (ps_expr (pe_bm PySem.F.plainAttrs_list PySem.F.slot_list_append PySem.F.type_list_append mt_append (pv 1) (pa_cons (pe_tup (pa_cons pe_str (pa_cons (pe_callB call_xis rfl mI (by decide +kernel) (pa_cons (pv 0) (pa_cons (pe_glob rfl mO.2.1 (rel_ref _)) pa_nil))) pa_nil))) pa_nil)))
    (C8.pss_cut (ps_expr (pe_bm PySem.F.plainAttrs_list PySem.F.slot_list_append PySem.F.type_list_append mt_append (pv 1) (pa_cons (pe_tup (pa_cons pe_str (pa_cons (pe_callB call_xis rfl mI (by decide +kernel) (pa_cons (pv 0) (pa_cons (pe_glob rfl mO.2.2 (rel_ref _)) pa_nil))) pa_nil))) pa_nil)))
    (C8.pss_cut (ps_expr (pe_bm PySem.F.plainAttrs_list PySem.F.slot_list_append PySem.F.type_list_append mt_append (pv 1) (pa_cons (pe_tup (pa_cons pe_str (pa_cons (pe_callB call_xis rfl mI (by decide +kernel) (pa_cons (pv 0) (pa_cons (pe_bltn rfl (mF "ValueError" (by decide +kernel)) (by decide +kernel) (rel_ty "ValueError")) pa_nil))) pa_nil))) pa_nil)))
    (C8.pss_cut (ps_expr (pe_bm PySem.F.plainAttrs_list PySem.F.slot_list_append PySem.F.type_list_append mt_append (pv 1) (pa_cons (pe_tup (pa_cons pe_str (pa_cons (pe_callB call_xis rfl mI (by decide +kernel) (pa_cons (pv 0) (pa_cons (pe_bltn rfl (mF "ArithmeticError" (by decide +kernel)) (by decide +kernel) (rel_ty "ArithmeticError")) pa_nil))) pa_nil))) pa_nil)))
    (C8.pss_cut (ps_expr (pe_bm PySem.F.plainAttrs_list PySem.F.slot_list_append PySem.F.type_list_append mt_append (pv 1) (pa_cons (pe_tup (pa_cons pe_str (pa_cons (pe_callB call_xis rfl mI (by decide +kernel) (pa_cons (pv 0) (pa_cons (pe_bltn rfl (mF "ZeroDivisionError" (by decide +kernel)) (by decide +kernel) (rel_ty "ZeroDivisionError")) pa_nil))) pa_nil))) pa_nil)))
    (C8.pss_cut (ps_expr (pe_bm PySem.F.plainAttrs_list PySem.F.slot_list_append PySem.F.type_list_append mt_append (pv 1) (pa_cons (pe_tup (pa_cons pe_str (pa_cons (pe_callB call_xis rfl mI (by decide +kernel) (pa_cons (pv 0) (pa_cons (pe_bltn rfl (mF "LookupError" (by decide +kernel)) (by decide +kernel) (rel_ty "LookupError")) pa_nil))) pa_nil))) pa_nil)))
    (C8.pss_cut (ps_expr (pe_bm PySem.F.plainAttrs_list PySem.F.slot_list_append PySem.F.type_list_append mt_append (pv 1) (pa_cons (pe_tup (pa_cons pe_str (pa_cons (pe_callB call_xis rfl mI (by decide +kernel) (pa_cons (pv 0) (pa_cons (pe_bltn rfl (mF "IndexError" (by decide +kernel)) (by decide +kernel) (rel_ty "IndexError")) pa_nil))) pa_nil))) pa_nil)))
    (C8.pss_cut (ps_expr (pe_bm PySem.F.plainAttrs_list PySem.F.slot_list_append PySem.F.type_list_append mt_append (pv 1) (pa_cons (pe_tup (pa_cons pe_str (pa_cons (pe_callB call_xis rfl mI (by decide +kernel) (pa_cons (pv 0) (pa_cons (pe_bltn rfl (mF "KeyError" (by decide +kernel)) (by decide +kernel) (rel_ty "KeyError")) pa_nil))) pa_nil))) pa_nil)))
    (pss_one (ps_ret (pe_lc (own := [("_law_pair", 2)]) (g := gName 2) (tt := tB (tOp (rIxT K) (tVar 2) (tC (.int 1)))) (te := tOp (rIxT K) (tVar 2) (tC (.int 0))) rfl scKindsToo.nd (pi_list (pv 1)) (blkOk_by (N := ["_law_error", "_law_some", "_law_pair"]) (sc := defScope (top 64)) (by decide +kernel)) (fun _ _ _ _ _ => pg_name (i := 2) scKindsToo.nd rfl (Or.inl rfl))
      (fun _ _ _ _ _ => pts_one (pt_val (pe_ix ix_tup (pv 2) pe_int (fun _ _ => rfl)))) (fun _ _ _ _ _ => pe_ix ix_tup (pv 2) pe_int (fun _ _ => rfl))))))))))))))))))))))))))))))))), ?_⟩
  refine ⟨(by show 0 ≤ sizeLine; decide), fun l nl => ?_⟩
  have h0 : Ks H x l (asks d []) (upd H l (.lst [])) := ⟨new_same nl _, [], upd_same, .nil⟩
  generalize upd H l (.lst []) = H0 at h0 ⊢
  refine ⟨_, ks_step (nm := "NotLed") T he nl h0 (by unfold asks; simp) (.own _) (kit_cd c hd in_NotLed), ?_⟩
  rintro σ' H1 ⟨rfl, hk⟩
  refine ⟨_, ks_step (nm := "NotInCrew") T he nl hk (by unfold asks; simp) (.own _) (kit_cd c hd in_NotInCrew), ?_⟩
  rintro σ' H2 ⟨rfl, hk⟩
  refine ⟨_, ks_step (nm := "InCrew") T he nl hk (by unfold asks; simp) (.own _) (kit_cd c hd in_InCrew), ?_⟩
  rintro σ' H3 ⟨rfl, hk⟩
  refine ⟨_, ks_step (nm := "InvalidName") T he nl hk (by unfold asks; simp) (.own _) (kit_cd c hd in_InvalidName), ?_⟩
  rintro σ' H4 ⟨rfl, hk⟩
  refine ⟨_, ks_step (nm := "InvalidNames") T he nl hk (by unfold asks; simp) (.own _) (kit_cd c hd in_InvalidNames), ?_⟩
  rintro σ' H5 ⟨rfl, hk⟩
  refine ⟨_, ks_step (nm := "InvalidWord") T he nl hk (by unfold asks; simp) (.own _) (kit_cd c hd in_InvalidWord), ?_⟩
  rintro σ' H6 ⟨rfl, hk⟩
  refine ⟨_, ks_step (nm := "SameName") T he nl hk (by unfold asks; simp) (.own _) (kit_cd c hd in_SameName), ?_⟩
  rintro σ' H7 ⟨rfl, hk⟩
  refine ⟨_, ks_step (nm := "NotOpen") T he nl hk (by unfold asks; simp) (.own _) (kit_cd c hd in_NotOpen), ?_⟩
  rintro σ' H8 ⟨rfl, hk⟩
  refine ⟨_, ks_step (nm := "InvalidStep") T he nl hk (by unfold asks; simp) (.own _) (kit_cd c hd in_InvalidStep), ?_⟩
  rintro σ' H9 ⟨rfl, hk⟩
  refine ⟨_, ks_step (nm := "InvalidPaper") T he nl hk (by unfold asks; simp) (.own _) (kit_cd c hd in_InvalidPaper), ?_⟩
  rintro σ' H10 ⟨rfl, hk⟩
  refine ⟨_, ks_step (nm := "InvalidDeed") T he nl hk (by unfold asks; simp) (.own _) (kit_cd c hd in_InvalidDeed), ?_⟩
  rintro σ' H11 ⟨rfl, hk⟩
  refine ⟨_, ks_step (nm := "InvalidLine") T he nl hk (by unfold asks; simp) (.own _) (kit_cd c hd in_InvalidLine), ?_⟩
  rintro σ' H12 ⟨rfl, hk⟩
  refine ⟨_, ks_step (nm := "TooMany") T he nl hk (by unfold asks; simp) (.own _) (kit_cd c hd in_TooMany), ?_⟩
  rintro σ' H13 ⟨rfl, hk⟩
  refine ⟨_, ks_step (nm := "Solved") T he nl hk (by unfold asks; simp) (.own _) (kit_cd c hd in_Solved), ?_⟩
  rintro σ' H14 ⟨rfl, hk⟩
  refine ⟨_, ks_step (nm := "Tied") T he nl hk (by unfold asks; simp) (.own _) (kit_cd c hd in_Tied), ?_⟩
  rintro σ' H15 ⟨rfl, hk⟩
  refine ⟨_, ks_step (nm := "NotSquare") T he nl hk (by unfold asks; simp) (.own _) (kit_cd c hd in_NotSquare), ?_⟩
  rintro σ' H16 ⟨rfl, hk⟩
  refine ⟨_, ks_step (nm := "UnknownName") T he nl hk (by unfold asks; simp) (.own _) (kit_cd c hd in_UnknownName), ?_⟩
  rintro σ' H17 ⟨rfl, hk⟩
  refine ⟨_, ks_step (nm := "UnknownStep") T he nl hk (by unfold asks; simp) (.own _) (kit_cd c hd in_UnknownStep), ?_⟩
  rintro σ' H18 ⟨rfl, hk⟩
  refine ⟨_, ks_step (nm := "NothingLeft") T he nl hk (by unfold asks; simp) (.own _) (kit_cd c hd in_NothingLeft), ?_⟩
  rintro σ' H19 ⟨rfl, hk⟩
  refine ⟨_, ks_step (nm := "CreepError") T he nl hk (by unfold asks; simp) (.own _) (kit_ob c hd (k := 0) (by decide)), ?_⟩
  rintro σ' H20 ⟨rfl, hk⟩
  refine ⟨_, ks_step (nm := "NoAnswer") T he nl hk (by unfold asks; simp) (.own _) (kit_ob c hd (k := 1) (by decide)), ?_⟩
  rintro σ' H21 ⟨rfl, hk⟩
  refine ⟨_, ks_step (nm := "Missing") T he nl hk (by unfold asks; simp) (.own _) (kit_ob c hd (k := 2) (by decide)), ?_⟩
  rintro σ' H22 ⟨rfl, hk⟩
  refine ⟨_, ks_step (nm := "ValueError") T he nl hk (by unfold asks; simp) (.ty _) (kit_bt c hd (T := "ValueError") (by decide +kernel)), ?_⟩
  rintro σ' H23 ⟨rfl, hk⟩
  refine ⟨_, ks_step (nm := "ArithmeticError") T he nl hk (by unfold asks; simp) (.ty _) (kit_bt c hd (T := "ArithmeticError") (by decide +kernel)), ?_⟩
  rintro σ' H24 ⟨rfl, hk⟩
  refine ⟨_, ks_step (nm := "ZeroDivisionError") T he nl hk (by unfold asks; simp) (.ty _) (kit_bt c hd (T := "ZeroDivisionError") (by decide +kernel)), ?_⟩
  rintro σ' H25 ⟨rfl, hk⟩
  refine ⟨_, ks_step (nm := "LookupError") T he nl hk (by unfold asks; simp) (.ty _) (kit_bt c hd (T := "LookupError") (by decide +kernel)), ?_⟩
  rintro σ' H26 ⟨rfl, hk⟩
  refine ⟨_, ks_step (nm := "IndexError") T he nl hk (by unfold asks; simp) (.ty _) (kit_bt c hd (T := "IndexError") (by decide +kernel)), ?_⟩
  rintro σ' H27 ⟨rfl, hk⟩
  refine ⟨_, ks_step (nm := "KeyError") T he nl hk (by unfold asks; simp) (.ty _) (kit_bt c hd (T := "KeyError") (by decide +kernel)), ?_⟩
  rintro σ' H28 ⟨rfl, hk⟩
  replace hk : Ks H x l (asks d kn2) H28 := by
    simp only [asks, List.map_nil, List.nil_append, List.cons_append] at hk
    simp only [asks, kn2, List.map_cons, List.map_nil]
    exact hk
  have l100 : (asks d kn2).length ≤ 100 := by unfold asks; rw [List.length_map]; decide
  generalize asks d kn2 = LL at hk q l100
  obtain ⟨g, ps, hl, pr⟩ := hk
  have lps := pr.length
  refine ⟨_, rfl, l, rfl, ⟨ps, SqL.of hl⟩, fun D nD => ?_⟩
  refine lc_list (K := K) (a := l) (xs := ps) (fun i H' => Same H28 H' ∧ H' D = some (.lst (strV (yesN (LL.take i))))) ⟨new_same nD _, upd_same⟩ (fun i H' _ h => SqL.of (h.1 _ _ hl)) ?_ ?_
  · rintro i y H' hy ⟨g', hD⟩
    obtain ⟨⟨nm, b⟩, h1, p, rfl, hp⟩ := Pr_get pr hy
    have hp' := g' _ _ hp
    have sz : (strV (yesN (LL.take i))).length < sizeLine := by
      refine small1000 ?_
      unfold strV yesN
      rw [List.length_map, List.length_map]
      refine Nat.le_trans (List.length_filter_le _ _) ?_
      rw [List.length_take]
      omega
    refine ⟨rfl, _, rfl, p, _, 1, _, rfl, rfl, SqT.of hp', rfl, b, rfl, ?_⟩
    cases b with
    | true =>
      refine ⟨_, rfl, p, _, 0, _, rfl, rfl, SqT.of hp', rfl, _, hD, sz, fun c o z => by rw [upd_ne (ne_of_none z nD)]; exact g' _ _ z, ?_⟩
      rw [upd_same, List.take_add_one, h1]
      unfold strV yesN
      rw [List.filter_append, List.map_append, List.map_append]
      rfl
    | false =>
      refine ⟨g', ?_⟩
      rw [hD, List.take_add_one, h1]
      unfold strV yesN
      rw [List.filter_append, List.map_append, List.map_append]
      simp
  · rintro H' ⟨g', hD⟩
    refine q D H' (g.trans g') (g.free nD) ?_
    rw [hD, lps, List.take_length]
end
end Kz
end
section
set_option maxHeartbeats 4000000
namespace Kz
open PySem PySem.Spec PyProof.Rows L2
theorem cut_take (xs : List V) (n : Nat) : cutV xs none (some (n : Int)) = xs.take n := by
  unfold cutV
  rw [HT.sIx_none, HT.sIx_nat, List.drop_zero, Nat.sub_zero, List.take_eq_take_iff]
  omega
theorem cut_tail (x : V) (xs : List V) : cutV (x :: xs) (some 1) none = xs := by
  unfold cutV
  rw [HT.sIx_none, show (1 : Int) = ((1 : Nat) : Int) from rfl, HT.sIx_nat, List.length_cons, show min 1 (xs.length + 1) = 1 by omega]
  exact List.take_length
theorem dp_strs {K : PySem.W.Frag} {H : Hp} : ∀ l : List Str, DpAll K H (strV l) (l.map PyData.str)
  | [] => .nil
  | a :: r => .cons (.str a) (dp_strs r)
theorem due_shaped : ∀ d ∈ cdT, SeqAt.shaped (.list ((dueT d).map PyData.str)) = true := by decide +kernel
theorem due_eqv : ∀ d ∈ cdT, PyData.eqv (.list ((dueT d).map PyData.str)) (.list ((dueT d).map PyData.str)) = true := by decide +kernel
theorem due_le : ∀ d ∈ cdT, (dueT d).length ≤ 100 := by decide +kernel
def rLo (K : PySem.W.Frag) : List V → Hp → VK → Prop := fun xs H Q => ∃ p ys, xs = [.ref p] ∧ (SqL K H p ys ∨ SqT K H p ys) ∧ ∀ l, H l = none → Q (.ref l) (upd H l (.lst ys))
theorem lo_at {X : Cx} (K : PySem.W.Frag) (h : X.K = K) : CallR X (.type "list") (rLo K) := by
  subst h
  exact call_list_of
def rLe (K : PySem.W.Frag) : List V → Hp → VK → Prop := fun xs H Q => ∃ p ys, xs = [.ref p] ∧ (SqL K H p ys ∨ SqT K H p ys) ∧ Q (.int (ys.length : Nat)) H
theorem le_at {X : Cx} (K : PySem.W.Frag) (h : X.K = K) : CallR X (.builtin "len") (rLe K) := by
  subst h
  exact call_len_seq
theorem sl_at {X : Cx} (K : PySem.W.Frag) (h : X.K = K) : SlR X (rSlL K) := by
  subst h
  exact sl_list

theorem Pr_take {α β : Type} {F : α → β → Prop} : ∀ {l1 : List α} {l2 : List β} (n : Nat), Paired F l1 l2 → Paired F (l1.take n) (l2.take n)
  | _, _, 0, _ => .nil
  | _, _, _ + 1, .nil => .nil
  | _, _, n + 1, .cons r t => .cons r (Pr_take n t)
theorem Pr_join {α β γ : Type} {F : α → β → Prop} {G : α → γ → Prop} {R : β → γ → Prop} (k : ∀ q x y, F q x → G q y → R x y) : ∀ {l : List α} {a : List β} {b : List γ}, Paired F l a → Paired G l b → Paired R a b
  | _, _, _, .nil, .nil => .nil
  | _, _, _, .cons r t, .cons r2 t2 => .cons (k _ _ _ r r2) (Pr_join k t t2)
def PT (G : Addr → Prop) (H : Hp) (q : V × V) (v : V) : Prop := ∃ a, v = .ref a ∧ G a ∧ H a = some (.tup [q.1, q.2]) ∧ Tw G G 2 H q.1 q.1 ∧ Tw G G 2 H q.2 q.2
def DT (G : Addr → Prop) (d : CD) (H : Hp) (q : V × V) (v : V) : Prop := ∃ r zs, v = .ref r ∧ G r ∧ H r = some (.lst (.str d.nm :: zs)) ∧ Paired (Tw G G 2 H) ([q.1, q.2].take d.ps.length) zs
def ET (d : CD) (H : Hp) (q : V × V) (v : V) : Prop := ∃ z, v = .ref z ∧ Err H z d ([q.1, q.2].take d.ps.length)
theorem PT.mono {F G : Addr → Prop} {H H' : Hp} {q : V × V} {v : V} (k : ∀ a o, G a → H a = some o → F a ∧ H' a = some o) (h : PT G H q v) : PT F H' q v := by
  obtain ⟨a, e, g, ha, t1, t2⟩ := h
  exact ⟨a, e, (k _ _ g ha).1, (k _ _ g ha).2, t1.mono k k, t2.mono k k⟩
theorem DT.mono {F G : Addr → Prop} {d : CD} {H H' : Hp} {q : V × V} {v : V} (k : ∀ a o, G a → H a = some o → F a ∧ H' a = some o) (h : DT G d H q v) : DT F d H' q v := by
  obtain ⟨a, zs, e, g, ha, t1⟩ := h
  exact ⟨a, zs, e, (k _ _ g ha).1, (k _ _ g ha).2, L2.Paired.mapP t1 fun _ _ z => z.mono k k⟩
theorem ET.mono {d : CD} {H H' : Hp} {q : V × V} {v : V} (k : ∀ c o, (∀ l, o ≠ .lst l) → H c = some o → H' c = some o) (h : ET d H q v) : ET d H' q v := by
  obtain ⟨z, e, x, h1, h2, h3⟩ := h
  exact ⟨z, e, x, k _ _ (fun l y => by cases y) h1, k _ _ (fun l y => by cases y) h2, h3⟩
abbrev nSo : List Str := ["_law_bag_here", "_law_pick", "_law_words_here", "_law_k", "_law_pairs", "_law_pair", "_law_dues", "_law_errors", "_law_due_here"]
def spSo : Sp := fun vs H Q _ => ∃ (d : CD) (B p : Addr), d ∈ cdT ∧ vs = [.ref B, .str d.nm] ∧ Bag H B p ∧ ∀ H', Bag H' B p → But B H H' → Q (.bl true) H'
section
variable {P : Program} {w : World} {K : PySem.W.Frag} {mg : Str → Option Value} {base : Heap} {f fW fT fD fC fM fL fO fK fJ fU : Addr} {fd fdW fdT fdD fdC fdM fdL fdO fdK fdJ fdU : FuncData}
theorem scSo : FnScope nSo ["_law_bag_here", "_law_pick"] (defScope (top 70)) := ⟨rfl, rfl, rfl, by decide +kernel, rfl, by decide +kernel, by decide +kernel⟩
theorem ok_so (F : Fun K "_law_so" "_law_so" (top 70) f fd) (mn : mg "len" = none) (mr : mg "range" = none) (ml : mg "list" = none)
    (GW : FnOk P w K mg base CX0 1 fW fdW ["_law_pick"] spWords) (bW : Binds K fdW ["_law_pick"] []) (kW : PySem.W.keepIn K (.ref fW) = true) (mW : mg "_law_words" = some (.ref fW))
    (GT : FnOk P w K mg base CX0 5 fT fdT ["_law_bag_here", "_law_deep"] (spThing 3)) (bT : Binds K fdT ["_law_bag_here", "_law_deep"] []) (kT : PySem.W.keepIn K (.ref fT) = true) (mT : mg "_law_thing" = some (.ref fT))
    (GD : FnOk P w K mg base CX0 1 fD fdD ["_law_bag_here", "_law_limit"] spDraw) (bD : Binds K fdD ["_law_bag_here", "_law_limit"] []) (kD : PySem.W.keepIn K (.ref fD) = true) (mD : mg "_law_draw" = some (.ref fD))
    (GC : FnOk P w K mg base CX0 4 fC fdC ["_law_thing_here"] (spCopied 3)) (bC : Binds K fdC ["_law_thing_here"] []) (kC : PySem.W.keepIn K (.ref fC) = true) (mC : mg "_law_copied" = some (.ref fC))
    (GM : FnOk P w K mg base CX0 4 fM fdM ["_law_pick", "_law_pair", "_law_way"] spMade) (bM : Binds K fdM ["_law_pick", "_law_pair", "_law_way"] []) (kM : PySem.W.keepIn K (.ref fM) = true) (mM : mg "_law_made" = some (.ref fM))
    (GL : FnOk P w K mg base CX0 5 fL fdL ["_law_told_here", "_law_due_here"] (spLike 4)) (bL : Binds K fdL ["_law_told_here", "_law_due_here"] []) (kL : PySem.W.keepIn K (.ref fL) = true) (mL : mg "_law_like" = some (.ref fL))
    (GO : FnOk P w K mg base CX0 1 fO fdO ["_law_error", "_law_words_here"] spTold) (bO : Binds K fdO ["_law_error", "_law_words_here"] []) (kO : PySem.W.keepIn K (.ref fO) = true) (mO : mg "_law_told" = some (.ref fO))
    (GK : FnOk P w K mg base CX0 1 fK fdK ["_law_error"] (spKinds kn1)) (bK : Binds K fdK ["_law_error"] []) (kK : PySem.W.keepIn K (.ref fK) = true) (mK : mg "_law_kinds" = some (.ref fK))
    (GJ : FnOk P w K mg base CX0 1 fJ fdJ ["_law_error"] (spKinds kn2)) (bJ : Binds K fdJ ["_law_error"] []) (kJ : PySem.W.keepIn K (.ref fJ) = true) (mJ : mg "_law_kinds_too" = some (.ref fJ))
    (GU : FnOk P w K mg base CX0 1 fU fdU ["_law_pick"] spDue) (bU : Binds K fdU ["_law_pick"] []) (kU : PySem.W.keepIn K (.ref fU) = true) (mU : mg "_law_due" = some (.ref fU)) :
    FnOk P w K mg base CX0 6 f fd ["_law_bag_here", "_law_pick"] spSo := by
  refine F.ok scSo (fun vs H Q E h => ?_) (fun cdv A outer s H vs Q E hr h => ?_)
  · obtain ⟨d, B, p, _, rfl, _⟩ := h
    rfl
  obtain ⟨d, B, p, hd, rfl, hb, q⟩ := h
  have hr1 := hr.mono (show 1 ≤ 5 by decide)
  have hr4 := hr.mono (show 4 ≤ 5 by decide)
  refine ⟨_, pss_cons (ps_set (i := 2) scSo.nd rfl (Or.inr rfl) (pe_call GW hr1 rfl mW kW bW .nil pass0 (pa_cons (pv 1) pa_nil)))
    (pss_cons (ps_setLc (i := 4) (own := [("_law_k", 3)]) (g := gName 3) (tt := tYes) rfl scSo.nd rfl rfl (sw_true rfl rfl rfl (by decide +kernel)) (pi_range1 rfl mr (pa_cons pe_int pa_nil)) (blkOk_by (N := nSo) (sc := defScope (top 70)) (by decide +kernel))
        (fun _ _ _ _ _ => pg_name (i := 3) scSo.nd rfl (Or.inl rfl)) (fun _ _ _ _ _ => pts_nil) (fun _ _ _ _ _ => pe_tup (pa_cons (pe_call GT hr rfl mT kT bT .nil pass0 (pa_cons (pv 0) (pa_cons pe_int pa_nil))) (pa_cons (pe_call GT hr rfl mT kT bT .nil pass0 (pa_cons (pv 0) (pa_cons pe_int pa_nil))) pa_nil))))
    (pss_cons (ps_setLc (i := 6) (own := [("_law_pair", 5)]) (g := gName 5) (tt := tYes) rfl scSo.nd rfl rfl (sw_true rfl rfl rfl (by decide +kernel)) (pi_list (pv 4)) (blkOk_by (N := nSo) (sc := defScope (top 70)) (by decide +kernel))
        (fun _ _ _ _ _ => pg_name (i := 5) scSo.nd rfl (Or.inl rfl)) (fun _ _ _ _ _ => pts_nil) (fun _ _ _ _ _ => pe_op op_cat (pe_lst (pa_cons (pv 1) pa_nil)) (pe_slice (sl_at K rfl) (pe_callTy (lo_at K rfl) rfl ml boot_list (pa_cons (pe_call GC hr4 rfl mC kC bC .nil pass0 (pa_cons (pv 5) pa_nil)) pa_nil)) po_none (po_some (pe_callB (le_at K rfl) rfl mn PySem.boot_len (pa_cons (pv 2) pa_nil))))))
    (pss_cons (ps_setLc (i := 7) (own := [("_law_pair", 5)]) (g := gName 5) (tt := tYes) rfl scSo.nd rfl rfl (sw_true rfl rfl rfl (by decide +kernel)) (pi_list (pv 4)) (blkOk_by (N := nSo) (sc := defScope (top 70)) (by decide +kernel))
        (fun _ _ _ _ _ => pg_name (i := 5) scSo.nd rfl (Or.inl rfl)) (fun _ _ _ _ _ => pts_nil) (fun _ _ _ _ _ => pe_call GM hr4 rfl mM kM bM .nil pass0 (pa_cons (pv 1) (pa_cons (pv 5) (pa_cons (pe_call GD hr1 rfl mD kD bD .nil pass0 (pa_cons (pv 0) (pa_cons pe_int pa_nil))) pa_nil)))))
    (pss_cons (ps_for PassesOwn.never rfl (pi_tup (pe_tup (pa_cons pe_int (pa_cons pe_int (pa_cons pe_int pa_nil))))) (pg_name (i := 3) scSo.nd rfl (Or.inl rfl))
        (pss_cons (ps_if (pt_not (pt_val (pe_call GL hr rfl mL kL bL .nil pass0 (pa_cons (pe_call GO hr1 rfl mO kO bO .nil pass0 (pa_cons (pe_ix ix_list (pv 7) (pv 3) (fun _ _ => rfl)) (pa_cons (pv 2) pa_nil))) (pa_cons (pe_ix ix_list (pv 6) (pv 3) (fun _ _ => rfl)) pa_nil))))) (pss_one (ps_ret pe_bl)) pss_nil)
        (pss_one (ps_if (pt_cmpR (op_neD hr.units) (pe_op op_cat (pe_call GK hr1 rfl mK kK bK .nil pass0 (pa_cons (pe_ix ix_list (pv 7) (pv 3) (fun _ _ => rfl)) pa_nil)) (pe_call GJ hr1 rfl mJ kJ bJ .nil pass0 (pa_cons (pe_ix ix_list (pv 7) (pv 3) (fun _ _ => rfl)) pa_nil))) (pe_call GU hr1 rfl mU kU bU .nil pass0 (pa_cons (pv 1) pa_nil)) (nomark _)) (pss_one (ps_ret pe_bl)) pss_nil))))
    (pss_one (ps_ret (pe_call GL hr rfl mL kL bL .nil pass0
      (pa_cons (pe_lc (own := [("_law_pair", 5)]) (g := gName 5) (tt := tYes) rfl scSo.nd (pi_list (pv 4)) (blkOk_by (N := nSo) (sc := defScope (top 70)) (by decide +kernel)) (fun _ _ _ _ _ => pg_name (i := 5) scSo.nd rfl (Or.inl rfl)) (fun _ _ _ _ _ => pts_nil)
        (fun _ _ _ _ _ => pe_slice (sl_at K rfl) (pe_callTy (lo_at K rfl) rfl ml boot_list (pa_cons (pv 5) pa_nil)) po_none (po_some (pe_callB (le_at K rfl) rfl mn PySem.boot_len (pa_cons (pv 2) pa_nil)))))
      (pa_cons (pe_lc (own := [("_law_due_here", 8)]) (g := gName 8) (tt := tYes) rfl scSo.nd (pi_list (pv 6)) (blkOk_by (N := nSo) (sc := defScope (top 70)) (by decide +kernel)) (fun _ _ _ _ _ => pg_name (i := 8) scSo.nd rfl (Or.inl rfl)) (fun _ _ _ _ _ => pts_nil)
        (fun _ _ _ _ _ => pe_slice (sl_at K rfl) (pv 8) (po_some pe_int) po_none)) pa_nil))))))))), ?_⟩

  have lt : (strV d.ps).length = d.ps.length := List.length_map _
  refine ⟨_, rfl, d, hd, rfl, fun t H1 s1 ht => ?_⟩
  have b1 := hb.same s1
  have u1 : But B H H1 := But.same s1
  have tB : t ≠ B := by
    obtain ⟨_, _, _, _, _, h1, _⟩ := b1.ex
    intro e
    rw [e, h1] at ht
    cases ht
  clear s1 hb
  refine ⟨2, rfl, by decide, by decide, fun D nD => ?_⟩
  have hBD := b1.at nD
  refine lc_range (lo := 0) (n := 2) (fun i H' => Bag H' B p ∧ But B H1 H' ∧ ∃ (ps : List V) (xy : List (V × V)), H' D = some (.lst ps) ∧ ps.length = i ∧ xy.length = i ∧ Paired (fun q v => PT (fun c => c ≠ B ∧ c ≠ D) H' q v) xy ps) ⟨b1.put nD, But.new nD, [], [], upd_same, rfl, rfl, .nil⟩ ?_ ?_
  · rintro i H' hi ⟨b', u', ps, xy, hD, lp, lx, pr⟩
    refine ⟨rfl, ?_⟩
    refine yesT ?_
    refine ⟨_, rfl, B, p, rfl, b', fun H4 v b4 u4 tv => ?_⟩
    refine ⟨_, rfl, B, p, rfl, b4, fun H5 w' b5 u5 tw => ?_⟩
    refine ⟨(by show 2 ≤ sizeLine; decide), fun a na => ?_⟩
    have hD5 : H5 D = some (.lst ps) := u5 _ _ hBD.1 (u4 _ _ hBD.1 hD)
    have aD : a ≠ D := fun e => by rw [e, hD5] at na; cases na
    have kp : ∀ c o, c ≠ B ∧ c ≠ D → H5 c = some o → (c ≠ B ∧ c ≠ D) ∧ (upd (upd H5 a (.tup [v, w'])) D (.lst (ps ++ [.ref a]))) c = some o := fun c o n e => ⟨n, by rw [upd_ne n.2, upd_ne (ne_of_none e na)]; exact e⟩
    have na1 : H1 a = none := (u'.trans (u4.trans u5)).free b5 na
    refine ⟨ps, by rw [upd_ne (Ne.symm aD)]; exact hD5, small1000 (by omega), (b5.put na).upd hBD, ((u'.trans (u4.trans u5)).put na1).put nD, ps ++ [.ref a], xy ++ [(v, w')], upd_same, ?_, ?_, ?_⟩
    · rw [List.length_append, lp]
      rfl
    · rw [List.length_append, lx]
      rfl
    · refine Paired.snoc (L2.Paired.mapP pr fun q x z => z.mono fun c o n e => kp c o n (u5 _ _ n.1 (u4 _ _ n.1 e))) ⟨a, rfl, ⟨(b5.at na).1, aD⟩, by rw [upd_ne aD, upd_same], tv.mono (fun c o n e => ?_) (fun c o n e => ?_), tw.mono (fun c o n e => ?_) (fun c o n e => ?_)⟩
      · have n' : c ≠ B ∧ c ≠ D := ⟨(b'.at n).1, fun z => by rw [New, z, hD] at n; cases n⟩
        exact kp c o n' (u5 _ _ n'.1 e)
      · have n' : c ≠ B ∧ c ≠ D := ⟨(b'.at n).1, fun z => by rw [New, z, hD] at n; cases n⟩
        exact kp c o n' (u5 _ _ n'.1 e)
      · have n' : c ≠ B ∧ c ≠ D := ⟨(b4.at n).1, fun z => by rw [New, z, u4 _ _ hBD.1 hD] at n; cases n⟩
        exact kp c o n' e
      · have n' : c ≠ B ∧ c ≠ D := ⟨(b4.at n).1, fun z => by rw [New, z, u4 _ _ hBD.1 hD] at n; cases n⟩
        exact kp c o n' e
  rintro H2 ⟨b2, u2, ps, xy, hp, lp, lx, PP⟩
  have PP : Paired (fun q v => PT (fun c => c ≠ B) H2 q v) xy ps := L2.Paired.mapP PP fun q x z => z.mono fun c o n e => ⟨n.1, e⟩
  have ht := u2 _ _ tB ht
  have DB := hBD.1
  have u2 := u1.trans u2
  clear u1 b1 nD hBD
  -- the dues
  have mB : ∀ {Hz : Hp}, Bag Hz B p → ∃ l, Hz B = some (.lst l) := fun b => by
    obtain ⟨_, _, _, _, _, h1, _⟩ := b.ex
    exact ⟨_, h1⟩
  obtain ⟨lB, hB⟩ := mB b2
  refine ⟨_, rfl, D, rfl, ⟨_, SqL.of hp⟩, fun D2 nD2 => ?_⟩
  refine lc_list (K := K) (a := D) (xs := ps) (fun i H' => Same H2 H' ∧ ∃ ds : List V, H' D2 = some (.lst ds) ∧ ds.length = i ∧ Paired (fun q v => DT (fun c => c ≠ B ∧ c ≠ D2) d H' q v) (xy.take i) ds) ⟨new_same nD2 _, [], upd_same, rfl, .nil⟩ (fun i H' _ h => SqL.of (h.1 _ _ hp)) ?_ ?_
  · rintro i y H' hy ⟨g, ds, hD, ld, pr⟩
    have li := (List.getElem?_eq_some_iff.mp hy).1
    obtain ⟨q, hq⟩ : ∃ q, xy[i]? = some q := ⟨_, List.getElem?_eq_getElem (by omega)⟩
    obtain ⟨y', hy', a, rfl, na, ha, t1, t2⟩ := Pr_get PP hq
    rw [hy] at hy'
    obtain rfl := Option.some.inj hy'
    refine ⟨rfl, ?_⟩
    refine yesT ?_
    refine ⟨_, rfl, (by show 1 ≤ sizeLine; decide), fun l0 nl0 => ?_⟩
    have g0 := new_same nl0 (.lst [.str d.nm])
    have hl0 : (upd H' l0 (.lst [.str d.nm])) l0 = some (.lst [.str d.nm]) := upd_same
    generalize upd H' l0 (.lst [.str d.nm]) = Ha at g0 hl0
    have gk : Same H2 Ha := g.trans g0
    have up : ∀ c o, c ≠ B → H2 c = some o → (c ≠ B ∧ c ≠ D2) ∧ Ha c = some o := fun c o n e => ⟨⟨n, ne_of_none e nD2⟩, gk _ _ e⟩
    have hD0 := g0 _ _ hD
    refine ⟨_, rfl, .ref a, fun c => c ≠ B ∧ c ≠ D2, rfl, .inr ⟨a, a, [q.1, q.2], [q.1, q.2], rfl, rfl, by show 2 ≤ 60; decide, (up _ _ na ha).1, (up _ _ na ha).1, .cons (t1.mono up up) (.cons (t2.mono up up) .nil), .inr ⟨gk _ _ ha, gk _ _ ha⟩⟩, fun Hc u gc tu => ?_⟩
    rcases tu with ⟨_, z⟩ | ⟨a', b, xs, ys, e1, rfl, _, _, nb, pu, hh⟩
    · cases z
    obtain rfl := V.ref.inj e1
    have ha3 := gc _ _ (gk _ _ ha)
    obtain ⟨hx, hb⟩ : H2 = H2 ∧ Hc b = some (.tup ys) ∧ xs = [q.1, q.2] := by
      rcases hh with ⟨h1, h2⟩ | ⟨h1, h2⟩
      · rw [ha3] at h1
        cases h1
      · rw [ha3] at h1
        cases h1
        exact ⟨rfl, h2, rfl⟩
    obtain ⟨hb, rfl⟩ := hb
    refine ⟨b, ys, rfl, .inr (SqT.of hb), fun l2 nl2 => ?_⟩
    have g2 := new_same nl2 (.lst ys)
    have hl2 : (upd Hc l2 (.lst ys)) l2 = some (.lst ys) := upd_same
    generalize upd Hc l2 (.lst ys) = Hd at g2 hl2
    have gd := gk.trans (gc.trans g2)
    refine ⟨_, rfl, t, _, rfl, .inr (SqT.of (gd _ _ ht)), _, rfl, l2, ys, rfl, SqL.of hl2, fun l3 nl3 => ?_⟩
    rw [cut_take, lt]
    have g3 := new_same nl3 (.lst (ys.take d.ps.length))
    have hl3 : (upd Hd l3 (.lst (ys.take d.ps.length))) l3 = some (.lst (ys.take d.ps.length)) := upd_same
    generalize upd Hd l3 (.lst (ys.take d.ps.length)) = He at g3 hl3
    have s3 := gc.trans (g2.trans g3)
    have lu := pu.length
    have lu2 : ys.length = 2 := by rw [← lu]; rfl
    refine ⟨l0, l3, _, _, rfl, rfl, s3 _ _ hl0, hl3, ?_, fun r nr => ?_⟩
    · refine Nat.le_of_lt (small1000 ?_)
      rw [List.length_take]
      show 1 + _ ≤ 1000
      omega
    have s4 := s3.trans (new_same nr (.lst ([.str d.nm] ++ ys.take d.ps.length)))
    have s5 := g2.trans (g3.trans (new_same nr (.lst ([.str d.nm] ++ ys.take d.ps.length))))
    have hr0 : (upd He r (.lst ([.str d.nm] ++ ys.take d.ps.length))) r = some (.lst (.str d.nm :: ys.take d.ps.length)) := upd_same
    have nrA := s3.free nr
    generalize upd He r (.lst ([.str d.nm] ++ ys.take d.ps.length)) = Hf at s4 s5 hr0
    have rD : r ≠ D2 := fun e => by rw [e, hD0] at nrA; cases nrA
    have rB : r ≠ B := fun e => by rw [e, gk _ _ hB] at nrA; cases nrA
    have fin : ∀ c o, c ≠ D2 → Hf c = some o → (upd Hf D2 (.lst (ds ++ [.ref r]))) c = some o := fun c o n e => by rw [upd_ne n]; exact e
    refine ⟨ds, s4 _ _ hD0, small1000 (by omega), fun c o e => fin _ _ (ne_of_none e nD2) (s4 _ _ (gk _ _ e)), ds ++ [.ref r], upd_same, ?_, ?_⟩
    · rw [List.length_append, ld]
      rfl
    · rw [List.take_add_one, hq]
      refine Paired.snoc (L2.Paired.mapP pr fun q x z => z.mono fun c o n e => ⟨n, fin _ _ n.2 (s4 _ _ (g0 _ _ e))⟩) ⟨r, _, rfl, ⟨rB, rD⟩, fin _ _ rD hr0, Pr_take _ (L2.Paired.mapP pu fun v w z => z.mono (fun c o n e => ⟨n, fin _ _ n.2 ?_⟩) (fun c o n e => ?_))⟩
      · exact s5 _ _ e
      · have n2 : c ≠ D2 := fun z => by rw [New, z, hD0] at n; cases n
        exact ⟨⟨(fun z => by rw [New, z, gk _ _ hB] at n; cases n), n2⟩, fin _ _ n2 (s5 _ _ e)⟩
  rintro H3 ⟨g3, ds, hds, ld, DD⟩
  rw [List.take_of_length_le (by omega)] at DD
  have DD : Paired (fun q v => DT (fun c => c ≠ B) d H3 q v) xy ds := L2.Paired.mapP DD fun q x z => z.mono fun c o n e => ⟨n.1, e⟩
  have PP : Paired (fun q v => PT (fun c => c ≠ B) H3 q v) xy ps := L2.Paired.mapP PP fun q x z => z.mono fun c o n e => ⟨n, g3 _ _ e⟩
  have ht := g3 _ _ ht
  have hp := g3 _ _ hp
  have b3 := b2.same g3
  have D2B := (b2.at nD2).1
  have u3 := u2.trans (But.same g3)
  -- the errors
  obtain ⟨lB3, hB3⟩ := mB b3
  refine ⟨_, rfl, D, rfl, ⟨_, SqL.of hp⟩, fun D3 nD3 => ?_⟩
  have hBD3 := b3.at nD3
  refine lc_list (K := K) (a := D) (xs := ps) (fun i H' => Bag H' B p ∧ But B H3 H' ∧ ∃ es : List V, H' D3 = some (.lst es) ∧ es.length = i ∧ Paired (fun q v => ET d H' q v) (xy.take i) es) ⟨b3.put nD3, But.new nD3, [], upd_same, rfl, .nil⟩ (fun i H' _ h => SqL.of (h.2.1 _ _ DB hp)) ?_ ?_
  · rintro i y H' hy ⟨b', u', es, hD, le, pr⟩
    have li := (List.getElem?_eq_some_iff.mp hy).1
    obtain ⟨q, hq⟩ : ∃ q, xy[i]? = some q := ⟨_, List.getElem?_eq_getElem (by omega)⟩
    obtain ⟨y', hy', a, rfl, na, ha, _, _⟩ := Pr_get PP hq
    rw [hy] at hy'
    obtain rfl := Option.some.inj hy'
    refine ⟨rfl, ?_⟩
    refine yesT ?_
    refine ⟨_, rfl, _, rfl, _, rfl, B, p, 4, rfl, by decide, by decide, b', fun H4 k b4 u4 k0 k1 => ?_⟩
    have ha4 := u4 _ _ na (u' _ _ na ha)
    have hD4 := u4 _ _ hBD3.1 hD
    refine ⟨d, a, q.1, q.2, k, hd, rfl, ha4, fun z H5 s5 nz er => ?_⟩
    have hD5 := s5 _ _ hD4
    have k4 : ∀ c o, (∀ l, o ≠ .lst l) → H' c = some o → H4 c = some o := fun c o n e => u4 _ _ (fun z => by
      obtain ⟨l, h⟩ := mB b'
      rw [z, h] at e
      exact n _ (Option.some.inj e).symm) e
    have k5 : ∀ c o, (∀ l, o ≠ .lst l) → H5 c = some o → (upd H5 D3 (.lst (es ++ [.ref z]))) c = some o := fun c o n e => by
      rw [upd_ne (fun z => by rw [z, hD5] at e; exact n _ (Option.some.inj e).symm)]
      exact e
    refine ⟨es, hD5, small1000 (by omega), (b4.same s5).upd hBD3, (u'.trans (u4.trans (But.same s5))).put nD3, es ++ [.ref z], upd_same, ?_, ?_⟩
    · rw [List.length_append, le]
      rfl
    · rw [List.take_add_one, hq]
      exact Paired.snoc (L2.Paired.mapP pr fun q x z => z.mono fun c o n e => k5 _ _ n (s5 _ _ (k4 _ _ n e))) (ET.mono k5 ⟨z, rfl, er⟩)
  rintro H4 ⟨b4, v4, es, hes, le, EE⟩
  rw [List.take_of_length_le (by omega)] at EE
  have DD : Paired (fun q v => DT (fun c => c ≠ B) d H4 q v) xy ds := L2.Paired.mapP DD fun q x z => z.mono fun c o n e => ⟨n, v4 _ _ n e⟩
  have PP : Paired (fun q v => PT (fun c => c ≠ B) H4 q v) xy ps := L2.Paired.mapP PP fun q x z => z.mono fun c o n e => ⟨n, v4 _ _ n e⟩
  have ht := v4 _ _ tB ht
  have hp := v4 _ _ DB hp
  have hds := v4 _ _ D2B hds
  have u4 := u3.trans v4
  clear u2 u3 v4 b2 b3 nD2 nD3 hBD3 g3 hB hB3
  -- each error, asked
  refine ⟨(by show 3 ≤ sizeLine; decide), fun T0 nT => ?_⟩
  have gT := new_same nT (.tup [.int 1, .int 0, .int 1])
  refine ⟨T0, rfl, ⟨_, SqT.of upd_same⟩, for_tup (K := K) (a := T0) (xs := [.int 1, .int 0, .int 1]) (fun i σ H' => Same (upd H4 T0 (.tup [.int 1, .int 0, .int 1])) H' ∧ ∃ v : Option V, σ = [some (.ref B), some (.str d.nm), some (.ref t), v, some (.ref D), none, some (.ref D2), some (.ref D3), none]) ⟨Same.refl _, none, rfl⟩ (fun i σ H' _ h => SqT.of (h.1 _ _ upd_same)) ?_ ?_⟩
  · rintro i y σ H' hy ⟨g, v, rfl⟩
    have gH := g
    have g := gT.trans gH
    obtain ⟨j, lj, rfl⟩ : ∃ j : Nat, j < 2 ∧ y = .int (j : Nat) := by
      match i, hy with
      | 0, hy => exact ⟨1, by decide, (Option.some.inj hy).symm⟩
      | 1, hy => exact ⟨0, by decide, (Option.some.inj hy).symm⟩
      | 2, hy => exact ⟨1, by decide, (Option.some.inj hy).symm⟩
      | _ + 3, hy => cases hy
    obtain ⟨q, hq⟩ : ∃ q, xy[j]? = some q := ⟨_, List.getElem?_eq_getElem (by omega)⟩
    obtain ⟨e, he, z, rfl, er⟩ := Pr_get EE hq
    obtain ⟨w', hw, r, zs, rfl, _, hrr, pz⟩ := Pr_get DD hq
    have ate : atI es (j : Nat) = some (.ref z) := at_of (by omega) he
    have atd : atI ds (j : Nat) = some (.ref r) := at_of (by omega) hw
    refine ⟨_, rfl, _, rfl, D3, es, (j : Nat), _, rfl, rfl, SqL.of (g _ _ hes), ate, _, rfl, d, z, t, _, hd, rfl, er.same g, g _ _ ht, fun ra Ha sa na ha => ?_⟩
    have ga := g.trans sa
    refine ⟨_, rfl, _, rfl, D2, ds, (j : Nat), _, rfl, rfl, SqL.of (ga _ _ hds), atd, .ref ra, .ref r, fun _ => True, fun _ => True, rfl, Tw.succ (.inr ⟨ra, r, _, _, rfl, rfl, ?_, trivial, trivial, .cons (Tw.flat rfl) (L2.Paired.mapP pz fun v u z => z.mono (fun c o _ e => ⟨trivial, ga _ _ e⟩) (fun c o _ e => ⟨trivial, ga _ _ e⟩)), .inl ⟨ha, ga _ _ hrr⟩⟩), fun Hb sb => ?_⟩
    · rw [List.length_cons, List.length_take]
      show min _ 2 + 1 ≤ 60
      omega
    refine ⟨_, rfl, iteF ?_⟩
    have gb := ga.trans sb
    refine ⟨_, rfl, _, rfl, D3, es, (j : Nat), _, rfl, rfl, SqL.of (gb _ _ hes), ate, d, z, _, hd, rfl, er.same gb, fun r1 Hc sc n1 h1 => ?_⟩
    have gc := gb.trans sc
    refine ⟨_, rfl, _, rfl, D3, es, (j : Nat), _, rfl, rfl, SqL.of (gc _ _ hes), ate, d, z, _, hd, rfl, er.same gc, fun r2 Hd sd n2 h2 => ?_⟩
    have gd := gc.trans sd
    refine ⟨r1, r2, _, _, rfl, rfl, sd _ _ h1, h2, ?_, fun pp np => ?_⟩
    · refine Nat.le_of_lt (small1000 ?_)
      have z := congrArg List.length (kinds_due d hd)
      rw [List.length_append] at z
      have z2 := due_le d hd
      unfold strV
      rw [List.length_map, List.length_map]
      omega
    have se := new_same np (.lst (strV (yesN (asks d kn1)) ++ strV (yesN (asks d kn2))))
    have hpp : (upd Hd pp (.lst (strV (yesN (asks d kn1)) ++ strV (yesN (asks d kn2))))) pp = some (.lst (strV (dueT d))) := by
      rw [upd_same, ← kinds_due d hd]
      unfold strV
      rw [List.map_append]
    generalize upd Hd pp (.lst (strV (yesN (asks d kn1)) ++ strV (yesN (asks d kn2)))) = Hf at se hpp
    refine ⟨_, rfl, d, hd, rfl, fun t2 Hg sg hg => ?_⟩
    refine ⟨.list ((dueT d).map PyData.str), .list ((dueT d).map PyData.str), .lst (SqL.of (sg _ _ hpp)) (dp_strs _), .lst (SqL.of hg) (dp_strs _), due_shaped d hd, due_shaped d hd, _, rfl, ?_⟩
    rw [due_eqv d hd]
    exact iteF ⟨gH.trans (sa.trans (sb.trans (sc.trans (sd.trans (se.trans sg))))), _, rfl⟩
  rintro σ H5 ⟨g, v, rfl⟩
  have g := gT.trans g
  have kT : ∀ {Hx Hy : Hp}, Same Hx Hy → ∀ c o, c ≠ B → Hx c = some o → c ≠ B ∧ Hy c = some o := fun s c o n e => ⟨n, s _ _ e⟩
  have DD : Paired (fun q v => DT (fun c => c ≠ B) d H5 q v) xy ds := L2.Paired.mapP DD fun q x z => z.mono (kT g)
  have PP : Paired (fun q v => PT (fun c => c ≠ B) H5 q v) xy ps := L2.Paired.mapP PP fun q x z => z.mono (kT g)
  have ht := g _ _ ht
  have hp := g _ _ hp
  have hds := g _ _ hds
  refine ⟨_, rfl, D, rfl, ⟨_, SqL.of hp⟩, fun D4 nD4 => ?_⟩
  refine lc_list (K := K) (a := D) (xs := ps) (fun i H' => Same H5 H' ∧ ∃ rs : List V, H' D4 = some (.lst rs) ∧ rs.length = i ∧ Paired (fun (q : V × V) v => ∃ b, v = .ref b ∧ b ≠ D4 ∧ H' b = some (.lst ([q.1, q.2].take d.ps.length))) (xy.take i) rs) ⟨new_same nD4 _, [], upd_same, rfl, .nil⟩ (fun i H' _ h => SqL.of (h.1 _ _ hp)) ?_ ?_
  · rintro i y H' hy ⟨g', rs, hD, lr, pr⟩
    have li := (List.getElem?_eq_some_iff.mp hy).1
    obtain ⟨q, hq⟩ : ∃ q, xy[i]? = some q := ⟨_, List.getElem?_eq_getElem (by omega)⟩
    obtain ⟨y', hy', a, rfl, na, ha, _, _⟩ := Pr_get PP hq
    rw [hy] at hy'
    obtain rfl := Option.some.inj hy'
    refine ⟨rfl, ?_⟩
    refine yesT ?_
    refine ⟨_, rfl, a, _, rfl, .inr (SqT.of (g' _ _ ha)), fun l nl => ?_⟩
    have g1 := new_same nl (.lst [q.1, q.2])
    have hl : (upd H' l (.lst [q.1, q.2])) l = some (.lst [q.1, q.2]) := upd_same
    generalize upd H' l (.lst [q.1, q.2]) = Ha at g1 hl
    refine ⟨_, rfl, t, _, rfl, .inr (SqT.of (g1 _ _ (g' _ _ ht))), _, rfl, l, _, rfl, SqL.of hl, fun b nb => ?_⟩
    rw [cut_take, lt]
    have g2 := g1.trans (new_same nb (.lst ([q.1, q.2].take d.ps.length)))
    have hb : (upd Ha b (.lst ([q.1, q.2].take d.ps.length))) b = some (.lst ([q.1, q.2].take d.ps.length)) := upd_same
    have nb0 := g1.free nb
    generalize upd Ha b (.lst ([q.1, q.2].take d.ps.length)) = Hb at g2 hb
    have bD : b ≠ D4 := fun e => by rw [e, hD] at nb0; cases nb0
    refine ⟨rs, g2 _ _ hD, small1000 (by omega), fun c o e => by rw [upd_ne (ne_of_none e nD4)]; exact g2 _ _ (g' _ _ e), rs ++ [.ref b], upd_same, ?_, ?_⟩
    · rw [List.length_append, lr]
      rfl
    · rw [List.take_add_one, hq]
      refine Paired.snoc (L2.Paired.mapP pr fun q x z => ?_) ⟨b, rfl, bD, by rw [upd_ne bD]; exact hb⟩
      obtain ⟨c, rfl, n, h⟩ := z
      exact ⟨c, rfl, n, by rw [upd_ne n]; exact g2 _ _ h⟩
  rintro H6 ⟨g6, rs, hrs, lr, RR⟩
  rw [List.take_of_length_le (by omega)] at RR
  have DD : Paired (fun q v => DT (fun c => c ≠ B) d H6 q v) xy ds := L2.Paired.mapP DD fun q x z => z.mono (kT g6)
  have hds := g6 _ _ hds
  refine ⟨_, rfl, D2, rfl, ⟨_, SqL.of hds⟩, fun D5 nD5 => ?_⟩
  have DD : Paired (fun q v => DT (fun c => c ≠ D5) d H6 q v) xy ds := L2.Paired.mapP DD fun q x z => z.mono fun c o _ e => ⟨ne_of_none e nD5, e⟩
  refine lc_list (K := K) (a := D2) (xs := ds) (fun i H' => Same H6 H' ∧ ∃ zs : List V, H' D5 = some (.lst zs) ∧ zs.length = i ∧ Paired (fun (q : V × V) v => ∃ b ws, v = .ref b ∧ b ≠ D5 ∧ H' b = some (.lst ws) ∧ Paired (Tw (fun c => c ≠ D5) (fun c => c ≠ D5) 2 H') ([q.1, q.2].take d.ps.length) ws) (xy.take i) zs) ⟨new_same nD5 _, [], upd_same, rfl, .nil⟩ (fun i H' _ h => SqL.of (h.1 _ _ hds)) ?_ ?_
  · rintro i y H' hy ⟨g', zs, hD, lz, pr⟩
    have li := (List.getElem?_eq_some_iff.mp hy).1
    have l3 := DD.length
    obtain ⟨q, hq⟩ : ∃ q, xy[i]? = some q := ⟨_, List.getElem?_eq_getElem (by omega)⟩
    obtain ⟨y', hy', r, ws, rfl, nr, hr', pw⟩ := Pr_get DD hq
    rw [hy] at hy'
    obtain rfl := Option.some.inj hy'
    refine ⟨rfl, ?_⟩
    refine yesT ?_
    refine ⟨_, rfl, 1, rfl, r, _, rfl, SqL.of (g' _ _ hr'), fun b nb => ?_⟩
    rw [cut_tail]
    have g2 := new_same nb (.lst ws)
    have hb : (upd H' b (.lst ws)) b = some (.lst ws) := upd_same
    generalize upd H' b (.lst ws) = Hb at g2 hb
    have bD : b ≠ D5 := fun e => by rw [e, hD] at nb; cases nb
    have fin : ∀ c o, c ≠ D5 → Hb c = some o → c ≠ D5 ∧ (upd Hb D5 (.lst (zs ++ [.ref b]))) c = some o := fun c o n e => ⟨n, by rw [upd_ne n]; exact e⟩
    refine ⟨zs, g2 _ _ hD, small1000 (by omega), fun c o e => by rw [upd_ne (ne_of_none e nD5)]; exact g2 _ _ (g' _ _ e), zs ++ [.ref b], upd_same, ?_, ?_⟩
    · rw [List.length_append, lz]
      rfl
    · rw [List.take_add_one, hq]
      refine Paired.snoc (L2.Paired.mapP pr fun q x z => ?_) ⟨b, ws, rfl, bD, (fin _ _ bD hb).2, L2.Paired.mapP pw fun v u z => z.mono (fun c o n e => fin _ _ n (g2 _ _ (g' _ _ e))) (fun c o n e => fin _ _ n (g2 _ _ (g' _ _ e)))⟩
      obtain ⟨c, us, rfl, n, h, pz⟩ := z
      exact ⟨c, us, rfl, n, (fin _ _ n (g2 _ _ h)).2, L2.Paired.mapP pz fun v u z => z.mono (fun c o n e => fin _ _ n (g2 _ _ e)) (fun c o n e => fin _ _ n (g2 _ _ e))⟩
  rintro H7 ⟨g7, zs, hzs, lz, ZZ⟩
  have l3 := DD.length
  rw [List.take_of_length_le (by omega)] at ZZ
  refine ⟨.ref D4, .ref D5, fun _ => True, fun _ => True, rfl, .inr ⟨D4, D5, rs, zs, rfl, rfl, by omega, trivial, trivial, Pr_join (fun q x y h1 h2 => ?_) RR ZZ, .inl ⟨g7 _ _ hrs, hzs⟩⟩, fun H8 s8 => ?_⟩
  · obtain ⟨b, rfl, _, hb⟩ := h1
    obtain ⟨c, ws, rfl, _, hc, pw⟩ := h2
    refine .inr ⟨b, c, _, ws, rfl, rfl, ?_, trivial, trivial, L2.Paired.mapP pw fun v u z => z.mono (fun c o _ e => ⟨trivial, e⟩) (fun c o _ e => ⟨trivial, e⟩), .inl ⟨g7 _ _ hb, hc⟩⟩
    rw [List.length_take]
    show min _ 2 ≤ 60
    omega
  have gz := g.trans (g6.trans (g7.trans s8))
  exact q H8 (b4.same gz) (u4.trans (But.same gz))
end
end Kz
end
section
set_option maxHeartbeats 4000000
namespace Kz
open PySem PySem.Spec PyProof.Rows L2
def pk0 : List Str := ["InvalidNumber", "InvalidFraction", "InvalidOrder", "OrderTooLow", "UnlikeOrders", "InvalidPlace", "InvalidPower", "InvalidTimes", "InvalidText", "InvalidTable"]
theorem pk0_in : ∀ x ∈ pk0, ∃ d, d ∈ cdT ∧ d.nm = x := by decide +kernel
def pk1 : List Str := ["CantTurn", "NotSlow", "NotOne", "NotUnit", "NotATable", "DividedByZero", "IsStill", "NotAFlow", "InvalidFlat", "NotAClock"]
theorem pk1_in : ∀ x ∈ pk1, ∃ d, d ∈ cdT ∧ d.nm = x := by decide +kernel
def pk2 : List Str := ["UnlikeFlats", "NotAlike", "InvalidLead", "InvalidTime", "InvalidTop", "NotInFamily", "NoFlips", "NotFolded", "InvalidFar", "NotFar"]
theorem pk2_in : ∀ x ∈ pk2, ∃ d, d ∈ cdT ∧ d.nm = x := by decide +kernel
def pk3 : List Str := ["NotLed", "NotInCrew", "InCrew", "InvalidName", "InvalidNames", "InvalidWord", "SameName", "NotOpen", "InvalidStep", "InvalidPaper"]
theorem pk3_in : ∀ x ∈ pk3, ∃ d, d ∈ cdT ∧ d.nm = x := by decide +kernel
def pk4 : List Str := ["InvalidDeed", "InvalidLine", "TooMany", "Solved", "Tied", "NotSquare", "UnknownName", "UnknownStep", "NothingLeft"]
theorem pk4_in : ∀ x ∈ pk4, ∃ d, d ∈ cdT ∧ d.nm = x := by decide +kernel
theorem st_get {l : List Str} {i : Nat} {y : V} (h : (strV l)[i]? = some y) : ∃ x ∈ l, y = .str x := by
  unfold strV at h
  rw [List.getElem?_map] at h
  obtain ⟨x, hx, e⟩ := Option.map_eq_some_iff.mp h
  exact ⟨x, List.mem_of_getElem? hx, e.symm⟩
def spLaw (K : PySem.W.Frag) : Sp := fun vs H Q _ => ∃ (a : Addr) (ns : List Int), vs = [.ref a] ∧ SqL K H a (ns.map V.int) ∧ ∀ H', Q (.bl true) H'
section
variable {P : Program} {w : World} {K : PySem.W.Frag} {mg : Str → Option Value} {base : Heap} {f fB fS : Addr} {fd fdB fdS : FuncData}
theorem scLaw : FnScope ["_law_script", "_law_bag_here", "_law_pick"] ["_law_script"] (defScope (top 71)) := ⟨rfl, rfl, rfl, by decide +kernel, rfl, by decide +kernel, by decide +kernel⟩
theorem ok_law (F : Fun K "law" "law" (top 71) f fd)
    (GB : FnOk P w K mg base CX0 1 fB fdB ["_law_script"] (spBag K)) (bB : Binds K fdB ["_law_script"] []) (kB : PySem.W.keepIn K (.ref fB) = true) (mB : mg "_law_bag" = some (.ref fB))
    (GS : FnOk P w K mg base CX0 6 fS fdS ["_law_bag_here", "_law_pick"] spSo) (bS : Binds K fdS ["_law_bag_here", "_law_pick"] []) (kS : PySem.W.keepIn K (.ref fS) = true) (mS : mg "_law_so" = some (.ref fS)) :
    FnOk P w K mg base CX0 7 f fd ["_law_script"] (spLaw K) := by
  refine F.ok scLaw (fun vs H Q E h => ?_) (fun cdv A outer s H vs Q E hr h => ?_)
  · obtain ⟨a, ns, rfl, _⟩ := h
    rfl
  obtain ⟨a, ns, rfl, hs, q⟩ := h
  have hr1 := hr.mono (show 1 ≤ 6 by decide)
  refine ⟨_, pss_cons (ps_set (i := 1) scLaw.nd rfl (Or.inl rfl) (pe_call GB hr1 rfl mB kB bB .nil pass0 (pa_cons (pv 0) pa_nil)))
    (pss_cons (ps_for PassesOwn.never rfl (pi_tup (pe_tup (pa_cons pe_str (pa_cons pe_str (pa_cons pe_str (pa_cons pe_str (pa_cons pe_str (pa_cons pe_str (pa_cons pe_str (pa_cons pe_str (pa_cons pe_str (pa_cons pe_str pa_nil)))))))))))) (pg_name (i := 2) scLaw.nd rfl (Or.inl rfl)) (pss_one (ps_if (pt_not (pt_val (pe_call GS hr rfl mS kS bS .nil pass0 (pa_cons (pv 1) (pa_cons (pv 2) pa_nil))))) (pss_one (ps_ret pe_bl)) pss_nil)))
    (pss_cons (ps_for PassesOwn.never rfl (pi_tup (pe_tup (pa_cons pe_str (pa_cons pe_str (pa_cons pe_str (pa_cons pe_str (pa_cons pe_str (pa_cons pe_str (pa_cons pe_str (pa_cons pe_str (pa_cons pe_str (pa_cons pe_str pa_nil)))))))))))) (pg_name (i := 2) scLaw.nd rfl (Or.inl rfl)) (pss_one (ps_if (pt_not (pt_val (pe_call GS hr rfl mS kS bS .nil pass0 (pa_cons (pv 1) (pa_cons (pv 2) pa_nil))))) (pss_one (ps_ret pe_bl)) pss_nil)))
    (pss_cons (ps_for PassesOwn.never rfl (pi_tup (pe_tup (pa_cons pe_str (pa_cons pe_str (pa_cons pe_str (pa_cons pe_str (pa_cons pe_str (pa_cons pe_str (pa_cons pe_str (pa_cons pe_str (pa_cons pe_str (pa_cons pe_str pa_nil)))))))))))) (pg_name (i := 2) scLaw.nd rfl (Or.inl rfl)) (pss_one (ps_if (pt_not (pt_val (pe_call GS hr rfl mS kS bS .nil pass0 (pa_cons (pv 1) (pa_cons (pv 2) pa_nil))))) (pss_one (ps_ret pe_bl)) pss_nil)))
    (pss_cons (ps_for PassesOwn.never rfl (pi_tup (pe_tup (pa_cons pe_str (pa_cons pe_str (pa_cons pe_str (pa_cons pe_str (pa_cons pe_str (pa_cons pe_str (pa_cons pe_str (pa_cons pe_str (pa_cons pe_str (pa_cons pe_str pa_nil)))))))))))) (pg_name (i := 2) scLaw.nd rfl (Or.inl rfl)) (pss_one (ps_if (pt_not (pt_val (pe_call GS hr rfl mS kS bS .nil pass0 (pa_cons (pv 1) (pa_cons (pv 2) pa_nil))))) (pss_one (ps_ret pe_bl)) pss_nil)))
    (pss_cons (ps_for PassesOwn.never rfl (pi_tup (pe_tup (pa_cons pe_str (pa_cons pe_str (pa_cons pe_str (pa_cons pe_str (pa_cons pe_str (pa_cons pe_str (pa_cons pe_str (pa_cons pe_str (pa_cons pe_str pa_nil))))))))))) (pg_name (i := 2) scLaw.nd rfl (Or.inl rfl)) (pss_one (ps_if (pt_not (pt_val (pe_call GS hr rfl mS kS bS .nil pass0 (pa_cons (pv 1) (pa_cons (pv 2) pa_nil))))) (pss_one (ps_ret pe_bl)) pss_nil)))
    (pss_one (ps_ret pe_bl))))))), ?_⟩
  refine ⟨_, rfl, a, ns, rfl, hs, fun H0 B p s0 nB b0 => ?_⟩
  refine ⟨(by show 10 ≤ sizeLine; decide), fun T0 nT0 => ?_⟩
  have c0 := b0.put (o := .tup (strV pk0)) nT0
  refine ⟨T0, rfl, ⟨strV pk0, SqT.of upd_same⟩, for_tup (K := K) (a := T0) (xs := strV pk0) (fun i σ H' => Bag H' B p ∧ H' T0 = some (.tup (strV pk0)) ∧ ∃ v : Option V, σ = [some (.ref a), some (.ref B), v]) ⟨c0, upd_same, _, rfl⟩ (fun i σ H' _ h => SqT.of h.2.1) ?_ ?_⟩
  · rintro i y σ H' hy ⟨b', hT, v, rfl⟩
    obtain ⟨x, hx, rfl⟩ := st_get hy
    obtain ⟨d, hd, rfl⟩ := pk0_in x hx
    exact ⟨_, rfl, _, rfl, d, B, p, hd, rfl, b', fun Hz bz uz => ⟨_, rfl, iteF ⟨bz, uz _ _ (b0.at nT0).1 hT, _, rfl⟩⟩⟩
  rintro σ1 H1 ⟨b1, _, v1, rfl⟩
  refine ⟨(by show 10 ≤ sizeLine; decide), fun T1 nT1 => ?_⟩
  have c1 := b1.put (o := .tup (strV pk1)) nT1
  refine ⟨T1, rfl, ⟨strV pk1, SqT.of upd_same⟩, for_tup (K := K) (a := T1) (xs := strV pk1) (fun i σ H' => Bag H' B p ∧ H' T1 = some (.tup (strV pk1)) ∧ ∃ v : Option V, σ = [some (.ref a), some (.ref B), v]) ⟨c1, upd_same, _, rfl⟩ (fun i σ H' _ h => SqT.of h.2.1) ?_ ?_⟩
  · rintro i y σ H' hy ⟨b', hT, v, rfl⟩
    obtain ⟨x, hx, rfl⟩ := st_get hy
    obtain ⟨d, hd, rfl⟩ := pk1_in x hx
    exact ⟨_, rfl, _, rfl, d, B, p, hd, rfl, b', fun Hz bz uz => ⟨_, rfl, iteF ⟨bz, uz _ _ (b1.at nT1).1 hT, _, rfl⟩⟩⟩
  rintro σ2 H2 ⟨b2, _, v2, rfl⟩
  refine ⟨(by show 10 ≤ sizeLine; decide), fun T2 nT2 => ?_⟩
  have c2 := b2.put (o := .tup (strV pk2)) nT2
  refine ⟨T2, rfl, ⟨strV pk2, SqT.of upd_same⟩, for_tup (K := K) (a := T2) (xs := strV pk2) (fun i σ H' => Bag H' B p ∧ H' T2 = some (.tup (strV pk2)) ∧ ∃ v : Option V, σ = [some (.ref a), some (.ref B), v]) ⟨c2, upd_same, _, rfl⟩ (fun i σ H' _ h => SqT.of h.2.1) ?_ ?_⟩
  · rintro i y σ H' hy ⟨b', hT, v, rfl⟩
    obtain ⟨x, hx, rfl⟩ := st_get hy
    obtain ⟨d, hd, rfl⟩ := pk2_in x hx
    exact ⟨_, rfl, _, rfl, d, B, p, hd, rfl, b', fun Hz bz uz => ⟨_, rfl, iteF ⟨bz, uz _ _ (b2.at nT2).1 hT, _, rfl⟩⟩⟩
  rintro σ3 H3 ⟨b3, _, v3, rfl⟩
  refine ⟨(by show 10 ≤ sizeLine; decide), fun T3 nT3 => ?_⟩
  have c3 := b3.put (o := .tup (strV pk3)) nT3
  refine ⟨T3, rfl, ⟨strV pk3, SqT.of upd_same⟩, for_tup (K := K) (a := T3) (xs := strV pk3) (fun i σ H' => Bag H' B p ∧ H' T3 = some (.tup (strV pk3)) ∧ ∃ v : Option V, σ = [some (.ref a), some (.ref B), v]) ⟨c3, upd_same, _, rfl⟩ (fun i σ H' _ h => SqT.of h.2.1) ?_ ?_⟩
  · rintro i y σ H' hy ⟨b', hT, v, rfl⟩
    obtain ⟨x, hx, rfl⟩ := st_get hy
    obtain ⟨d, hd, rfl⟩ := pk3_in x hx
    exact ⟨_, rfl, _, rfl, d, B, p, hd, rfl, b', fun Hz bz uz => ⟨_, rfl, iteF ⟨bz, uz _ _ (b3.at nT3).1 hT, _, rfl⟩⟩⟩
  rintro σ4 H4 ⟨b4, _, v4, rfl⟩
  refine ⟨(by show 9 ≤ sizeLine; decide), fun T4 nT4 => ?_⟩
  have c4 := b4.put (o := .tup (strV pk4)) nT4
  refine ⟨T4, rfl, ⟨strV pk4, SqT.of upd_same⟩, for_tup (K := K) (a := T4) (xs := strV pk4) (fun i σ H' => Bag H' B p ∧ H' T4 = some (.tup (strV pk4)) ∧ ∃ v : Option V, σ = [some (.ref a), some (.ref B), v]) ⟨c4, upd_same, _, rfl⟩ (fun i σ H' _ h => SqT.of h.2.1) ?_ ?_⟩
  · rintro i y σ H' hy ⟨b', hT, v, rfl⟩
    obtain ⟨x, hx, rfl⟩ := st_get hy
    obtain ⟨d, hd, rfl⟩ := pk4_in x hx
    exact ⟨_, rfl, _, rfl, d, B, p, hd, rfl, b', fun Hz bz uz => ⟨_, rfl, iteF ⟨bz, uz _ _ (b4.at nT4).1 hT, _, rfl⟩⟩⟩
  rintro σ5 H5 ⟨b5, _, v5, rfl⟩
  exact q _
end
end Kz
end
section
set_option maxHeartbeats 4000000
namespace Kz
open PySem PySem.Spec PyProof.Rows L2
section
variable {P : Program} {w : World} {K : PySem.W.Frag} {mg : Str → Option Value} {h : Heap}
/-- a def of the law, by its place in the table -/
theorem at_ld (X : K.In h) (G : h.Ns mainGlobals mg) (c : SaysP K) {d : LD} (i : Nat) (e : ldT[i]? = some d) : (∃ fd, Fun K d.nm d.nm (top d.ix) d.f fd) ∧ mg d.nm = some (.ref d.f) :=
  ⟨fun_law c (List.mem_of_getElem? e), mg_ld X G c (List.mem_of_getElem? e)⟩
theorem facts {f : Addr} (X : K.In h) (G : h.Ns mainGlobals mg) (hfa : mg ("law" : Str) = some (.ref f)) (c : SaysP K) :
    ∃ fd : FuncData, (∀ (s : Shared) (v : Value), BindsTo s fd ⟨[v], []⟩ [("_law_script", v)]) ∧ ∀ base : Heap, K.In base → base.Ns mainGlobals mg → FnOk P w K mg base CX0 7 f fd ["_law_script"] (spLaw K) := by
  have mf : ∀ x ∈ freeN, mg x = none := fun x hx => mg_free X G c hx
  have mL := mf "len" (by decide)
  have mI := mf "isinstance" (by decide)
  have ml := mf "list" (by decide)
  have mt := mf "tuple" (by decide)
  have mi := mf "int" (by decide)
  have mr := mf "range" (by decide)
  have ma := mf "all" (by decide)
  have mz := mf "zip" (by decide)
  have mb := mf "bool" (by decide)
  have ms := mf "str" (by decide)
  have mC : ∀ d ∈ cdT, mg d.nm = some (.ref d.C) := fun d hd => mg_cd X G c hd
  have mO := mg_ob X G c
  obtain ⟨⟨dbag, Fbag⟩, mbag_⟩ := at_ld X G c 0 rfl
  have bbag_ : Binds K dbag ["_law_script"] [] := Fbag.binds fun _ _ _ _ _ _ us hl => match us, hl with | [_], _ => rfl
  obtain ⟨⟨ddraw, Fdraw⟩, mdraw_⟩ := at_ld X G c 1 rfl
  have bdraw_ : Binds K ddraw ["_law_bag_here", "_law_limit"] [] := Fdraw.binds fun _ _ _ _ _ _ us hl => match us, hl with | [_, _], _ => rfl
  obtain ⟨⟨dof, Fof⟩, mof_⟩ := at_ld X G c 2 rfl
  have bof_ : Binds K dof ["_law_bag_here", "_law_things"] [] := Fof.binds fun _ _ _ _ _ _ us hl => match us, hl with | [_, _], _ => rfl
  obtain ⟨⟨dlike, Flike⟩, mlike_⟩ := at_ld X G c 3 rfl
  have blike_ : Binds K dlike ["_law_told_here", "_law_due_here"] [] := Flike.binds fun _ _ _ _ _ _ us hl => match us, hl with | [_, _], _ => rfl
  obtain ⟨⟨dfirst, Ffirst⟩, mfirst_⟩ := at_ld X G c 4 rfl
  have bfirst_ : Binds K dfirst ["_law_pick", "_law_a", "_law_way"] [] := Ffirst.binds fun _ _ _ _ _ _ us hl => match us, hl with | [_, _, _], _ => rfl
  obtain ⟨⟨dsecond, Fsecond⟩, msecond_⟩ := at_ld X G c 5 rfl
  have bsecond_ : Binds K dsecond ["_law_pick", "_law_a", "_law_way"] [] := Fsecond.binds fun _ _ _ _ _ _ us hl => match us, hl with | [_, _, _], _ => rfl
  obtain ⟨⟨dboth, Fboth⟩, mboth_⟩ := at_ld X G c 6 rfl
  have bboth_ : Binds K dboth ["_law_pick", "_law_a", "_law_b", "_law_way"] [] := Fboth.binds fun _ _ _ _ _ _ us hl => match us, hl with | [_, _, _, _], _ => rfl
  obtain ⟨⟨dbare, Fbare⟩, mbare_⟩ := at_ld X G c 7 rfl
  have bbare_ : Binds K dbare ["_law_pick"] [] := Fbare.binds fun _ _ _ _ _ _ us hl => match us, hl with | [_], _ => rfl
  obtain ⟨⟨dtold, Ftold⟩, mtold_⟩ := at_ld X G c 8 rfl
  have btold_ : Binds K dtold ["_law_error", "_law_words_here"] [] := Ftold.binds fun _ _ _ _ _ _ us hl => match us, hl with | [_, _], _ => rfl
  obtain ⟨⟨dkinds, Fkinds⟩, mkinds_⟩ := at_ld X G c 9 rfl
  have bkinds_ : Binds K dkinds ["_law_error"] [] := Fkinds.binds fun _ _ _ _ _ _ us hl => match us, hl with | [_], _ => rfl
  obtain ⟨⟨dkindstoo, Fkindstoo⟩, mkindstoo_⟩ := at_ld X G c 10 rfl
  have bkindstoo_ : Binds K dkindstoo ["_law_error"] [] := Fkindstoo.binds fun _ _ _ _ _ _ us hl => match us, hl with | [_], _ => rfl
  obtain ⟨⟨dwords, Fwords⟩, mwords_⟩ := at_ld X G c 11 rfl
  have bwords_ : Binds K dwords ["_law_pick"] [] := Fwords.binds fun _ _ _ _ _ _ us hl => match us, hl with | [_], _ => rfl
  obtain ⟨⟨ddue, Fdue⟩, mdue_⟩ := at_ld X G c 12 rfl
  have bdue_ : Binds K ddue ["_law_pick"] [] := Fdue.binds fun _ _ _ _ _ _ us hl => match us, hl with | [_], _ => rfl
  obtain ⟨⟨dthing, Fthing⟩, mthing_⟩ := at_ld X G c 13 rfl
  have bthing_ : Binds K dthing ["_law_bag_here", "_law_deep"] [] := Fthing.binds fun _ _ _ _ _ _ us hl => match us, hl with | [_, _], _ => rfl
  obtain ⟨⟨dcopied, Fcopied⟩, mcopied_⟩ := at_ld X G c 14 rfl
  have bcopied_ : Binds K dcopied ["_law_thing_here"] [] := Fcopied.binds fun _ _ _ _ _ _ us hl => match us, hl with | [_], _ => rfl
  obtain ⟨⟨dmade, Fmade⟩, mmade_⟩ := at_ld X G c 15 rfl
  have bmade_ : Binds K dmade ["_law_pick", "_law_pair", "_law_way"] [] := Fmade.binds fun _ _ _ _ _ _ us hl => match us, hl with | [_, _, _], _ => rfl
  obtain ⟨⟨dso, Fso⟩, mso_⟩ := at_ld X G c 16 rfl
  have bso_ : Binds K dso ["_law_bag_here", "_law_pick"] [] := Fso.binds fun _ _ _ _ _ _ us hl => match us, hl with | [_, _], _ => rfl
  obtain ⟨⟨fd, F⟩, mg0⟩ := at_ld X G c 17 rfl
  have e : f = 1099 := Value.ref.inj (Option.some.inj (hfa.symm.trans mg0))
  subst e
  have b : Binds K fd ["_law_script"] [] := F.binds fun _ _ _ _ _ _ us hl => match us, hl with | [_], _ => rfl
  refine ⟨fd, fun s v => ?_, fun base _ _ => ?_⟩
  · obtain ⟨oc, od, kV, doc, pm, an, cdv, ct, osl, e, lk, hcd⟩ := F.ex
    rw [e]
    exact .of_eq rfl
  have hMk : ∀ d ∈ cdT, Mk0 P w K mg base d := fun d hd => mk_all c X G hd
  have Gdraw : FnOk P w K mg base CX0 1 _ _ _ spDraw := ok_draw Fdraw mL mi
  have Gbag : FnOk P w K mg base CX0 1 _ _ _ (spBag K) := ok_bag Fbag ml mi
  have GofL : FnOk P w K mg base CX0 2 _ _ _ spOfL := ok_ofL Fof Gdraw bdraw_ Fdraw.kp mdraw_ mL
  have GofS : FnOk P w K mg base CX0 2 _ _ _ spOfS := ok_ofS Fof Gdraw bdraw_ Fdraw.kp mdraw_ mL
  have T0 : FnOk P w K mg base CX0 2 1075 dthing ["_law_bag_here", "_law_deep"] (spThing 0) := thing_never
  have T1 : FnOk P w K mg base CX0 3 _ _ _ (spThing 1) := ok_thing (m := 0) Fthing bthing_ mthing_ T0 Gdraw bdraw_ Fdraw.kp mdraw_ GofL GofS bof_ Fof.kp mof_ mr mt
  have T2 : FnOk P w K mg base CX0 4 _ _ _ (spThing 2) := ok_thing (m := 1) Fthing bthing_ mthing_ T1 Gdraw bdraw_ Fdraw.kp mdraw_ GofL GofS bof_ Fof.kp mof_ mr mt
  have T3 : FnOk P w K mg base CX0 5 _ _ _ (spThing 3) := ok_thing (m := 2) Fthing bthing_ mthing_ T2 Gdraw bdraw_ Fdraw.kp mdraw_ GofL GofS bof_ Fof.kp mof_ mr mt
  have C0 : FnOk P w K mg base CX0 1 _ _ _ (spCopied 0) := ok_copied Fcopied bcopied_ mcopied_ (fun n' e => by cases e) mI ml mt
  have C1 : FnOk P w K mg base CX0 2 _ _ _ (spCopied 1) := ok_copied Fcopied bcopied_ mcopied_ (fun n' e => by cases e; exact C0) mI ml mt
  have C2 : FnOk P w K mg base CX0 3 _ _ _ (spCopied 2) := ok_copied Fcopied bcopied_ mcopied_ (fun n' e => by cases e; exact C1) mI ml mt
  have C3 : FnOk P w K mg base CX0 4 _ _ _ (spCopied 3) := ok_copied Fcopied bcopied_ mcopied_ (fun n' e => by cases e; exact C2) mI ml mt
  have L0 : FnOk P w K mg base CX0 1 _ _ _ (spLike 0) := ok_like Flike blike_ mlike_ (fun n' e => by cases e) mI ml mt mb ms mi mL mz ma
  have L1 : FnOk P w K mg base CX0 2 _ _ _ (spLike 1) := ok_like Flike blike_ mlike_ (fun n' e => by cases e; exact L0) mI ml mt mb ms mi mL mz ma
  have L2' : FnOk P w K mg base CX0 3 _ _ _ (spLike 2) := ok_like Flike blike_ mlike_ (fun n' e => by cases e; exact L1) mI ml mt mb ms mi mL mz ma
  have L3 : FnOk P w K mg base CX0 4 _ _ _ (spLike 3) := ok_like Flike blike_ mlike_ (fun n' e => by cases e; exact L2') mI ml mt mb ms mi mL mz ma
  have L4 : FnOk P w K mg base CX0 5 _ _ _ (spLike 4) := ok_like Flike blike_ mlike_ (fun n' e => by cases e; exact L3) mI ml mt mb ms mi mL mz ma
  have Gw : FnOk P w K mg base CX0 1 _ _ _ spWords := ok_words Fwords
  have Gu : FnOk P w K mg base CX0 1 _ _ _ spDue := ok_due Fdue
  have G1 : FnOk P w K mg base CX0 3 _ _ _ (spFirst firsts) := ok_law_first Ffirst hMk
  have G2 : FnOk P w K mg base CX0 3 _ _ _ (spFirst seconds) := ok_law_second Fsecond hMk
  have Gb : FnOk P w K mg base CX0 3 _ _ _ spBoth := ok_law_both Fboth hMk
  have G0 : FnOk P w K mg base CX0 3 _ _ _ spBare := ok_law_bare Fbare hMk
  have Gm : FnOk P w K mg base CX0 4 _ _ _ spMade := ok_made Fmade mL Gw bwords_ Fwords.kp mwords_ Gb bboth_ Fboth.kp mboth_ G0 bbare_ Fbare.kp mbare_ G1 bfirst_ Ffirst.kp mfirst_ G2 bsecond_ Fsecond.kp msecond_
  have Gt : FnOk P w K mg base CX0 1 _ _ _ spTold := ok_told Ftold c
  have Gk : FnOk P w K mg base CX0 1 _ _ _ (spKinds kn1) := ok_law_kinds Fkinds c mI mC mO mf
  have Gj : FnOk P w K mg base CX0 1 _ _ _ (spKinds kn2) := ok_law_kinds_too Fkindstoo c mI mC mO mf
  have Gs : FnOk P w K mg base CX0 6 _ _ _ spSo := ok_so Fso mL mr ml Gw bwords_ Fwords.kp mwords_ T3 bthing_ Fthing.kp mthing_ Gdraw bdraw_ Fdraw.kp mdraw_ C3 bcopied_ Fcopied.kp mcopied_ Gm bmade_ Fmade.kp mmade_ L4 blike_ Flike.kp mlike_ Gt btold_ Ftold.kp mtold_ Gk bkinds_ Fkinds.kp mkinds_ Gj bkindstoo_ Fkindstoo.kp mkindstoo_ Gu bdue_ Fdue.kp mdue_
  exact ok_law F Gbag bbag_ Fbag.kp mbag_ Gs bso_ Fso.kp mso_
end
end Kz
end
section
set_option maxHeartbeats 0
open PySem PySem.W PySem.Calls PyProof.Rows
theorem PySem.Challenge.cw_creepclocks_k00_errors_by_themselves_holds : PySem.Challenge.rw_creepclocks_k00_errors_by_themselves.Holds := by
  w_on; o_law
  refine HandSHeadRun.head_any (r := OpenLaw.row PySem.Challenge.rw_creepclocks_k00_errors_by_themselves) (q := view (OpenLaw.row PySem.Challenge.rw_creepclocks_k00_errors_by_themselves).prog [71]) (H := Kz.hookP) (ob := Kz.ob) (M := 20000) (loose := Kz.names) (d := HandSHeadRun.topDef (OpenLaw.row PySem.Challenge.rw_creepclocks_k00_errors_by_themselves).prog 71) (kwd := []) Kz.ob_eq
    (by kernel_rfl) (fun s => by kernel_rfl) Kz.run (by kernel_rfl) (by kernel_rfl) (by kernel_rfl) (by rfl) (by first | assumption | decide +kernel) (by decide +kernel) ⟨rfl, rfl, rfl, rfl, rfl, by decide +kernel⟩ ?hw ?hc
  case hw => w_witness2
  case hc =>
    refine L2.walk_ofE (l := PySem.Challenge.rw_creepclocks_k00_errors_by_themselves) (n := 63) (k := 7) (x := "_law_script") (CX := L2.CX0) rfl (by decide) (by kernel_rfl) ⟨rfl, by decide, by decide⟩ ?F (fun _ _ _ _ z => z)
    intro w mg fa h Y G hmg0
    obtain ⟨K, KX, c⟩ := Y
    have hmg : mg ("law" : PySem.Str) = some (.ref fa) := by
      have e : (HandSHeadRun.topDef (OpenLaw.row PySem.Challenge.rw_creepclocks_k00_errors_by_themselves).prog 71).name = ("law" : PySem.Str) := by kernel_rfl
      rw [← e]
      exact hmg0
    obtain ⟨fd, hb, hF⟩ := Kz.facts (P := (PySem.Challenge.rw_creepclocks_k00_errors_by_themselves).prog) (w := w) KX G hmg c
    exact ⟨K, fd, Kz.spLaw K, KX, hb, fun H a ns hl _ hS => ⟨a, ns, rfl, hS, fun _ => rfl⟩, hF⟩
end
