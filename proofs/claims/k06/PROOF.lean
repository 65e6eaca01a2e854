import PyProof.Rows.All
import Wide.All
import OpenK.AllK
import Wide.FinOn
import HandS.Words
import HandS.WordsExc
import HandS.ForMost
import HandS.Zip
import HandS.Codes
import HandS.Walk
import HandS.Wide
import HandS.Gcd
import HandS.IsInst
import HandS.AnyAll
import HandS.ClsMeth
import HandS.Lambda
import HandS.ExcInitHot
import HandS.Defaults
import HandS.HeadHook1
import HandS.HeadHook2
import HandS.HeadNt
import HandS.NestedK
import KE.KExcInit
import KE.KStateDown
import Lean
import HandS.Head0
import HandS.Head1
import HandS.Head2
import HandS.Head3
import HandS.HeadEnd
import HandS.ExcInit
import KE.KExcIs
import HandS.MakeKw
import HandS.Exc
import HandS.ExcIs
import HandS.ExcField
import HandS.TryMany
import HandS.HotCalls
import PyProof.Draws
import PyProof.EnumMake
import KE.GoesMore
import HandS.MakeKwOnly
import HandS.Zip0
import HandS.ListEq
import HandS.OwnEq
import HandS.Style
import HandS.HeadWalk
import PySem.Challenge.RW_creepclocks_k06_whole_steps_turned_back
set_option Elab.async false
set_option linter.all false
set_option maxRecDepth 100000
section
set_option maxHeartbeats 4000000
namespace Kx
open PySem PySem.Spec PyProof.Rows L2
def top (i : Nat) : Stmt := PySem.Challenge.pw_creepclocks_k06_whole_steps_turned_back.main.body.getD i (.Pass ⟨0, 0, 0, 0⟩)
abbrev F__wall : Stmt := top 1
abbrev C_CreepError : Stmt := top 3
abbrev C_InvalidFraction : Stmt := top 4
abbrev C_InvalidFraction_init : Stmt := inClass (top 4) 0
abbrev C_InvalidOrder : Stmt := top 5
abbrev C_InvalidOrder_init : Stmt := inClass (top 5) 0
abbrev C_OrderTooLow : Stmt := top 6
abbrev C_OrderTooLow_init : Stmt := inClass (top 6) 0
abbrev C_UnlikeOrders : Stmt := top 7
abbrev C_UnlikeOrders_init : Stmt := inClass (top 7) 0
abbrev C_InvalidPlace : Stmt := top 8
abbrev C_InvalidPlace_init : Stmt := inClass (top 8) 0
abbrev C_InvalidPower : Stmt := top 9
abbrev C_InvalidPower_init : Stmt := inClass (top 9) 0
abbrev C_CantTurn : Stmt := top 10
abbrev C_CantTurn_init : Stmt := inClass (top 10) 0
abbrev C_NotSlow : Stmt := top 11
abbrev C_NotSlow_init : Stmt := inClass (top 11) 0
abbrev C_NoAnswer : Stmt := top 12
abbrev C_DividedByZero : Stmt := top 13
abbrev C_DividedByZero_init : Stmt := inClass (top 13) 0
abbrev F_is_whole : Stmt := top 19
abbrev F_is_between : Stmt := top 20
abbrev F_is_fraction : Stmt := top 21
abbrev F_ratio : Stmt := top 22
abbrev F_difference_of : Stmt := top 23
abbrev F_product_of : Stmt := top 24
abbrev F_quotient_of : Stmt := top 25
abbrev F_fraction_text : Stmt := top 26
abbrev F_is_listing : Stmt := top 30
abbrev F_check_order : Stmt := top 31
abbrev F_check_orders : Stmt := top 32
abbrev F_check_cut : Stmt := top 33
abbrev F_check_place : Stmt := top 34
abbrev F_wrong_item : Stmt := top 35
abbrev F_check_fractions : Stmt := top 36
abbrev F_checked_numbers : Stmt := top 37
abbrev F_check_slow : Stmt := top 38
abbrev F_check_turnable : Stmt := top 39
abbrev F_is_zero : Stmt := top 41
abbrev F_least_place : Stmt := top 42
abbrev F_differences_of : Stmt := top 43
abbrev F_dot : Stmt := top 44
abbrev F_mixed : Stmt := top 45
abbrev F_over_one_lower : Stmt := top 46
abbrev F_multiplied : Stmt := top 47
abbrev F_still_numbers : Stmt := top 48
abbrev F_table_lines : Stmt := top 49
abbrev F_put_behind : Stmt := top 50
abbrev F_solved : Stmt := top 51
abbrev F_turned_back : Stmt := top 52
abbrev F_done_times : Stmt := top 53
abbrev F_differences : Stmt := top 54
abbrev F_binomials : Stmt := top 55
abbrev F_binomial_power : Stmt := top 56
abbrev F_letter_text : Stmt := top 58
abbrev F_term_text : Stmt := top 59
abbrev F_term_words : Stmt := top 60
abbrev F_numbers_text : Stmt := top 61
abbrev F_kind_of : Stmt := top 63
abbrev C_Step : Stmt := top 64
abbrev C_Step_init : Stmt := inClass (top 64) 0
abbrev C_Step_still : Stmt := inClass (top 64) 1
abbrev C_Step_scaling : Stmt := inClass (top 64) 2
abbrev C_Step_numbers : Stmt := inClass (top 64) 3
abbrev C_Step_number : Stmt := inClass (top 64) 4
abbrev C_Step_power : Stmt := inClass (top 64) 5
abbrev C_Step_renamed : Stmt := inClass (top 64) 6
abbrev C_Step_cut : Stmt := inClass (top 64) 7
abbrev C_Step_gone_on : Stmt := inClass (top 64) 8
abbrev C_Step_as_row : Stmt := inClass (top 64) 9
abbrev C_Step_text : Stmt := inClass (top 64) 10
abbrev C_Step_mul : Stmt := inClass (top 64) 11
abbrev C_Step_invert : Stmt := inClass (top 64) 12
abbrev C_Step_eq : Stmt := inClass (top 64) 13
abbrev C_Step_len : Stmt := inClass (top 64) 14
abbrev C_Step_str : Stmt := inClass (top 64) 15
abbrev C_Step_repr : Stmt := inClass (top 64) 16
abbrev F_trade : Stmt := top 65
abbrev F_exchange : Stmt := top 66
abbrev L_bag : Stmt := top 68
abbrev L_draw : Stmt := top 69
abbrev L_of : Stmt := top 70
abbrev L_like : Stmt := top 71
abbrev L_low : Stmt := top 72
abbrev L_add : Stmt := top 73
abbrev L_mul : Stmt := top 74
abbrev L_times : Stmt := top 75
abbrev L_plus : Stmt := top 76
abbrev L_scale : Stmt := top 77
abbrev L_put : Stmt := top 78
abbrev L_behind : Stmt := top 79
abbrev L_still : Stmt := top 80
abbrev L_size : Stmt := top 81
abbrev L_number : Stmt := top 82
abbrev L_full : Stmt := top 83
abbrev L_spread : Stmt := top 84
abbrev L_lead : Stmt := top 85
abbrev L_step : Stmt := top 86
abbrev L_slow : Stmt := top 87
abbrev L_turnable : Stmt := top 88
abbrev L_is : Stmt := top 89
abbrev L_step_so : Stmt := top 90
abbrev L_numbers_so : Stmt := top 91
abbrev L_fault : Stmt := top 92
abbrev L_ask : Stmt := top 93
abbrev L_turned_so : Stmt := top 94
abbrev L_renamed_so : Stmt := top 95
abbrev L_exchange_so : Stmt := top 96
abbrev L_unlike_so : Stmt := top 97
abbrev L_law : Stmt := top 98
end Kx
end
section
set_option maxHeartbeats 4000000
namespace Kx
open PySem PySem.Spec PyProof.Rows L2
/-- a def of the module: its name, its place in the text, its address -/
structure LD where
  nm : Str
  ix : Nat
  f : Addr
def rwN0 : List Str := ["_numbers", "order", "height"]
def stN0 : List Str := ["_numbers", "order", "lead", "kind", "height", "flat", "strength"]
def taN0 : List Str := ["_lines", "order"]
def ldT : List LD := [
  ⟨"is_whole", 19, 256⟩,
  ⟨"is_between", 20, 263⟩,
  ⟨"is_fraction", 21, 270⟩,
  ⟨"ratio", 22, 277⟩,
  ⟨"difference_of", 23, 284⟩,
  ⟨"quotient_of", 25, 298⟩,
  ⟨"is_listing", 30, 312⟩,
  ⟨"check_order", 31, 319⟩,
  ⟨"check_orders", 32, 326⟩,
  ⟨"check_cut", 33, 333⟩,
  ⟨"wrong_item", 35, 347⟩,
  ⟨"check_fractions", 36, 354⟩,
  ⟨"checked_numbers", 37, 361⟩,
  ⟨"check_turnable", 39, 375⟩,
  ⟨"is_zero", 41, 380⟩,
  ⟨"least_place", 42, 387⟩,
  ⟨"dot", 44, 399⟩,
  ⟨"mixed", 45, 404⟩,
  ⟨"over_one_lower", 46, 409⟩,
  ⟨"multiplied", 47, 414⟩,
  ⟨"still_numbers", 48, 421⟩,
  ⟨"table_lines", 49, 426⟩,
  ⟨"put_behind", 50, 433⟩,
  ⟨"solved", 51, 438⟩,
  ⟨"turned_back", 52, 445⟩,
  ⟨"done_times", 53, 452⟩,
  ⟨"kind_of", 63, 506⟩,
  ⟨"trade", 65, 652⟩,
  ⟨"exchange", 66, 659⟩,
  ⟨"_law_bag", 68, 666⟩,
  ⟨"_law_draw", 69, 673⟩,
  ⟨"_law_of", 70, 680⟩,
  ⟨"_law_like", 71, 685⟩,
  ⟨"_law_low", 72, 692⟩,
  ⟨"_law_add", 73, 699⟩,
  ⟨"_law_mul", 74, 706⟩,
  ⟨"_law_times", 75, 713⟩,
  ⟨"_law_plus", 76, 718⟩,
  ⟨"_law_scale", 77, 723⟩,
  ⟨"_law_put", 78, 730⟩,
  ⟨"_law_behind", 79, 737⟩,
  ⟨"_law_still", 80, 744⟩,
  ⟨"_law_size", 81, 751⟩,
  ⟨"_law_number", 82, 758⟩,
  ⟨"_law_full", 83, 765⟩,
  ⟨"_law_spread", 84, 770⟩,
  ⟨"_law_lead", 85, 777⟩,
  ⟨"_law_step", 86, 784⟩,
  ⟨"_law_slow", 87, 791⟩,
  ⟨"_law_turnable", 88, 798⟩,
  ⟨"_law_is", 89, 803⟩,
  ⟨"_law_step_so", 90, 810⟩,
  ⟨"_law_numbers_so", 91, 815⟩,
  ⟨"_law_fault", 92, 822⟩,
  ⟨"_law_ask", 93, 829⟩,
  ⟨"_law_turned_so", 94, 836⟩,
  ⟨"_law_renamed_so", 95, 843⟩,
  ⟨"_law_exchange_so", 96, 850⟩,
  ⟨"_law_unlike_so", 97, 857⟩,
  ⟨"law", 98, 864⟩
]
abbrev stA : Addr := 641
abbrev rwA : Addr := 59
abbrev zeA : Addr := 247
abbrev onA : Addr := 248
abbrev moA : Addr := 249
abbrev ceA : Addr := 59
def csE : _root_.Fin 2 → Addr := fun i => [136, 193].getD i.val 0
abbrev cfA : Addr := 79
abbrev coA : Addr := 98
abbrev clA : Addr := 117
def freeN : List Str := ["isinstance", "len", "list", "tuple", "int", "range", "all", "zip", "bool", "str", "abs", "enumerate", "sum"]
def tabA : List Addr := [831, 838, 845, 852]
def ldD (d : LD) : He5.DefA := { at_ := fun _ => d.f, name := d.nm, qual := d.nm, params := defArgs (top d.ix), body := defBody (top d.ix), scope := defScope (top d.ix) }
def mtD (q nm : Str) (f : Addr) (st : Stmt) : He5.DefA := { at_ := fun _ => f, name := nm, qual := q, params := defArgs st, body := defBody st, scope := defScope st }
def clT : List He5.DefA := [mtD "Step.__init__" "__init__" 520 (inClass (top 64) 0),
  mtD "Step.numbers" "numbers" 547 (inClass (top 64) 3),
  mtD "Step.cut" "cut" 575 (inClass (top 64) 7),
  mtD "Step.power" "power" 561 (inClass (top 64) 5),
  mtD "Step.renamed" "renamed" 568 (inClass (top 64) 6),
  mtD "Step.__mul__" "__mul__" 603 (inClass (top 64) 11),
  mtD "Step.__invert__" "__invert__" 610 (inClass (top 64) 12),
  mtD "Step.__eq__" "__eq__" 617 (inClass (top 64) 13),
  mtD "UnlikeOrders.__init__" "__init__" 133 (inClass (top 7) 0),
  mtD "CantTurn.__init__" "__init__" 190 (inClass (top 10) 0),
  mtD "InvalidFraction.__init__" "__init__" 76 (inClass (top 4) 0),
  mtD "InvalidOrder.__init__" "__init__" 95 (inClass (top 5) 0),
  mtD "OrderTooLow.__init__" "__init__" 114 (inClass (top 6) 0)]
def fnT : List He5.DefA := clT ++ ldT.map ldD
def kpB (K : PySem.W.Frag) (a : Addr) (x y : Int) : Bool := match K.lookup a with
  | some ⟨.type c, _, .seq its _, _⟩ => decide (c = "tuple") && (decide (its.size ≤ sizeLine) && He.relAll [.int x, .int y] its.toList)
  | _ => false
def owT (K : PySem.W.Frag) (C iA : Addr) (ns : List Str) : Bool :=
  PySem.W.plainGet K C Str.empty && (PySem.W.hasDictIn K C && (PySem.W.plainOver K C && (He.eqO (PySem.W.findIn K (.ref C) "__setattr__") (some (some (.builtin "object.__setattr__"))) && (ns.all (fun x => He.eqO (PySem.W.findIn K (.ref C) x) (some none)) &&
  (PySem.W.makesIn K C && (He.eqO (PySem.W.findIn K (.ref C) "__init__") (some (some (.ref iA))) && (PySem.W.isFn K (.ref iA) && (PySem.W.keepIn K (.ref C) && (He.eqO (PySem.W.findIn K (.ref C) "__class__") (some (some (.builtin "object.__class__"))) &&
  (He.eqO (PySem.W.specialIn K (.builtin "object.__class__") "__get__") (some (some (.builtin "getset_descriptor.__get__"))) && (decide (PySem.W.takesIn K (.builtin "object.__class__") = some true) && decide (PySem.W.mroIn K C (.type "object") = some true))))))))))))
/-- an own exception class -/
def exB (K : PySem.W.Frag) (C iA : Addr) (mb : List Value) (nw : String) (ns : List Str) : Bool :=
  PySem.W.excInitIn K C mb nw && (PySem.W.excOver K C mb && ((PySem.W.clsIn K C).isSome && (PySem.W.hasDictIn K C && (He.eqO (PySem.W.findIn K (.ref C) "__setattr__") (some (some (.builtin "object.__setattr__"))) && (He.eqO (PySem.W.findIn K (.ref C) "__getattribute__") (some (some (.builtin "BaseException.__getattribute__"))) &&
  (He.eqO (PySem.W.findIn K (.ref C) "__getattr__") (some none) && (decide (PySem.W.subIn K (.ref C) (.type "BaseException") = some true) && (He.eqO (PySem.W.findIn K (.ref C) "__class__") (some (some (.builtin "object.__class__"))) && (He.eqO (PySem.W.specialIn K (.builtin "object.__class__") "__get__") (some (some (.builtin "getset_descriptor.__get__"))) &&
  (decide (PySem.W.takesIn K (.builtin "object.__class__") = some true) && (decide (PySem.W.mroIn K C (.type "object") = some true) && (PySem.W.keepIn K (.ref C) && (decide (PySem.W.typeIn K (.ref C) = some (.type "type")) && (He.eqO (PySem.W.findIn K (.ref C) "__init__") (some (some (.ref iA))) &&
  (PySem.W.isFn K (.ref iA) && ns.all (fun x => He.eqO (PySem.W.findIn K (.ref C) x) (some none)))))))))))))))))
def codeB (K : PySem.W.Frag) (f c : Addr) : Bool := match K.lookup f with
  | some ⟨_, _, .func fd, _⟩ => (match fd.code with | .ref c' => decide (c' = c) | _ => false)
  | _ => false
def mtB (K : PySem.W.Frag) (C f : Addr) (m : Str) : Bool := He.eqO (PySem.W.findIn K (.ref C) m) (some (some (.ref f))) && PySem.W.isFn K (.ref f)
def mtT : List (Addr × Addr × Str) := [(stA, 547, "numbers"), (stA, 575, "cut"), (stA, 561, "power"), (stA, 568, "renamed"), (stA, 603, "__mul__"), (stA, 610, "__invert__"), (stA, 617, "__eq__")]
/-- the looks -/
def faT : List (PySem.W.Frag → Bool) := [
  fun K => ldT.all fun d => He.eqO (PySem.W.nsIn K mainGlobals d.nm) (some (some (.ref d.f))),
  fun K => freeN.all fun x => He.eqO (PySem.W.nsIn K mainGlobals x) (some none),
  fun K => He.eqO (PySem.W.nsIn K mainGlobals "gcd") (some (some (.builtin "math.gcd"))),
  fun K => He.eqO (PySem.W.nsIn K mainGlobals "lcm") (some (some (.builtin "math.lcm"))),
  fun K => He.eqO (PySem.W.nsIn K mainGlobals "Step") (some (some (.ref stA))),
  fun K => He.eqO (PySem.W.nsIn K mainGlobals "ZERO") (some (some (.ref zeA))),
  fun K => He.eqO (PySem.W.nsIn K mainGlobals "ONE") (some (some (.ref onA))),
  fun K => He.eqO (PySem.W.nsIn K mainGlobals "MINUS_ONE") (some (some (.ref moA))),
  fun K => He.eqO (PySem.W.nsIn K mainGlobals "CreepError") (some (some (.ref ceA))),
  (He.Fa.int "LOWEST_ORDER" 2).ok,
  (He.Fa.int "HIGHEST_ORDER" 24).ok,
  (He.Fa.int "MOST_POWER" 64).ok,
  fun K => kpB K zeA 0 1,
  fun K => kpB K onA 1 1,
  fun K => kpB K moA (-1) 1,
  fun K => owT K stA 520 stN0,
  fun K => exB K 136 133 [.type "ValueError", .type "Exception", .type "BaseException", .type "object"] "ValueError.__new__" ["code", "one", "other"],
  fun K => exB K 193 190 [.type "ValueError", .type "Exception", .type "BaseException", .type "object"] "ValueError.__new__" ["code"],
  fun K => exB K 79 76 [.type "ValueError", .type "Exception", .type "BaseException", .type "object"] "ValueError.__new__" ["code", "at"],
  fun K => exB K 98 95 [.type "ValueError", .type "Exception", .type "BaseException", .type "object"] "ValueError.__new__" ["code", "value"],
  fun K => exB K 117 114 [.type "ValueError", .type "Exception", .type "BaseException", .type "object"] "ValueError.__new__" ["code", "have", "wanted"],
  fun K => He.eqO (PySem.W.nsIn K mainGlobals "UnlikeOrders") (some (some (.ref 136))),
  fun K => He.eqO (PySem.W.nsIn K mainGlobals "CantTurn") (some (some (.ref 193))),
  fun K => He.eqO (PySem.W.nsIn K mainGlobals "InvalidFraction") (some (some (.ref 79))),
  fun K => He.eqO (PySem.W.nsIn K mainGlobals "InvalidOrder") (some (some (.ref 98))),
  fun K => He.eqO (PySem.W.nsIn K mainGlobals "OrderTooLow") (some (some (.ref 117))),
  fun K => (List.finRange 2).all fun i => (List.finRange 2).all fun j => decide (PySem.W.kitOne K (.ref (csE i)) (.ref (csE j)) = some (decide (i = j))),
  fun K => (List.finRange 2).all fun i => decide (PySem.W.exmOne K (.ref (csE i)) (.ref ceA) = some true),
  fun K => (["int", "bool", "str", "tuple", "list"] : List String).all fun n => decide (PySem.W.kitOne K (.ref stA) (.type n) = some false),
  fun K => decide (PySem.W.kitOne K (.ref stA) (.ref rwA) = some false),
  fun K => decide (PySem.W.kitOne K (.ref stA) (.ref stA) = some true),
  fun K => PySem.W.selfFirst K stA,
  fun K => mtT.all fun t => mtB K t.1 t.2.1 t.2.2,
  fun K => tabA.all fun a => (K.lookup a).isNone,
  fun K => codeB K 836 835,
  fun K => codeB K 843 842,
  fun K => codeB K 850 849,
  fun K => codeB K 857 856,
  fun K => PySem.W.codeHdIn K 835 831,
  fun K => PySem.W.codeHdIn K 842 838,
  fun K => PySem.W.codeHdIn K 849 845,
  fun K => PySem.W.codeHdIn K 856 852]
abbrev ObV : Type := Bool × List He5.FnW
def obK (K : PySem.W.Frag) : ObV := ((faT.all fun f => f K) && fnT.all fun d => d.ok K, fnT.map fun d => He5.fnA K (d.at_ K))
def valR : ObV := (true, fnT.map He5.DefA.val)
def adr : List Addr := [mainGlobals, cStatics, stA, 640, ceA, 58, zeA, onA, moA, 136, 135, 193, 192, 79, 78, 98, 97, 117, 116, 520, 519, 547, 546, 575, 574, 561, 560, 568, 567, 603, 602, 610, 609, 617, 616, 133, 132, 190, 189, 76, 75, 95, 94, 114, 113] ++ ldT.flatMap fun d => [d.f, d.f - 1]
def obR (g : Addr → Option Obj) : ObV := obK (He.frG g adr)
def tblB (g : Addr → Option Obj) : Bool := tabA.all fun a => match g a with
  | some ⟨.none, none, .fields vs, sl⟩ => decide (vs = #[]) && decide (sl.size = 0)
  | _ => false
theorem tblB_ok {g : Addr → Option Obj} (h : tblB g = true) : ∀ a ∈ tabA, g a = some { cls := .none, data := .fields #[] } := fun a ha => by
  have q := List.all_eq_true.mp h a ha
  split at q
  · rename_i vs sl e
    obtain ⟨q1, q2⟩ := He.ba q
    have e2 : sl = #[] := Array.eq_empty_of_size_eq_zero (of_decide_eq_true q2)
    rw [e, of_decide_eq_true q1, e2]
  · cases q
def SaysR (K : PySem.W.Frag) : Prop := obK K = valR
def hookR : PySem.W.Hook where
  α := ObV × Bool
  obs := fun s => (obR s.heap.get?, tblB s.heap.get?)
  val := fun _ => (valR, true)
  says := fun _ h => (∃ K : PySem.W.Frag, K.In h ∧ SaysR K) ∧ ∀ a ∈ tabA, h.get? a = some { cls := .none, data := .fields #[] }
  of := fun _ _ e => ⟨⟨_, He.frG_in, (Prod.mk.inj e).1⟩, tblB_ok (Prod.mk.inj e).2⟩
  keeps := fun _ _ _ ⟨⟨K, hK, c⟩, t⟩ k => ⟨⟨K, PySem.W.Frag.In.keeps hK k, c⟩, fun a ha => k _ _ (t a ha)⟩
end Kx
end
section
set_option maxHeartbeats 0
namespace Kx
open PySem PySem.Spec PyProof.Rows L2
abbrev R : PySem.W.OpenRow := PySem.W.OpenLaw.row PySem.Challenge.rw_creepclocks_k06_whole_steps_turned_back
def names0 : List PySem.Str := ["_wall", "CreepError", "InvalidFraction", "InvalidOrder", "OrderTooLow", "UnlikeOrders", "InvalidPlace", "InvalidPower", "CantTurn", "NotSlow", "NoAnswer", "DividedByZero", "ZERO", "ONE", "MINUS_ONE", "MOST_POWER", "is_whole", "is_between", "is_fraction", "ratio"]
def names1 : List PySem.Str := ["difference_of", "product_of", "quotient_of", "fraction_text", "LOWEST_ORDER", "HIGHEST_ORDER", "is_listing", "check_order", "check_orders", "check_cut", "check_place", "wrong_item", "check_fractions", "checked_numbers", "check_slow", "check_turnable", "is_zero", "least_place", "differences_of", "dot"]
def names2 : List PySem.Str := ["mixed", "over_one_lower", "multiplied", "still_numbers", "table_lines", "put_behind", "solved", "turned_back", "done_times", "differences", "binomials", "binomial_power", "letter_text", "term_text", "term_words", "numbers_text", "kind_of", "Step", "trade", "exchange"]
def names3 : List PySem.Str := ["_law_bag", "_law_draw", "_law_of", "_law_like", "_law_low", "_law_add", "_law_mul", "_law_times", "_law_plus", "_law_scale", "_law_put", "_law_behind", "_law_still", "_law_size", "_law_number", "_law_full", "_law_spread", "_law_lead", "_law_step", "_law_slow"]
def names4 : List PySem.Str := ["_law_turnable", "_law_is", "_law_step_so", "_law_numbers_so", "_law_fault", "_law_ask", "_law_turned_so", "_law_renamed_so", "_law_exchange_so", "_law_unlike_so"]
def names : List PySem.Str := names0 ++ names1 ++ names2 ++ names3 ++ names4
abbrev hk : PySem.W.Hook := hookR
def ob (s : PySem.W.SharedT) : ObV × Bool := (obR (HandSHeadRun.getT s), tblB (HandSHeadRun.getT s))
theorem ob_eq (s : PySem.W.SharedT) : ob s = hk.obs s.abs := by
  have e : HandSHeadRun.getT s = s.abs.heap.get? := funext fun a => HandSHeadRun.getT_eq s a
  unfold ob
  rw [e]
  rfl
noncomputable abbrev endI (w : World) := HandSHeadRun.wholeF (fun p => HandSHeadRun.stepQ (HandSHeadRun.denQ HandSHeadRun.tabQ) p w) HandSHeadRun.fenceQ 20000 R.prog
abbrev qv := PySem.W.view R.prog [0, 98]
theorem run1 (w : World) : (endI w).map (fun x => (HandSHeadRun.looksF R.prog x.1.heap x.2.abs, ob x.2)) = some (true, (valR, true)) := by
  kernel_rfl
theorem run2 (w : World) : (endI w).map (fun x => HandSHeadRun.seenQ qv names (importedModules R.prog.main.body) (fun s => PySem.W.xlAt qv [] s && PySem.W.recOk R.toRowW.records s) x.2.abs) = some (PySem.W.openGood qv names) := by
  kernel_rfl
theorem run (w : World) : HandSHeadRun.RunEqI R qv hk ob 20000 names w := by
  obtain ⟨x, e1, e2⟩ := Option.map_eq_some_iff.mp (run1 w)
  have e3 := run2 w
  show (endI w).map _ = _
  rw [e1] at e3 ⊢
  have e4 := Option.some.inj e3
  have e5 := (Prod.mk.inj e2).1
  have e6 := (Prod.mk.inj e2).2
  show some (HandSHeadRun.looksF R.prog x.1.heap x.2.abs, HandSHeadRun.seenQ qv names (importedModules R.prog.main.body) (fun s => PySem.W.xlAt qv [] s && PySem.W.recOk R.toRowW.records s) x.2.abs, ob x.2) = _
  rw [e5, e6]
  exact congrArg some (congrArg (Prod.mk true) (congrArg (fun z => (z, (valR, true))) e4))
end Kx
end
section
set_option maxHeartbeats 4000000
namespace Kx
open PySem PySem.Spec PyProof.Rows L2
/-! ### the bag -/
def bagL (p : Addr) (i r sd c : Int) : List V := [.ref p, .int i, .int r, .int sd, .int c]
structure Bag (H : Hp) (B p : Addr) : Prop where
  ex : ∃ (ns : List Int) (i r sd c : Int), H B = some (.lst (bagL p i r sd c)) ∧ H p = some (.lst (ns.map V.int)) ∧ p ≠ B ∧ 0 ≤ i ∧ 0 ≤ r ∧ 0 ≤ sd ∧ sd < 2147483629
/-- all but the bag stands -/
def But (B : Addr) (H H' : Hp) : Prop := ∀ b o, b ≠ B → H b = some o → H' b = some o
theorem But.refl {B : Addr} {H : Hp} : But B H H := fun _ _ _ h => h
theorem But.trans {B : Addr} {H H1 H2 : Hp} (a : But B H H1) (b : But B H1 H2) : But B H H2 := fun x o n h => b x o n (a x o n h)
theorem But.new {B : Addr} {H : Hp} {p : Addr} {o : HO} (h : H p = none) : But B H (upd H p o) := fun b u _ q => by rw [upd_ne (ne_of_none q h)]; exact q
theorem But.same {B : Addr} {H H' : Hp} (h : Same H H') : But B H H' := fun b o _ q => h b o q
theorem Bag.same {H H' : Hp} {B p : Addr} (b : Bag H B p) (h : Same H H') : Bag H' B p := by
  obtain ⟨ns, i, r, sd, c, h1, h2, h3⟩ := b.ex
  exact ⟨ns, i, r, sd, c, h _ _ h1, h _ _ h2, h3⟩
def spDraw : Sp := fun vs H Q _ => ∃ (B p : Addr) (L : Int), vs = [.ref B, .int L] ∧ 0 < L ∧ L < 1073741824 ∧ Bag H B p ∧
  ∀ H' k, Bag H' B p → But B H H' → 0 ≤ k → k < L → Q (.int k) H'
section
variable {P : Program} {w : World} {K : PySem.W.Frag} {mg : Str → Option Value} {base : Heap} {f : Addr} {fd : FuncData}
theorem scDraw : FnScope ["_law_bag_here", "_law_limit", "_law_item", "_law_digit"] ["_law_bag_here", "_law_limit"] (defScope L_draw) := ⟨rfl, rfl, rfl, by decide +kernel, rfl, by decide +kernel, by decide +kernel⟩
theorem ok_draw (F : Fun K "_law_draw" "_law_draw" L_draw f fd) (ml : mg "len" = none) (mi : mg "int" = none) : FnOk P w K mg base CX0 1 f fd ["_law_bag_here", "_law_limit"] spDraw := by
  refine F.ok scDraw (fun vs H Q E h => ?_) (fun cdv A outer s H vs Q E hr h => ?_)
  · obtain ⟨B, p, L, rfl, _⟩ := h
    rfl
  obtain ⟨B, p, L, rfl, l1, l2, hb, q⟩ := h
  obtain ⟨ns, i, r, sd, c, hB, hp, np, i0, r0, s0, s1⟩ := hb.ex
  refine ⟨_, pss_cons (ps_asg (pe_op op_add (pe_ix ix_list (pv 0) pe_int (fun _ _ => rfl)) pe_int) (pg_sub (pv 0) pe_int set_list))
    (C8.pss_cut (ps_if (PW.pt (pw_and (pt_cmpR op_eq (pe_ix ix_list (pv 0) pe_int (fun _ _ => rfl)) pe_int (nomark _)) (pw_and1 (pt_cmpR op_lt (pe_ix ix_list (pv 0) pe_int (fun _ _ => rfl)) (pe_callB call_len_seq rfl ml PySem.boot_len (pa_cons (pe_ix ix_list (pv 0) pe_int (fun _ _ => rfl)) pa_nil)) (nomark _)))))
        (pss_cons (ps_set (i := 2) scDraw.nd rfl (Or.inl rfl) (pe_ix ix_list (pe_ix ix_list (pv 0) pe_int (fun _ _ => rfl)) (pe_ix ix_list (pv 0) pe_int (fun _ _ => rfl)) (fun _ _ => rfl)))
        (pss_cons (ps_asg (pe_op op_add (pe_ix ix_list (pv 0) pe_int (fun _ _ => rfl)) pe_int) (pg_sub (pv 0) pe_int set_list))
        (pss_one (ps_if (pt_cmpR op_ge (pv 2) (pe_op op_pow pe_int pe_int) (nomark _))
          (pss_one (ps_asg (pv 2) (pg_sub (pv 0) pe_int set_list)))
          (pss_one (ps_asg (pe_op op_mod (pe_callTy call_int1 rfl mi (by decide +kernel) (pa_cons (pe_op op_add (pe_op op_add (pe_op op_mul (pe_ix ix_list (pv 0) pe_int (fun _ _ => rfl)) pe_int) (pe_op op_mul (pe_op op_mod (pe_callTy call_int1 rfl mi (by decide +kernel) (pa_cons (pv 2) pa_nil)) pe_int) pe_int)) pe_int) pa_nil)) pe_int) (pg_sub (pv 0) pe_int set_list)))))))
        pss_nil)
    (pss_cons (ps_if (pt_cmpR op_gt (pe_ix ix_list (pv 0) pe_int (fun _ _ => rfl)) pe_int (nomark _))
        (pss_cons (ps_set (i := 3) scDraw.nd rfl (Or.inl rfl) (pe_op op_mod (pe_callTy call_int1 rfl mi (by decide +kernel) (pa_cons (pe_ix ix_list (pv 0) pe_int (fun _ _ => rfl)) pa_nil)) (pv 1)))
        (pss_cons (ps_asg (pe_op op_fdiv (pe_ix ix_list (pv 0) pe_int (fun _ _ => rfl)) (pv 1)) (pg_sub (pv 0) pe_int set_list))
        (pss_one (ps_ret (pv 3)))))
        pss_nil)
    (pss_cons (ps_asg (pe_op op_mod (pe_callTy call_int1 rfl mi (by decide +kernel) (pa_cons (pe_op op_add (pe_op op_add (pe_op op_pow (pe_ix ix_list (pv 0) pe_int (fun _ _ => rfl)) pe_int) (pe_op op_mul (pe_ix ix_list (pv 0) pe_int (fun _ _ => rfl)) pe_int)) pe_int) pa_nil)) pe_int) (pg_sub (pv 0) pe_int set_list))
    (pss_one (ps_ret (pe_op op_mod (pe_callTy call_int1 rfl mi (by decide +kernel) (pa_cons (pe_op op_add (pe_op op_fdiv (pe_ix ix_list (pv 0) pe_int (fun _ _ => rfl)) pe_int) (pe_op op_mul (pe_op op_mod (pe_callTy call_int1 rfl mi (by decide +kernel) (pa_cons (pe_ix ix_list (pv 0) pe_int (fun _ _ => rfl)) pa_nil)) pe_int) pe_int)) pa_nil)) (pv 1))))))), ?_⟩
  refine ⟨_, rfl, B, _, 4, _, rfl, rfl, SqL.of hB, rfl, c, 1, rfl, rfl, _, rfl, B, _, 4, 4, rfl, rfl, hB, rfl, ?_⟩
  have e1 : (bagL p i r sd c).set 4 (.int (c + 1)) = bagL p i r sd (c + 1) := rfl
  have hB1 : (upd H B (.lst ((bagL p i r sd c).set 4 (.int (c + 1))))) B = some (.lst (bagL p i r sd (c + 1))) := upd_same
  have hp1 : (upd H B (.lst ((bagL p i r sd c).set 4 (.int (c + 1))))) p = some (.lst (ns.map V.int)) := by rw [upd_ne np]; exact hp
  have b1 : But B H (upd H B (.lst ((bagL p i r sd c).set 4 (.int (c + 1))))) := fun b o n z => by rw [upd_ne n]; exact z
  generalize upd H B (.lst ((bagL p i r sd c).set 4 (.int (c + 1)))) = H1 at hB1 hp1 b1 ⊢
  refine ⟨fun σ' H' => ∃ (i r sd : Int) (v w : Option V), σ' = [some (.ref B), some (.int L), v, w] ∧ H' B = some (.lst (bagL p i r sd (c + 1))) ∧ H' p = some (.lst (ns.map V.int)) ∧ But B H H' ∧ 0 ≤ i ∧ 0 ≤ r ∧ 0 ≤ sd ∧ sd < 2147483629, ?_, ?_⟩
  · refine ⟨_, rfl, B, _, 2, _, rfl, rfl, SqL.of hB1, rfl, rfl, _, rfl, ?_⟩
    refine ite2 (fun _ => ?_) (fun _ => iteF ⟨i, r, sd, none, none, rfl, hB1, hp1, b1, i0, r0, s0, s1⟩)
    refine ⟨_, rfl, B, _, 1, _, rfl, rfl, SqL.of hB1, rfl, _, rfl, B, _, 0, _, rfl, rfl, SqL.of hB1, rfl, p, _, rfl, .inl (SqL.of hp1), i, _, rfl, rfl, _, rfl, ?_⟩
    refine ite2 (fun c1 => ?_) (fun _ => ⟨i, r, sd, none, none, rfl, hB1, hp1, b1, i0, r0, s0, s1⟩)
    have c2 : i < (((ns.map V.int).length : Nat) : Int) := of_decide_eq_true c1
    rw [List.length_map] at c2
    have hz : (ns.map V.int)[i.toNat]? = some (.int (ns[i.toNat]'(by omega))) := by rw [List.getElem?_map, List.getElem?_eq_getElem (by omega)]; rfl
    generalize ns[i.toNat]'(by omega) = z at hz
    have ha : atI (ns.map V.int) i = some (.int z) := at_of (by omega) hz
    refine ⟨_, rfl, B, _, 0, _, rfl, rfl, SqL.of hB1, rfl, _, rfl, B, _, 1, _, rfl, rfl, SqL.of hB1, rfl, p, _, i, _, rfl, rfl, SqL.of hp1, ha, ?_⟩
    refine ⟨_, rfl, B, _, 1, _, rfl, rfl, SqL.of hB1, rfl, i, 1, rfl, rfl, _, rfl, B, _, 1, 1, rfl, rfl, hB1, rfl, ?_⟩
    have hB2 : (upd H1 B (.lst ((bagL p i r sd (c + 1)).set 1 (.int (i + 1))))) B = some (.lst (bagL p (i + 1) r sd (c + 1))) := upd_same
    have hp2 : (upd H1 B (.lst ((bagL p i r sd (c + 1)).set 1 (.int (i + 1))))) p = some (.lst (ns.map V.int)) := by rw [upd_ne np]; exact hp1
    have b2 : But B H (upd H1 B (.lst ((bagL p i r sd (c + 1)).set 1 (.int (i + 1))))) := b1.trans fun b o n z => by rw [upd_ne n]; exact z
    generalize upd H1 B (.lst ((bagL p i r sd (c + 1)).set 1 (.int (i + 1)))) = H2 at hB2 hp2 b2 ⊢
    refine ⟨_, rfl, 10, 18, rfl, rfl, ⟨by decide, by decide, by decide⟩, z, _, rfl, rfl, _, rfl, ?_⟩
    refine ite2 (fun c3 => ?_) (fun _ => ?_)
    · have c4 : (10 : Int) ^ (18 : Int).toNat ≤ z := of_decide_eq_true c3
      refine ⟨_, rfl, _, rfl, B, _, 2, 2, rfl, rfl, hB2, rfl, i + 1, z, sd, some (.int z), none, rfl, upd_same, by rw [upd_ne np]; exact hp2, b2.trans fun b o n z => by rw [upd_ne n]; exact z, by omega, ?_, s0, s1⟩
      exact Int.le_trans (by decide) c4
    · refine ⟨_, rfl, B, _, 3, _, rfl, rfl, SqL.of hB2, rfl, sd, 69621, rfl, rfl, .inr ⟨by decide, by decide⟩, _, rfl, .inl ⟨z, rfl, ?_⟩⟩
      refine ⟨z, 2147483549, rfl, rfl, (by show (0 : Int) < 2147483549; decide), _, 30103, rfl, rfl, .inr ⟨by decide, by decide⟩, _, _, rfl, rfl, _, 89, rfl, rfl, .inl ⟨_, rfl, ?_⟩⟩
      refine ⟨_, 2147483629, rfl, rfl, (by show (0 : Int) < 2147483629; decide), _, rfl, B, _, 3, 3, rfl, rfl, hB2, rfl, i + 1, r, _, some (.int z), none, rfl, upd_same, by rw [upd_ne np]; exact hp2, b2.trans fun b o n z => by rw [upd_ne n]; exact z, by omega, r0, Int.emod_nonneg _ (by decide), Int.emod_lt_of_pos _ (by decide)⟩
  · rintro σ' H' ⟨i, r, sd, v, w', rfl, hB2, hp2, b2, i0, r0, s0, s1⟩
    refine ⟨_, rfl, B, _, 2, _, rfl, rfl, SqL.of hB2, rfl, r, 0, rfl, rfl, _, rfl, ?_⟩
    refine ite2 (fun _ => ?_) (fun _ => ?_)
    · refine ⟨_, rfl, B, _, 2, _, rfl, rfl, SqL.of hB2, rfl, .inl ⟨r, rfl, _, rfl, r, L, rfl, rfl, l1, ?_⟩⟩
      refine ⟨_, rfl, B, _, 2, _, rfl, rfl, SqL.of hB2, rfl, _, rfl, r, L, rfl, rfl, ⟨l1, l2⟩, _, rfl, B, _, 2, 2, rfl, rfl, hB2, rfl, ?_⟩
      refine ⟨_, rfl, q _ _ ⟨ns, i, r / L, sd, c + 1, upd_same, by rw [upd_ne np]; exact hp2, np, i0, Int.ediv_nonneg r0 (by omega), s0, s1⟩ (b2.trans fun b o n z => by rw [upd_ne n]; exact z) (Int.emod_nonneg _ (by omega)) (Int.emod_lt_of_pos _ l1)⟩
    · refine ⟨_, rfl, B, _, 3, _, rfl, rfl, SqL.of hB2, rfl, sd, 3, rfl, rfl, ⟨by decide, by decide, by omega⟩, ?_⟩
      refine ⟨_, rfl, B, _, 4, _, rfl, rfl, SqL.of hB2, rfl, c + 1, 1299709, rfl, rfl, .inr ⟨by decide, by decide⟩, _, _, rfl, rfl, _, 60013, rfl, rfl, .inl ⟨_, rfl, _, 2147483629, rfl, rfl, (by show (0 : Int) < 2147483629; decide), _, rfl, B, _, 3, 3, rfl, rfl, hB2, rfl, ?_⟩⟩
      have v0 := Int.emod_nonneg (sd ^ Int.toNat 3 + (c + 1) * 1299709 + 60013) (show (2147483629 : Int) ≠ 0 by decide)
      have v1 := Int.emod_lt_of_pos (sd ^ Int.toNat 3 + (c + 1) * 1299709 + 60013) (show (0 : Int) < 2147483629 by decide)
      have hB3 : (upd H' B (.lst ((bagL p i r sd (c + 1)).set 3 (.int ((sd ^ Int.toNat 3 + (c + 1) * 1299709 + 60013) % 2147483629))))) B = some (.lst (bagL p i r ((sd ^ Int.toNat 3 + (c + 1) * 1299709 + 60013) % 2147483629) (c + 1))) := upd_same
      have hp3 : (upd H' B (.lst ((bagL p i r sd (c + 1)).set 3 (.int ((sd ^ Int.toNat 3 + (c + 1) * 1299709 + 60013) % 2147483629))))) p = some (.lst (ns.map V.int)) := by rw [upd_ne np]; exact hp2
      have b3 : But B H (upd H' B (.lst ((bagL p i r sd (c + 1)).set 3 (.int ((sd ^ Int.toNat 3 + (c + 1) * 1299709 + 60013) % 2147483629))))) := b2.trans fun b o n z => by rw [upd_ne n]; exact z
      refine ⟨_, rfl, B, _, 3, _, rfl, rfl, SqL.of hB3, rfl, _, 97, rfl, rfl, ⟨by decide, by decide⟩, _, rfl, B, _, 3, _, rfl, rfl, SqL.of hB3, rfl, .inl ⟨_, rfl, ?_⟩⟩
      refine ⟨_, 7901, rfl, rfl, (by show (0 : Int) < 7901; decide), _, 67, rfl, rfl, .inr ⟨by decide, by decide⟩, _, _, rfl, rfl, .inl ⟨_, rfl, _, rfl, _, L, rfl, rfl, l1, ?_⟩⟩
      exact q _ _ ⟨ns, i, r, _, c + 1, hB3, hp3, np, i0, r0, v0, v1⟩ b3 (Int.emod_nonneg _ (by omega)) (Int.emod_lt_of_pos _ l1)
end
end Kx
end
section
set_option maxHeartbeats 4000000
namespace Kx
open PySem PySem.Spec PyProof.Rows L2
theorem cut_map (ns : List Int) (lo hi : Option Int) : ∃ ms : List Int, cutV (ns.map V.int) lo hi = ms.map V.int := by
  unfold cutV
  rw [List.length_map, ← List.map_drop, ← List.map_take]
  exact ⟨_, rfl⟩
def spBag (K : PySem.W.Frag) : Sp := fun vs H Q _ => ∃ (a : Addr) (ns : List Int), vs = [.ref a] ∧ SqL K H a (ns.map V.int) ∧ ∀ H' B p, Same H H' → H B = none → Bag H' B p → Q (.ref B) H'
theorem new_same {H : Hp} {p : Addr} (h : H p = none) (o : HO) : Same H (upd H p o) := fun b u q => by rw [upd_ne (ne_of_none q h)]; exact q
section
variable {P : Program} {w : World} {K : PySem.W.Frag} {mg : Str → Option Value} {base : Heap} {f fD : Addr} {fd fdD : FuncData}
theorem scBag : FnScope ["_law_script", "_law_seed", "_law_item"] ["_law_script"] (defScope L_bag) := ⟨rfl, rfl, rfl, by decide +kernel, rfl, by decide +kernel, by decide +kernel⟩
theorem ok_bag (F : Fun K "_law_bag" "_law_bag" L_bag f fd) (ml : mg "list" = none) (mi : mg "int" = none) : FnOk P w K mg base CX0 1 f fd ["_law_script"] (spBag K) := by
  refine F.ok scBag (fun vs H Q E h => ?_) (fun cdv A outer s H vs Q E hr h => ?_)
  · obtain ⟨a, ns, rfl, _⟩ := h
    rfl
  obtain ⟨a, ns, rfl, hS, q⟩ := h
  obtain ⟨ms, hm⟩ := cut_map ns none (some 63)
  refine ⟨_, pss_cons (ps_set (i := 1) scBag.nd rfl (Or.inl rfl) pe_int)
    (pss_cons (ps_for PassesOwn.never rfl (pi_list (pe_slice sl_list (pv 0) po_none (po_some pe_int))) (pg_name (i := 2) scBag.nd rfl (Or.inl rfl))
      (pss_one (ps_set (i := 1) scBag.nd rfl (Or.inl rfl) (pe_op op_mod (pe_callTy call_int1 rfl mi (by decide +kernel) (pa_cons (pe_op op_add (pe_op op_add (pe_op op_mul (pv 1) pe_int) (pe_op op_mod (pe_callTy call_int1 rfl mi (by decide +kernel) (pa_cons (pv 2) pa_nil)) pe_int)) pe_int) pa_nil)) pe_int))))
    (pss_one (ps_ret (pe_lst (pa_cons (pe_callTy call_list_of rfl ml (by decide +kernel) (pa_cons (pe_slice sl_list (pv 0) po_none (po_some pe_int)) pa_nil)) (pa_cons pe_int (pa_cons pe_int (pa_cons (pv 1) (pa_cons pe_int pa_nil))))))))), ?_⟩
  refine ⟨_, rfl, 63, rfl, a, _, rfl, hS, fun p np => ⟨p, rfl, ⟨_, SqL.of upd_same⟩, for_list (K := K) (a := p) (xs := cutV (ns.map V.int) none (some 63))
    (fun i σ H' => ∃ (sd : Int) (v : Option V), σ = [some (.ref a), some (.int sd), v] ∧ 0 ≤ sd ∧ sd < 2147483629 ∧ H' = upd H p (.lst (cutV (ns.map V.int) none (some 63)))) ⟨13960, none, rfl, by decide, by decide, rfl⟩ (fun i σ H' _ h => ?_) ?_ ?_⟩⟩
  · obtain ⟨_, _, _, _, _, rfl⟩ := h
    exact SqL.of upd_same
  · rintro i y σ H' hy ⟨sd, v, rfl, s0, s1, rfl⟩
    obtain ⟨z, rfl⟩ : ∃ z, y = V.int z := by
      rw [hm, List.getElem?_map] at hy
      obtain ⟨z, _, e⟩ := Option.map_eq_some_iff.mp hy
      exact ⟨z, e.symm⟩
    refine ⟨_, rfl, sd, 48271, rfl, rfl, .inr ⟨by decide, by decide⟩, _, rfl, .inl ⟨z, rfl, z, 2147483587, rfl, rfl, (by show (0 : Int) < 2147483587; decide), _, _, rfl, rfl, _, 307, rfl, rfl, .inl ⟨_, rfl, _, 2147483629, rfl, rfl, (by show (0 : Int) < 2147483629; decide), ?_⟩⟩⟩
    exact ⟨_, _, rfl, Int.emod_nonneg _ (by decide), Int.emod_lt_of_pos _ (by decide), rfl⟩
  · rintro σ H' ⟨sd, v, rfl, s0, s1, rfl⟩
    have g1 : Same H (upd H p (.lst (cutV (ns.map V.int) none (some 63)))) := new_same np _
    generalize upd H p (.lst (cutV (ns.map V.int) none (some 63))) = H1 at g1
    refine ⟨_, rfl, 63, rfl, a, _, rfl, g1.seq hS, fun p2 np2 => ⟨p2, _, rfl, .inl (SqL.of upd_same), fun l nl => ?_⟩⟩
    have g2 := g1.trans (new_same np2 (.lst (cutV (ns.map V.int) none (some 63))))
    generalize upd H1 p2 (.lst (cutV (ns.map V.int) none (some 63))) = H2 at g2 nl
    have g3 := g2.trans (new_same nl (.lst (cutV (ns.map V.int) none (some 63))))
    have hl : (upd H2 l (.lst (cutV (ns.map V.int) none (some 63)))) l = some (.lst (ms.map V.int)) := by rw [upd_same, hm]
    generalize upd H2 l (.lst (cutV (ns.map V.int) none (some 63))) = H3 at g3 hl
    refine ⟨_, rfl, (by show 5 ≤ sizeLine; decide), fun B nB => q _ B l (g3.trans (new_same nB _)) (g3.free nB) ⟨ms, 0, 0, sd, 0, upd_same, ?_, ?_, by decide, by decide, s0, s1⟩⟩
    · rw [upd_ne (ne_of_none hl nB)]
      exact hl
    · exact ne_of_none hl nB
/-! ### one of several -/
def spOfL : Sp := fun vs H Q _ => ∃ (B p t : Addr) (xs : List V), vs = [.ref B, .ref t] ∧ H t = some (.lst xs) ∧ t ≠ B ∧ 0 < xs.length ∧ xs.length ≤ 1000 ∧ Bag H B p ∧ ∀ H' x, Bag H' B p → But B H H' → x ∈ xs → Q x H'
def spOfS : Sp := fun vs H Q _ => ∃ (B p : Addr) (z : Str), vs = [.ref B, .str z] ∧ 0 < z.length ∧ z.length ≤ 1000 ∧ Bag H B p ∧ ∀ H' c, Bag H' B p → But B H H' → Q (.str ⟨#[c]⟩) H'
theorem scOf : FnScope ["_law_bag_here", "_law_things"] ["_law_bag_here", "_law_things"] (defScope L_of) := ⟨rfl, rfl, rfl, by decide +kernel, rfl, by decide +kernel, by decide +kernel⟩
theorem at_in {xs : List V} {k : Int} (h0 : 0 ≤ k) (h1 : k < (xs.length : Int)) : ∃ x, atI xs k = some x ∧ x ∈ xs := by
  have hk : k.toNat < xs.length := by omega
  exact ⟨xs[k.toNat], at_of (by omega) (List.getElem?_eq_getElem hk), List.getElem_mem hk⟩
theorem ok_ofL (F : Fun K "_law_of" "_law_of" L_of f fd) (G : FnOk P w K mg base CX0 1 fD fdD ["_law_bag_here", "_law_limit"] spDraw) (bD : Binds K fdD ["_law_bag_here", "_law_limit"] []) (kD : PySem.W.keepIn K (.ref fD) = true) (mD : mg "_law_draw" = some (.ref fD)) (ml : mg "len" = none) :
    FnOk P w K mg base CX0 2 f fd ["_law_bag_here", "_law_things"] spOfL := by
  refine F.ok scOf (fun vs H Q E h => ?_) (fun cdv A outer s H vs Q E hr h => ?_)
  · obtain ⟨B, p, t, xs, rfl, _⟩ := h
    rfl
  obtain ⟨B, p, t, xs, rfl, ht, nt, l0, l1, hb, q⟩ := h
  refine ⟨_, pss_one (ps_ret (pe_ix ix_list (pv 1) (pe_call G hr rfl mD kD bD .nil pass0 (pa_cons (pv 0) (pa_cons (pe_callB call_len_seq rfl ml PySem.boot_len (pa_cons (pv 1) pa_nil)) pa_nil))) (fun _ _ => rfl))), ?_⟩
  refine ⟨_, rfl, _, rfl, _, rfl, t, _, rfl, .inl (SqL.of ht), B, p, _, rfl, by omega, by omega, hb, fun H' k b' u k0 k1 => ?_⟩
  obtain ⟨x, hx, hm⟩ := at_in k0 k1
  exact ⟨t, xs, k, x, rfl, rfl, SqL.of (u _ _ nt ht), hx, q H' x b' u hm⟩
theorem ok_ofS (F : Fun K "_law_of" "_law_of" L_of f fd) (G : FnOk P w K mg base CX0 1 fD fdD ["_law_bag_here", "_law_limit"] spDraw) (bD : Binds K fdD ["_law_bag_here", "_law_limit"] []) (kD : PySem.W.keepIn K (.ref fD) = true) (mD : mg "_law_draw" = some (.ref fD)) (ml : mg "len" = none) :
    FnOk P w K mg base CX0 2 f fd ["_law_bag_here", "_law_things"] spOfS := by
  refine F.ok scOf (fun vs H Q E h => ?_) (fun cdv A outer s H vs Q E hr h => ?_)
  · obtain ⟨B, p, z, rfl, _⟩ := h
    rfl
  obtain ⟨B, p, z, rfl, l0, l1, hb, q⟩ := h
  refine ⟨_, pss_one (ps_ret (pe_ix ix_str (pv 1) (pe_call G hr rfl mD kD bD .nil pass0 (pa_cons (pv 0) (pa_cons (pe_callB call_len_str rfl ml PySem.boot_len (pa_cons (pv 1) pa_nil)) pa_nil))) (fun _ _ => rfl))), ?_⟩
  have hz : z.length ≤ sizeLine := Nat.le_of_lt (small1000 l1)
  refine ⟨_, rfl, _, rfl, _, rfl, z, rfl, hz, B, p, _, rfl, by omega, by omega, hb, fun H' k b' u k0 k1 => ?_⟩
  have el : z.cps.toList.length = z.length := Array.length_toList
  have hk : k.toNat < z.cps.toList.length := by omega
  exact ⟨z, k, z.cps.toList[k.toNat], rfl, rfl, hz, by
    have e : atI z.cps.toList ((k.toNat : Nat) : Int) = some z.cps.toList[k.toNat] := atI_nat (List.getElem?_eq_getElem hk)
    rw [show ((k.toNat : Nat) : Int) = k by omega] at e
    exact e, q H' _ b' u⟩
end
end Kx
end
section
set_option maxHeartbeats 4000000
namespace Kx
open PySem PySem.Spec PyProof.Rows L2
/-- // by any divisor but 0, below 2 ^ 9000 -/
theorem op_fdivA {X : Cx} : OpR X (binaryOp .FloorDiv) (rI (fun _ j => j ≠ 0 ∧ j.natAbs.log2 < 9000) fun i j => .int (i.fdiv j)) := opI fun _ _ _ _ _ _ _ hc q => floordiv_int hc.1 q (.inl (PyProof.noPylong_of_log2 hc.2))
/-- the greatest common divisor, with the sign of q -/
def gS (p q : Int) : Int := if q < 0 then -((Nat.gcd p.natAbs q.natAbs : Nat) : Int) else ((Nat.gcd p.natAbs q.natAbs : Nat) : Int)
/-- p over q in lowest terms, above and below -/
def lowU (p q : Int) : Int := p.fdiv (gS p q)
def lowL (p q : Int) : Int := q.fdiv (gS p q)
theorem gS_ne {p q : Int} (h : q ≠ 0) : gS p q ≠ 0 := by
  have g : Nat.gcd p.natAbs q.natAbs ≠ 0 := fun e => h (Int.natAbs_eq_zero.mp (Nat.eq_zero_of_gcd_eq_zero_right e))
  unfold gS
  split <;> omega
theorem gS_abs (p q : Int) : (gS p q).natAbs = Nat.gcd p.natAbs q.natAbs := by
  unfold gS
  split <;> omega
theorem gS_le {p q : Int} (h : q ≠ 0) : (gS p q).natAbs ≤ q.natAbs := by
  rw [gS_abs]
  exact Nat.gcd_le_right _ (Nat.pos_of_ne_zero (fun e => h (Int.natAbs_eq_zero.mp e)))
theorem log_le {a b : Nat} (h : a ≤ b) : a.log2 ≤ b.log2 := by
  by_cases e : a = 0
  · subst e
    rw [Nat.log2_zero]
    omega
  · have := Nat.log2_self_le e
    exact (Nat.le_log2 (by omega)).mpr (Nat.le_trans this h)
theorem abs_nat (i : Int) : (if i < 0 then -i else i) = ((i.natAbs : Nat) : Int) := by
  split <;> omega
def spLow : Sp := fun vs H Q _ => ∃ p q : Int, vs = [.int p, .int q] ∧ q ≠ 0 ∧ q.natAbs.log2 < 9000 ∧ ∀ t, H t = none → Q (.ref t) (upd H t (.tup [.int (lowU p q), .int (lowL p q)]))
abbrev nLow : List Str := ["_law_p", "_law_q", "_law_a", "_law_b"]
section
variable {P : Program} {w : World} {K : PySem.W.Frag} {mg : Str → Option Value} {base : Heap} {f : Addr} {fd : FuncData}
theorem scLow : FnScope nLow ["_law_p", "_law_q"] (defScope L_low) := ⟨rfl, rfl, rfl, by decide +kernel, rfl, by decide +kernel, by decide +kernel⟩
theorem ok_low (F : Fun K "_law_low" "_law_low" L_low f fd) (ma : mg "abs" = none) (mi : mg "int" = none) : FnOk P w K mg base CX0 1 f fd ["_law_p", "_law_q"] spLow := by
  refine F.ok scLow (fun vs H Q E h => ?_) (fun cdv A outer s H vs Q E hr h => ?_)
  · obtain ⟨p, q, rfl, _⟩ := h
    rfl
  obtain ⟨p, q, rfl, hq, hl, qq⟩ := h
  refine ⟨_, pss_cons (ps_par (i := 2) (j := 3) rfl scLow.nd rfl rfl (by decide) rfl rfl (pa_cons (pe_callB call_abs rfl ma (by decide +kernel) (pa_cons (pv 0) pa_nil)) (pa_cons (pe_callB call_abs rfl ma (by decide +kernel) (pa_cons (pv 1) pa_nil)) pa_nil)) rfl)
    (pss_cons (ps_while PassesOwn.never (pt_cmpR op_gt (pv 3) pe_int (nomark _)) (pss_one (ps_par (i := 2) (j := 3) rfl scLow.nd rfl rfl (by decide) rfl rfl (pa_cons (pv 3) (pa_cons (pe_op op_mod (pe_callTy call_int1 rfl mi (by decide +kernel) (pa_cons (pv 2) pa_nil)) (pv 3)) pa_nil)) rfl)))
    (pss_cons (ps_if (pt_cmpR op_lt (pv 1) pe_int (nomark _)) (pss_one (ps_set (i := 2) scLow.nd rfl (Or.inl rfl) (pe_un un_neg (pv 2)))) pss_nil)
    (pss_one (ps_ret (pe_tup (pa_cons (pe_op op_fdivA (pv 0) (pv 2)) (pa_cons (pe_op op_fdivA (pv 1) (pv 2)) pa_nil))))))), ?_⟩
  refine ⟨_, rfl, p, rfl, _, rfl, q, rfl, _, _, rfl, ?_⟩
  rw [abs_nat, abs_nat]
  refine ⟨fun m σ H' => H' = H ∧ ∃ a b : Nat, σ = [some (.int p), some (.int q), some (.int a), some (.int b)] ∧ Nat.gcd a b = Nat.gcd p.natAbs q.natAbs ∧ b = m, ⟨_, rfl, _, _, rfl, rfl, rfl⟩, ?_⟩
  rintro m σ H' ⟨rfl, a, b, rfl, hg, rfl⟩
  refine ⟨_, rfl, b, 0, rfl, rfl, _, rfl, ite2 (fun c => ?_) (fun c => ?_)⟩
  · have hb : (0 : Int) < (b : Nat) := of_decide_eq_true c
    refine ⟨fun σ' H2 => H2 = H' ∧ σ' = [some (.int p), some (.int q), some (.int b), some (.int ((a % b : Nat) : Int))], ?_, ?_⟩
    · rintro σ' H2 ⟨rfl, rfl⟩
      exact ⟨a % b, Nat.mod_lt _ (by omega), rfl, b, a % b, rfl, by rw [← hg, Nat.gcd_comm a b, Nat.gcd_rec b a, Nat.gcd_comm], rfl⟩
    · exact ⟨_, rfl, _, rfl, .inl ⟨_, rfl, _, rfl, a, b, rfl, rfl, hb, _, _, rfl, rfl, rfl⟩⟩
  · have hb : ¬ (0 : Int) < (b : Nat) := of_decide_eq_false (Bool.eq_false_iff.mpr c)
    obtain rfl : b = 0 := by omega
    rw [Nat.gcd_zero_right] at hg
    subst hg
    have fin : ∀ g : Int, g = gS p q → (∀ t, H' t = none → Q (.ref t) (upd H' t (.tup [.int (p.fdiv g), .int (q.fdiv g)]))) ∧ g ≠ 0 ∧ g.natAbs.log2 < 9000 := by
      rintro g rfl
      exact ⟨qq, gS_ne hq, Nat.lt_of_le_of_lt (log_le (gS_le hq)) hl⟩
    refine ⟨_, rfl, q, 0, rfl, rfl, _, rfl, ite2 (fun c => ?_) (fun c => ?_)⟩
    · obtain ⟨q1, n0, l9⟩ := fin (-((Nat.gcd p.natAbs q.natAbs : Nat) : Int)) (by unfold gS; rw [if_pos (of_decide_eq_true c)])
      exact ⟨_, rfl, _, rfl, _, rfl, _, rfl, p, _, rfl, rfl, ⟨n0, l9⟩, _, rfl, _, rfl, q, _, rfl, rfl, ⟨n0, l9⟩, (by show 2 ≤ sizeLine; decide), q1⟩
    · obtain ⟨q1, n0, l9⟩ := fin ((Nat.gcd p.natAbs q.natAbs : Nat) : Int) (by unfold gS; rw [if_neg (of_decide_eq_false (Bool.eq_false_iff.mpr c))])
      exact ⟨_, rfl, _, rfl, p, _, rfl, rfl, ⟨n0, l9⟩, _, rfl, _, rfl, q, _, rfl, rfl, ⟨n0, l9⟩, (by show 2 ≤ sizeLine; decide), q1⟩
end
end Kx
end
section
set_option maxHeartbeats 4000000
namespace Kx
open PySem PySem.Spec PyProof.Rows L2
theorem low_rat {p q : Int} (h : q ≠ 0) : lowU p q = (Rat.divInt p q).num ∧ lowL p q = ((Rat.divInt p q).den : Int) := by
  have g0 : 0 < Nat.gcd p.natAbs q.natAbs := Nat.gcd_pos_of_pos_right _ (Nat.pos_of_ne_zero fun e => h (Int.natAbs_eq_zero.mp e))
  obtain ⟨a, ha⟩ : ((Nat.gcd p.natAbs q.natAbs : Nat) : Int) ∣ p := Int.ofNat_dvd_left.mpr (Nat.gcd_dvd_left _ _)
  obtain ⟨b, hb⟩ : ((Nat.gcd p.natAbs q.natAbs : Nat) : Int) ∣ q := Int.ofNat_dvd_left.mpr (Nat.gcd_dvd_right _ _)
  have gi : (0 : Int) < ((Nat.gcd p.natAbs q.natAbs : Nat) : Int) := by omega
  have gc : Int.gcd q p = Nat.gcd p.natAbs q.natAbs := Nat.gcd_comm _ _
  have key : gS p q = q.sign * ((Nat.gcd p.natAbs q.natAbs : Nat) : Int) ∧ (q.sign = 1 ∨ q.sign = -1) ∧ (q.natAbs : Int) = q.sign * q := by
    unfold gS
    by_cases c : q < 0
    · rw [if_pos c, Int.sign_eq_neg_one_of_neg c]
      omega
    · have c2 : 0 < q := by omega
      rw [if_neg c, Int.sign_eq_one_of_pos c2]
      omega
  obtain ⟨hg, hs, hab⟩ := key
  rw [Rat.num_divInt, Rat.den_divInt, if_neg h, gc]
  unfold lowU lowL
  rw [hg]
  generalize q.sign = s at hs hab ⊢
  generalize ((Nat.gcd p.natAbs q.natAbs : Nat)) = g at *
  have ne : s * (g : Int) ≠ 0 := by rcases hs with rfl | rfl <;> omega
  have dv : ∀ x y : Int, x = (g : Int) * y → x.fdiv (s * g) = s * y := fun x y e => by
    have z : (g : Int) * y = s * (g : Int) * (s * y) := by
      rcases hs with rfl | rfl
      · simp
      · rw [Int.neg_one_mul, Int.neg_one_mul, Int.neg_mul_neg]
    rw [e, z]
    exact Int.mul_fdiv_cancel_left _ ne
  rw [dv p a ha, dv q b hb]
  constructor
  · have e : s * p = (g : Int) * (s * a) := by rw [ha, Int.mul_left_comm]
    rw [e, Int.mul_ediv_cancel_left _ (by omega)]
  · rw [Int.natCast_ediv, hab]
    have e : s * q = (g : Int) * (s * b) := by rw [hb, Int.mul_left_comm]
    rw [e, Int.mul_ediv_cancel_left _ (by omega)]
/-- above and below less than 2 ^ n -/
def Bq (n : Nat) (q : Rat) : Prop := q.num.natAbs < 2 ^ n ∧ q.den < 2 ^ n
theorem Bq.mono {n m : Nat} {q : Rat} (h : Bq n q) (k : n ≤ m) : Bq m q := ⟨Nat.lt_of_lt_of_le h.1 (Nat.pow_le_pow_right (by decide) k), Nat.lt_of_lt_of_le h.2 (Nat.pow_le_pow_right (by decide) k)⟩
theorem div_bd {p q : Int} {n m : Nat} (h : q ≠ 0) (hp : p.natAbs < 2 ^ n) (hq : q.natAbs < 2 ^ m) : (Rat.divInt p q).num.natAbs < 2 ^ n ∧ (Rat.divInt p q).den < 2 ^ m := by
  have g0 : 0 < Int.gcd q p := Int.gcd_pos_of_ne_zero_left _ h
  constructor
  · rw [Rat.num_divInt]
    refine Nat.lt_of_le_of_lt ?_ hp
    have e : (q.sign * p).natAbs = p.natAbs := by
      rw [Int.natAbs_mul, Int.natAbs_sign_of_ne_zero h, Nat.one_mul]
    rw [← e]
    refine Nat.le_trans (Int.natAbs_ediv_le_natAbs _ _) (Nat.le_refl _)
  · rw [Rat.den_divInt, if_neg h]
    exact Nat.lt_of_le_of_lt (Nat.div_le_self _ _) hq
theorem rat_add (a b : Rat) : a + b = Rat.divInt (a.num * b.den + b.num * a.den) (a.den * b.den) := by
  have h1 : (a.den : Int) ≠ 0 := by have := a.den_nz; omega
  have h2 : (b.den : Int) ≠ 0 := by have := b.den_nz; omega
  rw [← Rat.divInt_add_divInt _ _ h1 h2, Rat.num_divInt_den, Rat.num_divInt_den]
theorem rat_mul (a b : Rat) : a * b = Rat.divInt (a.num * b.num) (a.den * b.den) := by
  rw [← Rat.divInt_mul_divInt, Rat.num_divInt_den, Rat.num_divInt_den]
theorem rat_sub (a b : Rat) : a - b = Rat.divInt (a.num * b.den - b.num * a.den) (a.den * b.den) := by
  rw [Rat.sub_eq_add_neg, rat_add, Rat.neg_num, Rat.neg_den, Int.neg_mul, Int.sub_eq_add_neg]
theorem den_ne (a : Rat) : (a.den : Int) ≠ 0 := by have := a.den_nz; omega
theorem lt_add {x y : Int} {n : Nat} (hx : x.natAbs < 2 ^ n) (hy : y.natAbs < 2 ^ n) : (x + y).natAbs < 2 ^ (n + 1) := by
  have := Int.natAbs_add_le x y
  rw [Nat.pow_succ]
  omega
theorem lt_mul {i j : Int} {a b : Nat} (ha : i.natAbs < 2 ^ a) (hb : j.natAbs < 2 ^ b) : (i * j).natAbs < 2 ^ (a + b) := by
  rw [Int.natAbs_mul, Nat.pow_add]
  exact Nat.mul_lt_mul'' ha hb
theorem Bq.dn {n : Nat} {q : Rat} (h : Bq n q) : ((q.den : Int)).natAbs < 2 ^ n := by rw [Int.natAbs_natCast]; exact h.2
theorem Bq.add {n m : Nat} {a b : Rat} (ha : Bq n a) (hb : Bq m b) : Bq (n + m + 1) (a + b) := by
  rw [rat_add]
  have h := div_bd (Int.mul_ne_zero (den_ne a) (den_ne b)) (lt_add (lt_mul ha.1 hb.dn) (by rw [Nat.add_comm]; exact lt_mul hb.1 ha.dn)) (lt_mul ha.dn hb.dn)
  exact ⟨h.1, Nat.lt_of_lt_of_le h.2 (Nat.pow_le_pow_right (by decide) (by omega))⟩
theorem Bq.mul {n m : Nat} {a b : Rat} (ha : Bq n a) (hb : Bq m b) : Bq (n + m) (a * b) := by
  rw [rat_mul]
  exact div_bd (Int.mul_ne_zero (den_ne a) (den_ne b)) (lt_mul ha.1 hb.1) (lt_mul ha.dn hb.dn)
theorem Bq.neg {n : Nat} {a : Rat} (ha : Bq n a) : Bq n (-a) := ⟨by rw [Rat.neg_num, Int.natAbs_neg]; exact ha.1, by rw [Rat.neg_den]; exact ha.2⟩
theorem Bq.sub {n m : Nat} {a b : Rat} (ha : Bq n a) (hb : Bq m b) : Bq (n + m + 1) (a - b) := by
  rw [Rat.sub_eq_add_neg]
  exact ha.add hb.neg
theorem Bq.zero : Bq 1 0 := ⟨by decide, by decide⟩
/-- the sum of the first n products that make the number at the place k -/
def cvT (us ws : List Rat) (k : Nat) : Nat → Rat
  | 0 => 0
  | j + 1 => cvT us ws k j + us.getD j 0 * ws.getD (k - j) 0
def cnv (us ws : List Rat) (k : Nat) : Rat := cvT us ws k (k + 1)
def mulL (us ws : List Rat) : List Rat := (List.range us.length).map (cnv us ws)
def lcmL (l : Nat) : List Rat → Nat
  | [] => l
  | q :: qs => lcmL (Nat.lcm l q.den) qs
theorem lcmL_app (l : Nat) : ∀ (qs rs : List Rat), lcmL l (qs ++ rs) = lcmL (lcmL l qs) rs
  | [], _ => rfl
  | q :: qs, rs => lcmL_app (Nat.lcm l q.den) qs rs
theorem lcmL_dvd : ∀ (qs : List Rat) (l : Nat), l ∣ lcmL l qs ∧ ∀ q ∈ qs, q.den ∣ lcmL l qs
  | [], l => ⟨Nat.dvd_refl _, fun _ h => nomatch h⟩
  | q :: qs, l => by
    have h := lcmL_dvd qs (Nat.lcm l q.den)
    refine ⟨Nat.dvd_trans (Nat.dvd_lcm_left _ _) h.1, fun r hr => ?_⟩
    rcases List.mem_cons.mp hr with rfl | hr
    · exact Nat.dvd_trans (Nat.dvd_lcm_right _ _) h.1
    · exact h.2 r hr
theorem lcmL_pos : ∀ (qs : List Rat) (l : Nat), 0 < l → 0 < lcmL l qs
  | [], _, h => h
  | q :: qs, l, h => lcmL_pos qs _ (Nat.lcm_pos h (Nat.pos_of_ne_zero q.den_nz))
theorem lcmL_bd {n : Nat} : ∀ (qs : List Rat) (l m : Nat), 0 < l → l < 2 ^ m → (∀ q ∈ qs, Bq n q) → lcmL l qs < 2 ^ (m + n * qs.length)
  | [], _, _, _, h, _ => h
  | q :: qs, l, m, h0, h, hb => by
    have hq := (hb q List.mem_cons_self).2
    have e := lcmL_bd qs (Nat.lcm l q.den) (m + n) (Nat.lcm_pos h0 (Nat.pos_of_ne_zero q.den_nz)) (by
      refine Nat.lt_of_le_of_lt (Nat.le_of_dvd (Nat.mul_pos h0 (Nat.pos_of_ne_zero q.den_nz)) (Nat.lcm_dvd_mul _ _)) ?_
      rw [Nat.pow_add]
      exact Nat.mul_lt_mul'' h hq) (fun r hr => hb r (List.mem_cons_of_mem _ hr))
    rw [List.length_cons, Nat.mul_succ]
    rw [show m + (n * qs.length + n) = m + n + n * qs.length by omega]
    exact e
/-- written with one lower part -/
def upL (L : Nat) (qs : List Rat) : List Int := qs.map fun q => q.num * ((L : Int) / (q.den : Int))
theorem up_val {L : Nat} {q : Rat} (h : q.den ∣ L) : ((q.num * ((L : Int) / (q.den : Int)) : Int) : Rat) = q * (L : Rat) := by
  obtain ⟨k, rfl⟩ := h
  have hd : (q.den : Int) ≠ 0 := den_ne q
  have e : (((q.den * k : Nat) : Int) / (q.den : Int)) = (k : Int) := by
    rw [Int.natCast_mul, Int.mul_ediv_cancel_left _ hd]
  have z : q.num = q * q.den := by
    have := Rat.num_divInt_den q
    have h2 : Rat.divInt q.num q.den = (q.num : Rat) / (q.den : Rat) := by rw [Rat.divInt_eq_div]; rfl
    rw [this] at h2
    have h3 : (q.den : Rat) ≠ 0 := by
      intro h0
      have := q.den_nz
      exact this (by exact_mod_cast h0)
    grind
  rw [e, Rat.intCast_mul, z]
  have : (((q.den * k : Nat)) : Rat) = (q.den : Rat) * (k : Rat) := by exact_mod_cast rfl
  rw [this]
  have : ((k : Int) : Rat) = (k : Rat) := rfl
  rw [this]
  grind
theorem getD_up {L : Nat} {qs : List Rat} (h : ∀ q ∈ qs, q.den ∣ L) (j : Nat) : (((upL L qs).getD j 0 : Int) : Rat) = qs.getD j 0 * (L : Rat) := by
  unfold upL
  rw [List.getD_eq_getElem?_getD, List.getElem?_map, List.getD_eq_getElem?_getD]
  cases e : qs[j]? with
  | none => simp
  | some q => exact up_val (h q (List.mem_of_getElem? e))
/-- the products at a place, by whole numbers -/
def pds (xs ys : List Int) (k n : Nat) : List Int := (List.range n).map fun j => xs.getD j 0 * ys.getD (k - j) 0
theorem pds_succ (xs ys : List Int) (k n : Nat) : pds xs ys k (n + 1) = pds xs ys k n ++ [xs.getD n 0 * ys.getD (k - n) 0] := by
  unfold pds
  rw [List.range_succ, List.map_append]
  rfl
theorem pds_val {us ws : List Rat} {L M : Nat} (h : ∀ q ∈ us, q.den ∣ L) (h' : ∀ q ∈ ws, q.den ∣ M) (k : Nat) : ∀ n, (((pds (upL L us) (upL M ws) k n).sum : Int) : Rat) = cvT us ws k n * ((L : Rat) * (M : Rat))
  | 0 => by
    show ((0 : Int) : Rat) = 0 * _
    rw [Rat.zero_mul]
    rfl
  | n + 1 => by
    rw [pds_succ, List.sum_append, Rat.intCast_add, pds_val h h' k n]
    have e : ([(upL L us).getD n 0 * (upL M ws).getD (k - n) 0] : List Int).sum = (upL L us).getD n 0 * (upL M ws).getD (k - n) 0 := by simp
    rw [e, Rat.intCast_mul, getD_up h, getD_up h']
    show _ = (cvT us ws k n + us.getD n 0 * ws.getD (k - n) 0) * _
    grind
theorem cnv_ratio {us ws : List Rat} {L M : Nat} (h : ∀ q ∈ us, q.den ∣ L) (h' : ∀ q ∈ ws, q.den ∣ M) (l0 : 0 < L) (m0 : 0 < M) (k : Nat) :
    Rat.divInt (pds (upL L us) (upL M ws) k (k + 1)).sum ((L : Int) * (M : Int)) = cnv us ws k := by
  rw [Rat.divInt_eq_div, pds_val h h']
  have e : (((L : Int) * (M : Int) : Int) : Rat) = (L : Rat) * (M : Rat) := by rw [Rat.intCast_mul]; rfl
  have lz : (L : Rat) ≠ 0 := by
    intro z
    have : L = 0 := by exact_mod_cast z
    omega
  have mz : (M : Rat) ≠ 0 := by
    intro z
    have : M = 0 := by exact_mod_cast z
    omega
  rw [e]
  unfold cnv
  have : (L : Rat) * (M : Rat) ≠ 0 := by
    intro z
    rcases Rat.mul_eq_zero.mp z with z | z
    · exact lz z
    · exact mz z
  grind
theorem getD_bq {n : Nat} {us : List Rat} (h : ∀ q ∈ us, Bq n q) (n0 : 1 ≤ n) (j : Nat) : Bq n (us.getD j 0) := by
  rw [List.getD_eq_getElem?_getD]
  cases e : us[j]? with
  | none => exact Bq.zero.mono n0
  | some q => exact h q (List.mem_of_getElem? e)
theorem cvT_bd {n m : Nat} {us ws : List Rat} (h : ∀ q ∈ us, Bq n q) (h' : ∀ q ∈ ws, Bq m q) (n0 : 1 ≤ n) (m0 : 1 ≤ m) (k : Nat) : ∀ j, Bq (1 + j * (n + m + 1)) (cvT us ws k j)
  | 0 => by rw [Nat.zero_mul]; exact Bq.zero
  | j + 1 => by
    have := (cvT_bd h h' n0 m0 k j).add ((getD_bq h n0 j).mul (getD_bq h' m0 (k - j)))
    exact this.mono (by rw [Nat.succ_mul]; omega)
/-- the least place, from f on, with a number that is not 0 -/
def hgtN : List Rat → Nat → Option Nat
  | [], _ => none
  | q :: qs, f => if q = 0 then hgtN qs (f + 1) else some f
theorem hgtN_app_zero : ∀ (qs : List Rat) (f : Nat) (rs : List Rat), (∀ q ∈ qs, q = 0) → hgtN (qs ++ rs) f = hgtN rs (f + qs.length)
  | [], f, rs, _ => rfl
  | q :: qs, f, rs, h => by
    show (if q = 0 then hgtN (qs ++ rs) (f + 1) else some f) = _
    rw [if_pos (h q List.mem_cons_self), hgtN_app_zero qs (f + 1) rs (fun r hr => h r (List.mem_cons_of_mem _ hr)), List.length_cons]
    congr 1
    omega
theorem hgtN_shift : ∀ (qs : List Rat) (f : Nat), hgtN qs f = (hgtN qs 0).map (· + f)
  | [], _ => rfl
  | q :: qs, f => by
    show (if q = 0 then hgtN qs (f + 1) else some f) = (if q = 0 then hgtN qs 1 else some 0).map (· + f)
    by_cases h : q = 0
    · rw [if_pos h, if_pos h, hgtN_shift qs (f + 1), hgtN_shift qs 1, Option.map_map]
      congr 1
      funext x
      show x + (f + 1) = x + 1 + f
      omega
    · rw [if_neg h, if_neg h]
      simp
end Kx
end
section
set_option maxHeartbeats 4000000
namespace Kx
/-! ### numbers of a weight: with 6 ^ e below, and a bound for what then stands above -/
def Zw (e n c : Nat) (q : Rat) : Prop := ∃ z : Int, q * ((6 ^ e : Nat) : Rat) = (z : Rat) ∧ c * z.natAbs ≤ n * 2 ^ (30 * e)
def Zq (e : Nat) (q : Rat) : Prop := Zw e 1 32 q
def AllZ (e : Nat) (qs : List Rat) : Prop := ∀ q ∈ qs, Zq e q
theorem pow6_ne (e : Nat) : ((6 ^ e : Nat) : Rat) ≠ 0 := by
  intro h
  have : (6 ^ e : Nat) = 0 := by exact_mod_cast h
  exact absurd this (Nat.ne_of_gt (Nat.pow_pos (by decide)))
theorem pow6_lt (e : Nat) (h : 0 < e) : 6 ^ e < 2 ^ (3 * e) := by
  rw [Nat.pow_mul]
  exact Nat.pow_lt_pow_left (by decide) (by omega)
theorem pow6_le (e : Nat) : 6 ^ e ≤ 2 ^ (3 * e) := by
  rw [Nat.pow_mul]
  exact Nat.pow_le_pow_left (by decide) _
theorem Zw.zero {e n c : Nat} : Zw e n c 0 := ⟨0, by rw [Rat.zero_mul]; rfl, by simp⟩
theorem Zw.add {e n m c : Nat} {a b : Rat} (ha : Zw e n c a) (hb : Zw e m c b) : Zw e (n + m) c (a + b) := by
  obtain ⟨x, hx, lx⟩ := ha
  obtain ⟨y, hy, ly⟩ := hb
  refine ⟨x + y, by rw [Rat.add_mul, hx, hy, Rat.intCast_add], ?_⟩
  have h := Nat.mul_le_mul_left c (Int.natAbs_add_le x y)
  rw [Nat.mul_add] at h
  rw [Nat.add_mul]
  omega
theorem Zw.mul {e f c d : Nat} {a b : Rat} (ha : Zw e 1 c a) (hb : Zw f 1 d b) : Zw (e + f) 1 (c * d) (a * b) := by
  obtain ⟨x, hx, lx⟩ := ha
  obtain ⟨y, hy, ly⟩ := hb
  refine ⟨x * y, ?_, ?_⟩
  · rw [Rat.intCast_mul, ← hx, ← hy, Nat.pow_add, Rat.natCast_mul]
    grind
  · have h := Nat.mul_le_mul lx ly
    rw [Int.natAbs_mul, show 30 * (e + f) = 30 * e + 30 * f by omega, Nat.pow_add]
    calc c * d * (x.natAbs * y.natAbs) = c * x.natAbs * (d * y.natAbs) := by rw [Nat.mul_mul_mul_comm]
      _ ≤ 1 * 2 ^ (30 * e) * (1 * 2 ^ (30 * f)) := h
      _ = _ := by rw [Nat.one_mul, Nat.one_mul, Nat.one_mul]
theorem Zw.mono_n {e n m c : Nat} {a : Rat} (h : Zw e n c a) (l : n ≤ m) : Zw e m c a := by
  obtain ⟨x, hx, lx⟩ := h
  exact ⟨x, hx, Nat.le_trans lx (Nat.mul_le_mul_right _ l)⟩
theorem Zw.red {e n : Nat} {a : Rat} (h : Zw e n 1024 a) (l : n ≤ 32) : Zq e a := by
  obtain ⟨x, hx, lx⟩ := h
  refine ⟨x, hx, ?_⟩
  have := Nat.mul_le_mul_right (2 ^ (30 * e)) l
  omega
theorem Zq.succ {e : Nat} {a : Rat} (h : Zq e a) : Zq (e + 1) a := by
  obtain ⟨x, hx, lx⟩ := h
  refine ⟨6 * x, ?_, ?_⟩
  · rw [Rat.intCast_mul, ← hx, Nat.pow_succ, Rat.natCast_mul]
    show _ = (6 : Rat) * _
    have : ((6 : Nat) : Rat) = 6 := rfl
    rw [this]
    grind
  · rw [Int.natAbs_mul, show 30 * (e + 1) = 30 * e + 30 by omega, Nat.pow_add]
    have : (6 : Int).natAbs = 6 := rfl
    rw [this]
    omega
theorem Zq.mono {e f : Nat} {a : Rat} (h : Zq e a) (l : e ≤ f) : Zq f a := by
  induction l with
  | refl => exact h
  | step _ ih => exact ih.succ
theorem Zq.zero {e : Nat} : Zq e 0 := Zw.zero
theorem Zq.add {e : Nat} {a b : Rat} (ha : Zq e a) (hb : Zq e b) : Zq (e + 1) (a + b) := by
  obtain ⟨x, hx, lx⟩ := Zw.add ha hb
  refine Zq.mono (e := e + 1) ⟨6 * x, ?_, ?_⟩ (Nat.le_refl _)
  · rw [Rat.intCast_mul, ← hx, Nat.pow_succ, Rat.natCast_mul]
    show _ = (6 : Rat) * _
    have : ((6 : Nat) : Rat) = 6 := rfl
    rw [this]
    grind
  · rw [Int.natAbs_mul, show 30 * (e + 1) = 30 * e + 30 by omega, Nat.pow_add]
    have : (6 : Int).natAbs = 6 := rfl
    rw [this]
    omega
theorem Zq.mul {e f : Nat} {a b : Rat} (ha : Zq e a) (hb : Zq f b) : Zw (e + f) 1 1024 (a * b) := Zw.mul ha hb
theorem Zq.mulq {e f : Nat} {a b : Rat} (ha : Zq e a) (hb : Zq f b) : Zq (e + f) (a * b) := (ha.mul hb).red (by decide)
theorem Zq.num {q : Rat} (h : Bq 21 q) (d : q.den ∣ 6) : Zq 1 q := by
  refine ⟨q.num * ((6 : Nat) / (q.den : Int)), ?_, ?_⟩
  · exact (up_val d).symm
  · obtain ⟨k, hk⟩ := d
    have k0 : q.den ≠ 0 := q.den_nz
    have e : (((6 : Nat) : Int) / (q.den : Int)) = ((6 / q.den : Nat) : Int) := rfl
    rw [e, Int.natAbs_mul, Int.natAbs_natCast]
    have h1 := h.1
    have h2 : 6 / q.den ≤ 6 := Nat.div_le_self _ _
    have := Nat.mul_le_mul (Nat.le_of_lt h1) h2
    rw [show (30 * 1) = 21 + 9 by rfl, Nat.pow_add]
    omega
theorem Zq.one {e : Nat} (h : 0 < e) : Zq e 1 := Zq.mono (e := 1) (Zq.num ⟨by decide, by decide⟩ (by decide)) h
theorem Zw.dvd {e n c : Nat} {q : Rat} (h : Zw e n c q) : q.den ∣ 6 ^ e := by
  obtain ⟨z, hz, _⟩ := h
  have p := pow6_ne e
  have i : ((6 ^ e : Nat) : Int) ≠ 0 := by
    have := Nat.pow_pos (n := e) (show 0 < 6 by decide)
    omega
  have eq : q = Rat.divInt z ((6 ^ e : Nat) : Int) := by
    rw [Rat.divInt_eq_div, ← hz]
    show q = q * ((6 ^ e : Nat) : Rat) / (((6 ^ e : Nat) : Int) : Rat)
    have : (((6 ^ e : Nat) : Int) : Rat) = ((6 ^ e : Nat) : Rat) := rfl
    rw [this]
    grind
  rw [eq, Rat.den_divInt, if_neg i, Int.natAbs_natCast]
  exact Nat.div_dvd_of_dvd (Nat.gcd_dvd_left _ _)
theorem Zw.up {e n c L : Nat} {q : Rat} (h : Zw e n c q) (c0 : 0 < c) (l : L ∣ 6 ^ e) {u : Int} (hu : (u : Rat) = q * (L : Rat)) : u.natAbs ≤ n * 2 ^ (30 * e) := by
  obtain ⟨z, hz, lz⟩ := h
  obtain ⟨k, hk⟩ := l
  have k0 : k ≠ 0 := by
    rintro rfl
    have := Nat.pow_pos (n := e) (show 0 < 6 by decide)
    omega
  have eq : z = u * (k : Int) := by
    have : ((u * (k : Int) : Int) : Rat) = (z : Rat) := by
      rw [Rat.intCast_mul, hu, ← hz, hk, Rat.natCast_mul]
      have : ((k : Int) : Rat) = (k : Rat) := rfl
      rw [this]
      grind
    exact (by exact_mod_cast this.symm)
  rw [eq, Int.natAbs_mul, Int.natAbs_natCast] at lz
  have h1 : u.natAbs ≤ u.natAbs * k := Nat.le_mul_of_pos_right _ (by omega)
  have h2 : u.natAbs * k ≤ c * (u.natAbs * k) := Nat.le_mul_of_pos_left _ c0
  omega
theorem Zq.bq {e : Nat} {q : Rat} (h : Zq e q) (e0 : 0 < e) : Bq (30 * e + 1) q := by
  constructor
  · have := h.up (L := q.den) (by decide) h.dvd (u := q.num) (by
      have := up_val (q := q) (L := q.den) (Nat.dvd_refl _)
      rw [Int.ediv_self (den_ne q), Int.mul_one] at this
      exact this)
    rw [Nat.pow_succ]
    have := Nat.pow_pos (n := 30 * e) (show 0 < 2 by decide)
    omega
  · refine Nat.lt_of_le_of_lt (Nat.le_of_dvd (Nat.pow_pos (by decide)) h.dvd) ?_
    exact Nat.lt_of_lt_of_le (pow6_lt e e0) (Nat.pow_le_pow_right (by decide) (by omega))
theorem AllZ.bq {e : Nat} {qs : List Rat} (h : AllZ e qs) (e0 : 0 < e) : ∀ q ∈ qs, Bq (30 * e + 1) q := fun q hq => (h q hq).bq e0
theorem AllZ.mono {e f : Nat} {qs : List Rat} (h : AllZ e qs) (l : e ≤ f) : AllZ f qs := fun q hq => (h q hq).mono l
theorem AllZ.getD {e : Nat} {qs : List Rat} (h : AllZ e qs) (j : Nat) : Zq e (qs.getD j 0) := by
  rw [List.getD_eq_getElem?_getD]
  cases x : qs[j]? with
  | none => exact Zq.zero
  | some q => exact h q (List.mem_of_getElem? x)
theorem AllZ.lcm {e : Nat} : ∀ (qs : List Rat) (l : Nat), AllZ e qs → l ∣ 6 ^ e → lcmL l qs ∣ 6 ^ e
  | [], _, _, h => h
  | q :: qs, l, h, d => AllZ.lcm qs (Nat.lcm l q.den) (fun r hr => h r (List.mem_cons_of_mem _ hr)) (Nat.lcm_dvd d (h q List.mem_cons_self).dvd)
theorem cvT_z {e f : Nat} {us ws : List Rat} (h : AllZ e us) (h' : AllZ f ws) (k : Nat) : ∀ j, Zw (e + f) j 1024 (cvT us ws k j)
  | 0 => Zw.zero
  | j + 1 => (cvT_z h h' k j).add ((h.getD j).mul (h'.getD (k - j)))
theorem mulL_z {e f : Nat} {us ws : List Rat} (h : AllZ e us) (h' : AllZ f ws) (l : us.length ≤ 32) : AllZ (e + f) (mulL us ws) := by
  intro q hq
  obtain ⟨k, hk, rfl⟩ := List.mem_map.mp hq
  rw [List.mem_range] at hk
  exact (cvT_z h h' k (k + 1)).red (by omega)
end Kx
end
section
set_option maxHeartbeats 4000000
namespace Kx
open PySem PySem.Spec PyProof.Rows L2
/-! ### numbers -/
structure KP (K : PySem.W.Frag) (a : Addr) (x y : Int) : Prop where
  ex : ∃ (o : Obj) (its : Array Value) (n : Nat), K.lookup a = some o ∧ o.cls = .type "tuple" ∧ o.data = .seq its n ∧ its.size ≤ sizeLine ∧ Vals [.int x, .int y] its.toList
theorem KP.t {K : PySem.W.Frag} {a : Addr} {x y : Int} (k : KP K a x y) (H : Hp) : SqT K H a [.int x, .int y] := .inr k.ex
theorem KP.ty {K : PySem.W.Frag} {a : Addr} {x y : Int} (k : KP K a x y) (H : Hp) : TyX K H (.ref a) (.type "tuple") := by
  obtain ⟨o, its, n, h1, h2, _⟩ := k.ex
  exact .kTuple h1 h2
def rT (r : Rat) : HO := .tup [.int r.num, .int (r.den : Nat)]
/-- the fraction q stands at v, in the heap or in the module -/
def Nq (K : PySem.W.Frag) (H : Hp) (v : V) (q : Rat) : Prop := ∃ a, v = .ref a ∧ (H a = some (rT q) ∨ KP K a q.num (q.den : Nat))
section
variable {K : PySem.W.Frag} {H H' : Hp} {v : V} {q : Rat}
theorem Nq.same (h : Nq K H v q) (s : Same H H') : Nq K H' v q := by
  obtain ⟨a, e, h⟩ := h
  exact ⟨a, e, h.imp (fun h => s _ _ h) id⟩
theorem Nq.sq (h : Nq K H v q) : ∃ a, v = .ref a ∧ SqT K H a [.int q.num, .int (q.den : Nat)] ∧ TyX K H (.ref a) (.type "tuple") := by
  obtain ⟨a, e, h⟩ := h
  rcases h with h | k
  · exact ⟨a, e, SqT.of h, .base (.tup h)⟩
  · exact ⟨a, e, k.t H, k.ty H⟩
theorem Nq.at {t : Addr} (h : H t = some (rT q)) : Nq K H (.ref t) q := ⟨t, rfl, .inl h⟩
theorem Nq.dp (h : Nq K H v q) : Dp K H v (.tuple [.int q.num, .int (q.den : Nat)]) := by
  obtain ⟨a, rfl, s, _⟩ := h.sq
  exact .tup s (.cons (.int _) (.cons (.int _) .nil))
end
/-- a list of numbers -/
def Nl (K : PySem.W.Frag) (H : Hp) (xs : List V) (qs : List Rat) : Prop := xs.length = qs.length ∧ ∀ (i : Nat) (x : V) (q : Rat), xs[i]? = some x → qs[i]? = some q → Nq K H x q
theorem Nl.same {K : PySem.W.Frag} {H H' : Hp} {xs : List V} {qs : List Rat} (h : Nl K H xs qs) (s : Same H H') : Nl K H' xs qs := ⟨h.1, fun i x q h1 h2 => (h.2 i x q h1 h2).same s⟩
theorem Nl.nil {K : PySem.W.Frag} {H : Hp} : Nl K H [] [] := ⟨rfl, fun i x q h => by simp at h⟩
theorem Nl.snoc {K : PySem.W.Frag} {H : Hp} {xs : List V} {qs : List Rat} {x : V} {q : Rat} (h : Nl K H xs qs) (hx : Nq K H x q) : Nl K H (xs ++ [x]) (qs ++ [q]) := by
  refine ⟨by rw [List.length_append, List.length_append, h.1]; rfl, fun i y r h1 h2 => ?_⟩
  by_cases c : i < xs.length
  · rw [List.getElem?_append_left c] at h1
    rw [List.getElem?_append_left (by rw [← h.1]; exact c)] at h2
    exact h.2 i y r h1 h2
  · rw [List.getElem?_append_right (by omega)] at h1
    rw [List.getElem?_append_right (by rw [← h.1]; omega)] at h2
    rw [h.1] at h1
    match hi : i - qs.length, h1, h2 with
    | 0, h1, h2 =>
      rw [← Option.some.inj (show some x = some y from h1), ← Option.some.inj (show some q = some r from h2)]
      exact hx
    | n + 1, h1, _ => simp at h1
theorem Nl.cons {K : PySem.W.Frag} {H : Hp} {xs : List V} {qs : List Rat} {x : V} {q : Rat} (hx : Nq K H x q) (h : Nl K H xs qs) : Nl K H (x :: xs) (q :: qs) := by
  refine ⟨by rw [List.length_cons, List.length_cons, h.1], fun i y r h1 h2 => ?_⟩
  cases i with
  | zero =>
    rw [← Option.some.inj (show some x = some y from h1), ← Option.some.inj (show some q = some r from h2)]
    exact hx
  | succ i => exact h.2 i y r (by simpa using h1) (by simpa using h2)
theorem Nl.tail {K : PySem.W.Frag} {H : Hp} {xs : List V} {qs : List Rat} {x : V} {q : Rat} (h : Nl K H (x :: xs) (q :: qs)) : Nl K H xs qs :=
  ⟨by have := h.1; simp at this; exact this, fun i y r h1 h2 => h.2 (i + 1) y r (by simpa using h1) (by simpa using h2)⟩
theorem Nl.get {K : PySem.W.Frag} {H : Hp} {xs : List V} {qs : List Rat} (h : Nl K H xs qs) {i : Nat} {x : V} (hx : xs[i]? = some x) : ∃ q, qs[i]? = some q ∧ Nq K H x q := by
  have hi : i < xs.length := by
    rcases Nat.lt_or_ge i xs.length with c | c
    · exact c
    · rw [List.getElem?_eq_none c] at hx; cases hx
  have e := List.getElem?_eq_getElem (l := qs) (i := i) (by rw [← h.1]; exact hi)
  exact ⟨_, e, h.2 i x _ hx e⟩
theorem Nl.get' {K : PySem.W.Frag} {H : Hp} {xs : List V} {qs : List Rat} (h : Nl K H xs qs) {i : Nat} (hi : i < qs.length) : ∃ x, xs[i]? = some x ∧ Nq K H x qs[i] := by
  have e := List.getElem?_eq_getElem (l := xs) (i := i) (by rw [h.1]; exact hi)
  exact ⟨_, e, h.2 i _ _ e (List.getElem?_eq_getElem hi)⟩
theorem Nl.app {K : PySem.W.Frag} {H : Hp} {xs ys : List V} {qs rs : List Rat} (h : Nl K H xs qs) (h' : Nl K H ys rs) : Nl K H (xs ++ ys) (qs ++ rs) := by
  refine ⟨by rw [List.length_append, List.length_append, h.1, h'.1], fun i y r h1 h2 => ?_⟩
  by_cases c : i < xs.length
  · rw [List.getElem?_append_left c] at h1
    rw [List.getElem?_append_left (by rw [← h.1]; exact c)] at h2
    exact h.2 i y r h1 h2
  · rw [List.getElem?_append_right (by omega)] at h1
    rw [List.getElem?_append_right (by rw [← h.1]; omega), ← h.1] at h2
    exact h'.2 _ y r h1 h2
theorem Nl.take {K : PySem.W.Frag} {H : Hp} {xs : List V} {qs : List Rat} (h : Nl K H xs qs) (n : Nat) : Nl K H (xs.take n) (qs.take n) := by
  refine ⟨by rw [List.length_take, List.length_take, h.1], fun i y r h1 h2 => ?_⟩
  rw [List.getElem?_take] at h1 h2
  by_cases c : i < n
  · rw [if_pos c] at h1 h2
    exact h.2 i y r h1 h2
  · rw [if_neg c] at h1
    cases h1
theorem Nl.drop {K : PySem.W.Frag} {H : Hp} {xs : List V} {qs : List Rat} (h : Nl K H xs qs) (n : Nat) : Nl K H (xs.drop n) (qs.drop n) := by
  refine ⟨by rw [List.length_drop, List.length_drop, h.1], fun i y r h1 h2 => ?_⟩
  rw [List.getElem?_drop] at h1 h2
  exact h.2 _ y r h1 h2
/-! ### what comes back -/
def GivesQ (H : Hp) (Q : VK) (r : Rat) : Prop := ∀ t H', Same H H' → H t = none → H' t = some (rT r) → Q (.ref t) H'
theorem GivesQ.upd {H : Hp} {Q : VK} {r : Rat} (g : GivesQ H Q r) {t : Addr} (n : H t = none) : Q (.ref t) (upd H t (rT r)) := g t _ (new_same n _) n upd_same
theorem low_HO {p q : Int} (h : q ≠ 0) : HO.tup [.int (lowU p q), .int (lowL p q)] = rT (Rat.divInt p q) := by
  obtain ⟨h1, h2⟩ := low_rat (p := p) h
  rw [h1, h2]
  rfl
theorem div_one (x : Int) : (Rat.divInt x 1).num = x ∧ (Rat.divInt x 1).den = 1 := by
  have e : Rat.divInt x 1 = (x : Rat) := by
    rw [Rat.divInt_eq_div]
    have : ((1 : Int) : Rat) = 1 := rfl
    rw [this]
    grind
  rw [e]
  exact ⟨rfl, rfl⟩
def spLowQ : Sp := fun vs H Q _ => ∃ p q : Int, vs = [.int p, .int q] ∧ q ≠ 0 ∧ q.natAbs.log2 < 9000 ∧ GivesQ H Q (Rat.divInt p q)
theorem log_bd {x : Int} {n : Nat} (h : x.natAbs < 2 ^ n) (h0 : 0 < n) : x.natAbs.log2 < n := PySem.Flt.log2_lt_of h0 h
def spAddQ (K : PySem.W.Frag) : Sp := fun vs H Q _ => ∃ (x y : V) (a b : Rat), vs = [x, y] ∧ Nq K H x a ∧ Nq K H y b ∧ Bq 4000 a ∧ Bq 4000 b ∧ GivesQ H Q (a + b)
def spMulQ (K : PySem.W.Frag) : Sp := fun vs H Q _ => ∃ (x y : V) (a b : Rat), vs = [x, y] ∧ Nq K H x a ∧ Nq K H y b ∧ Bq 4000 a ∧ Bq 4000 b ∧ GivesQ H Q (a * b)
def spNegQ (K : PySem.W.Frag) : Sp := fun vs H Q _ => ∃ (x : V) (a : Rat), vs = [x] ∧ Nq K H x a ∧ GivesQ H Q (-a)
abbrev nAB : List Str := ["_law_a", "_law_b"]
section
variable {P : Program} {w : World} {K : PySem.W.Frag} {mg : Str → Option Value} {base : Heap} {f fL : Addr} {fd fdL : FuncData}
theorem ok_lowQ (F : Fun K "_law_low" "_law_low" L_low f fd) (ma : mg "abs" = none) (mi : mg "int" = none) : FnOk P w K mg base CX0 1 f fd ["_law_p", "_law_q"] spLowQ :=
  (ok_low F ma mi).imp fun vs H Q E h => by
    obtain ⟨p, q, e, h0, hl, g⟩ := h
    refine ⟨p, q, e, h0, hl, fun t nt => ?_⟩
    rw [low_HO h0]
    exact g.upd nt
theorem scAdd : FnScope nAB ["_law_a", "_law_b"] (defScope L_add) := ⟨rfl, rfl, rfl, by decide +kernel, rfl, by decide +kernel, by decide +kernel⟩
theorem scMul : FnScope nAB ["_law_a", "_law_b"] (defScope L_mul) := ⟨rfl, rfl, rfl, by decide +kernel, rfl, by decide +kernel, by decide +kernel⟩
theorem ok_addQ (F : Fun K "_law_add" "_law_add" L_add f fd) (G : FnOk P w K mg base CX0 1 fL fdL ["_law_p", "_law_q"] spLowQ) (bL : Binds K fdL ["_law_p", "_law_q"] []) (kL : PySem.W.keepIn K (.ref fL) = true) (mL : mg "_law_low" = some (.ref fL)) :
    FnOk P w K mg base CX0 2 f fd ["_law_a", "_law_b"] (spAddQ K) := by
  refine F.ok scAdd (fun vs H Q E h => ?_) (fun cdv A outer s H vs Q E hr h => ?_)
  · obtain ⟨x, y, a, b, rfl, _⟩ := h
    rfl
  obtain ⟨x, y, a, b, rfl, hx, hy, ba, bb, q⟩ := h
  obtain ⟨xa, rfl, sx, _⟩ := hx.sq
  obtain ⟨ya, rfl, sy, _⟩ := hy.sq
  refine ⟨_, pss_cons (ps_if (PW.pt (pw_and (pt_cmpR op_eq (pe_ix ix_tup (pv 0) pe_int (fun _ _ => rfl)) pe_int (nomark _)) (pw_and1 (pt_cmpR op_eq (pe_ix ix_tup (pv 1) pe_int (fun _ _ => rfl)) pe_int (nomark _)))))
      (pss_one (ps_ret (pe_tup (pa_cons (pe_op op_add (pe_ix ix_tup (pv 0) pe_int (fun _ _ => rfl)) (pe_ix ix_tup (pv 1) pe_int (fun _ _ => rfl))) (pa_cons pe_int pa_nil))))) pss_nil)
    (pss_one (ps_ret (pe_call G hr rfl mL kL bL .nil pass0 (pa_cons (pe_op op_add (pe_op op_mulW (pe_ix ix_tup (pv 0) pe_int (fun _ _ => rfl)) (pe_ix ix_tup (pv 1) pe_int (fun _ _ => rfl))) (pe_op op_mulW (pe_ix ix_tup (pv 1) pe_int (fun _ _ => rfl)) (pe_ix ix_tup (pv 0) pe_int (fun _ _ => rfl))))
      (pa_cons (pe_op op_mulW (pe_ix ix_tup (pv 0) pe_int (fun _ _ => rfl)) (pe_ix ix_tup (pv 1) pe_int (fun _ _ => rfl))) pa_nil))))), ?_⟩
  have low : ∃ p q : Int, [V.int (a.num * b.den + b.num * a.den), V.int (a.den * b.den)] = [.int p, .int q] ∧ q ≠ 0 ∧ q.natAbs.log2 < 9000 ∧ GivesQ H Q (Rat.divInt p q) :=
    ⟨_, _, rfl, Int.mul_ne_zero (den_ne a) (den_ne b), Nat.lt_trans (log_bd (lt_mul ba.dn bb.dn) (by decide)) (by decide), by rw [← rat_add]; exact q⟩
  have els : tRet (tCall spLowQ [] E0 (tCons (tOp (rI0 fun i j => .int (i + j)) (tOp (rI CMulW fun i j => .int (i * j)) (tOp (rIxT K) (tVar 0) (tC (.int 0))) (tOp (rIxT K) (tVar 1) (tC (.int 1)))) (tOp (rI CMulW fun i j => .int (i * j)) (tOp (rIxT K) (tVar 1) (tC (.int 0))) (tOp (rIxT K) (tVar 0) (tC (.int 1)))))
      (tCons (tOp (rI CMulW fun i j => .int (i * j)) (tOp (rIxT K) (tVar 0) (tC (.int 1))) (tOp (rIxT K) (tVar 1) (tC (.int 1)))) tNil))) { nx := fun _ H' => Q .non H', rt := Q } (L2.start nAB [.ref xa, .ref ya]) H :=
    ⟨_, rfl, xa, _, 0, _, rfl, rfl, sx, rfl, _, rfl, ya, _, 1, _, rfl, rfl, sy, rfl, a.num, (b.den : Nat), rfl, rfl, wide_mul ba.1 bb.dn (by decide) (by decide) (by decide), _, rfl, ya, _, 0, _, rfl, rfl, sy, rfl, _, rfl, xa, _, 1, _, rfl, rfl, sx, rfl, b.num, (a.den : Nat), rfl, rfl, wide_mul bb.1 ba.dn (by decide) (by decide) (by decide), _, _, rfl, rfl,
      _, rfl, xa, _, 1, _, rfl, rfl, sx, rfl, _, rfl, ya, _, 1, _, rfl, rfl, sy, rfl, (a.den : Nat), (b.den : Nat), rfl, rfl, wide_mul ba.dn bb.dn (by decide) (by decide) (by decide), low⟩
  refine ⟨_, rfl, xa, _, 1, _, rfl, rfl, sx, rfl, rfl, _, rfl, ite2 (fun e1 => ?_) (fun _ => iteF els)⟩
  refine ⟨_, rfl, ya, _, 1, _, rfl, rfl, sy, rfl, rfl, _, rfl, ite2 (fun e2 => ?_) (fun _ => els)⟩
  have d1 : ((a.den : Nat) : Int) = 1 := V.int.inj (of_decide_eq_true e1)
  have d2 : ((b.den : Nat) : Int) = 1 := V.int.inj (of_decide_eq_true e2)
  refine ⟨_, rfl, xa, _, 0, _, rfl, rfl, sx, rfl, _, rfl, ya, _, 0, _, rfl, rfl, sy, rfl, _, _, rfl, rfl, (by show 2 ≤ sizeLine; decide), fun t nt => ?_⟩
  have e : HO.tup [.int (a.num + b.num), .int 1] = rT (a + b) := by
    have z := rat_add a b
    rw [d1, d2, Int.mul_one, Int.mul_one] at z
    have y := div_one (a.num + b.num)
    unfold rT
    rw [z, show (1 : Int) * 1 = 1 from rfl, y.1, y.2]
    rfl
  rw [e]
  exact q.upd nt
theorem ok_mulQ (F : Fun K "_law_mul" "_law_mul" L_mul f fd) (G : FnOk P w K mg base CX0 1 fL fdL ["_law_p", "_law_q"] spLowQ) (bL : Binds K fdL ["_law_p", "_law_q"] []) (kL : PySem.W.keepIn K (.ref fL) = true) (mL : mg "_law_low" = some (.ref fL)) :
    FnOk P w K mg base CX0 2 f fd ["_law_a", "_law_b"] (spMulQ K) := by
  refine F.ok scMul (fun vs H Q E h => ?_) (fun cdv A outer s H vs Q E hr h => ?_)
  · obtain ⟨x, y, a, b, rfl, _⟩ := h
    rfl
  obtain ⟨x, y, a, b, rfl, hx, hy, ba, bb, q⟩ := h
  obtain ⟨xa, rfl, sx, _⟩ := hx.sq
  obtain ⟨ya, rfl, sy, _⟩ := hy.sq
  refine ⟨_, pss_cons (ps_if (PW.pt (pw_and (pt_cmpR op_eq (pe_ix ix_tup (pv 0) pe_int (fun _ _ => rfl)) pe_int (nomark _)) (pw_and1 (pt_cmpR op_eq (pe_ix ix_tup (pv 1) pe_int (fun _ _ => rfl)) pe_int (nomark _)))))
      (pss_one (ps_ret (pe_tup (pa_cons (pe_op op_mulW (pe_ix ix_tup (pv 0) pe_int (fun _ _ => rfl)) (pe_ix ix_tup (pv 1) pe_int (fun _ _ => rfl))) (pa_cons pe_int pa_nil))))) pss_nil)
    (pss_one (ps_ret (pe_call G hr rfl mL kL bL .nil pass0 (pa_cons (pe_op op_mulW (pe_ix ix_tup (pv 0) pe_int (fun _ _ => rfl)) (pe_ix ix_tup (pv 1) pe_int (fun _ _ => rfl)))
      (pa_cons (pe_op op_mulW (pe_ix ix_tup (pv 0) pe_int (fun _ _ => rfl)) (pe_ix ix_tup (pv 1) pe_int (fun _ _ => rfl))) pa_nil))))), ?_⟩
  have low : ∃ p q : Int, [V.int (a.num * b.num), V.int (a.den * b.den)] = [.int p, .int q] ∧ q ≠ 0 ∧ q.natAbs.log2 < 9000 ∧ GivesQ H Q (Rat.divInt p q) :=
    ⟨_, _, rfl, Int.mul_ne_zero (den_ne a) (den_ne b), Nat.lt_trans (log_bd (lt_mul ba.dn bb.dn) (by decide)) (by decide), by rw [← rat_mul]; exact q⟩
  have els : tRet (tCall spLowQ [] E0 (tCons (tOp (rI CMulW fun i j => .int (i * j)) (tOp (rIxT K) (tVar 0) (tC (.int 0))) (tOp (rIxT K) (tVar 1) (tC (.int 0))))
      (tCons (tOp (rI CMulW fun i j => .int (i * j)) (tOp (rIxT K) (tVar 0) (tC (.int 1))) (tOp (rIxT K) (tVar 1) (tC (.int 1)))) tNil))) { nx := fun _ H' => Q .non H', rt := Q } (L2.start nAB [.ref xa, .ref ya]) H :=
    ⟨_, rfl, xa, _, 0, _, rfl, rfl, sx, rfl, _, rfl, ya, _, 0, _, rfl, rfl, sy, rfl, a.num, b.num, rfl, rfl, wide_mul ba.1 bb.1 (by decide) (by decide) (by decide),
      _, rfl, xa, _, 1, _, rfl, rfl, sx, rfl, _, rfl, ya, _, 1, _, rfl, rfl, sy, rfl, (a.den : Nat), (b.den : Nat), rfl, rfl, wide_mul ba.dn bb.dn (by decide) (by decide) (by decide), low⟩
  refine ⟨_, rfl, xa, _, 1, _, rfl, rfl, sx, rfl, rfl, _, rfl, ite2 (fun e1 => ?_) (fun _ => iteF els)⟩
  refine ⟨_, rfl, ya, _, 1, _, rfl, rfl, sy, rfl, rfl, _, rfl, ite2 (fun e2 => ?_) (fun _ => els)⟩
  have d1 : ((a.den : Nat) : Int) = 1 := V.int.inj (of_decide_eq_true e1)
  have d2 : ((b.den : Nat) : Int) = 1 := V.int.inj (of_decide_eq_true e2)
  refine ⟨_, rfl, xa, _, 0, _, rfl, rfl, sx, rfl, _, rfl, ya, _, 0, _, rfl, rfl, sy, rfl, a.num, b.num, rfl, rfl, wide_mul ba.1 bb.1 (by decide) (by decide) (by decide), (by show 2 ≤ sizeLine; decide), fun t nt => ?_⟩
  have e : HO.tup [.int (a.num * b.num), .int 1] = rT (a * b) := by
    have z := rat_mul a b
    rw [d1, d2] at z
    have y := div_one (a.num * b.num)
    unfold rT
    rw [z, show (1 : Int) * 1 = 1 from rfl, y.1, y.2]
    rfl
  rw [e]
  exact q.upd nt
end
end Kx
end
section
set_option maxHeartbeats 4000000
namespace Kx
open PySem PySem.Spec PyProof.Rows L2
def revB : List Value → List Value → List Value := fun _ ws => ws.reverse
def revA : List V → List V → List V := fun _ zs => zs.reverse
def appB : List Value → List Value → List Value := fun us ws => us ++ ws
def appA : List V → List V → List V := fun vs zs => vs ++ zs
theorem vals_rev : ∀ {vs : List V} {us : List Value}, Vals vs us → Vals vs.reverse us.reverse
  | _, _, .nil => .nil
  | _, _, .cons r t => by
    rw [List.reverse_cons, List.reverse_cons]
    exact Paired.snoc (vals_rev t) r
theorem vals_app : ∀ {vs : List V} {us : List Value} {zs : List V} {ws : List Value}, Vals vs us → Vals zs ws → Vals (vs ++ zs) (us ++ ws)
  | _, _, _, _, .nil, t => t
  | _, _, _, _, .cons r t, t' => .cons r (vals_app t t')
section
variable {X : Cx} {CX : CXT} {k : Nat} {f : Addr} {fd : FuncData} {ps ks : List Str} {sp : Sp} {E : XK} {x : Str} {p pos : Pos} {kws : List Keyword} {tk : TA}
/-- f(k = v, ..), keywords alone -/
def tCallR (m : Nat) (sp : Sp) (E : XK) (tk : TA) : TE := fun σ H Q => tk σ H fun zs H2 => zs.length = m ∧ sp zs.reverse H2 Q E
theorem pe_callR (F : FnOk X.prog X.w X.K X.mg X.base CX k f fd ps sp) (hr : Room k X.A) (hg : Gl X x) (hm : X.mg x = some (.ref f)) (hk : PySem.W.keepIn X.K (.ref f) = true) (hb : KBn X.K fd ps 0 ks revB revA) (hx : Passes CX X E)
    (hkw : PK X kws tk) (hall : (backToKw pos (keywordEach kws X.env)).all (·.1.isSome) = true := by rfl) (hks : (backToKw pos (keywordEach kws X.env)).filterMap (·.1) = ks := by rfl)
    (hdb : (x == ("__debug__" : Str)) = false := by decide) (hpl : ((backTo pos (starEach [] X.env)).any (·.1) || (backToKw pos (keywordEach kws X.env)).any (·.1.isNone)) = false := by rfl) :
    PE X (.Call (.Name x p) [] kws pos) (tCallR ks.length sp E tk) := by
  refine ⟨fun pins s σ H Q I h => wpAny_Call_Name_kw (ld_glob I hg hm ?_ hdb)⟩
  refine PySem.W.callWith_KW0 (h₀ := X.base) I.ok.mod.kin hk hall ?_ hpl
  refine thn (hkw.run pos pins s σ H _ I h) fun ws s2 ⟨zs, H2, I2, rz, l2, q2⟩ => ⟨I2.kIn, ?_⟩
  rw [hks]
  exact run_fnN (us := []) (vs := []) F hr hb hx I2 .nil rz rfl l2 q2
end
section
variable {K : PySem.W.Frag} {x q : Str} {st : Stmt} {f : Addr} {fd : FuncData}
theorem kb_two {a b : Str} {st : Stmt} (F : Fun K x q st f fd) (h : ∀ (kV doc pm : Value) (an : Option Addr) (cdv ct u v : Value), bindArgs (PySem.W.fnOf x q (defArgs st) (defBody st) (defScope st) .none kV doc pm an cdv ct) ⟨[], [(b, v), (a, u)]⟩ = pure [(a, u), (b, v)]) : KBn K fd [a, b] 0 [b, a] revB revA := by
  obtain ⟨oc, od, kV, doc, pm, an, cdv, ct, osl, rfl, lk, hcd⟩ := F.ex
  refine ⟨fun s us ws _ l1 l2 => ?_, fun _ r => vals_rev r⟩
  match us, ws, l1, l2 with
  | [], [v, u], _, _ => exact .of_eq (h _ _ _ _ _ _ u v)
theorem kb_one {a : Str} {st : Stmt} (F : Fun K x q st f fd) (h : ∀ (kV doc pm : Value) (an : Option Addr) (cdv ct u : Value), bindArgs (PySem.W.fnOf x q (defArgs st) (defBody st) (defScope st) .none kV doc pm an cdv ct) ⟨[], [(a, u)]⟩ = pure [(a, u)]) : KBn K fd [a] 0 [a] revB revA := by
  obtain ⟨oc, od, kV, doc, pm, an, cdv, ct, osl, rfl, lk, hcd⟩ := F.ex
  refine ⟨fun s us ws _ l1 l2 => ?_, fun _ r => vals_rev r⟩
  match us, ws, l1, l2 with
  | [], [u], _, _ => exact .of_eq (h _ _ _ _ _ _ u)
/-- the first by its place, the second by its name -/
theorem kb_mix {a b : Str} {st : Stmt} (F : Fun K x q st f fd) (h : ∀ (kV doc pm : Value) (an : Option Addr) (cdv ct u v : Value), bindArgs (PySem.W.fnOf x q (defArgs st) (defBody st) (defScope st) .none kV doc pm an cdv ct) ⟨[u], [(b, v)]⟩ = pure [(a, u), (b, v)]) : KBn K fd [a, b] 1 [b] appB appA := by
  obtain ⟨oc, od, kV, doc, pm, an, cdv, ct, osl, rfl, lk, hcd⟩ := F.ex
  refine ⟨fun s us ws _ l1 l2 => ?_, fun r1 r2 => vals_app r1 r2⟩
  match us, ws, l1, l2 with
  | [u], [v], _, _ => exact .of_eq (h _ _ _ _ _ _ u v)
end
/-! ### a def as it is used: its promise, its arguments, its name -/
structure Use (P : Program) (w : World) (K : PySem.W.Frag) (mg : Str → Option Value) (base : Heap) (CX : CXT) (k : Nat) (x : Str) (ps : List Str) (sp : Sp) (kws : List (List Str)) : Prop where
  ex : ∃ (f : Addr) (fd : FuncData), FnOk P w K mg base CX k f fd ps sp ∧ Binds K fd ps [] ∧ PySem.W.keepIn K (.ref f) = true ∧ mg x = some (.ref f) ∧ (∀ ks ∈ kws, ks.length = ps.length → KBn K fd ps 0 ks revB revA) ∧ (∀ ks ∈ kws, ks.length = 1 → ps.length = 2 → KBn K fd ps 1 ks appB appA)
section
variable {X : Cx} {CX : CXT} {k : Nat} {ps ks : List Str} {kl : List (List Str)} {sp : Sp} {E : XK} {x : Str} {p pos : Pos} {kws : List Keyword} {tk t : TA} {e : Expr} {es : List Expr}
theorem pe_use (U : Use X.prog X.w X.K X.mg X.base CX k x ps sp kl) (hr : Room k X.A) (hg : Gl X x) (hx : Passes CX X E) (ha : PA X (e :: es) t)
    (hdb : (x == ("__debug__" : Str)) = false := by decide) (he : starEach (e :: es) X.env = (false, eval e X.env) :: starEach es X.env := by rfl) (hpl : (backTo pos (starEach es X.env)).any (·.1) = false := by rfl) :
    PE X (.Call (.Name x p) (e :: es) [] pos) (tCall sp [] E t) := by
  obtain ⟨f, fd, F, b, kp, m, _⟩ := U.ex
  exact pe_call F hr hg m kp b .nil hx ha hdb he hpl
theorem pe_useR (U : Use X.prog X.w X.K X.mg X.base CX k x ps sp kl) (hr : Room k X.A) (hg : Gl X x) (hx : Passes CX X E) (hl : ks.length = ps.length)
    (hkw : PK X kws tk) (hin : ks ∈ kl) (hall : (backToKw pos (keywordEach kws X.env)).all (·.1.isSome) = true := by rfl) (hks : (backToKw pos (keywordEach kws X.env)).filterMap (·.1) = ks := by rfl)
    (hdb : (x == ("__debug__" : Str)) = false := by decide) (hpl : ((backTo pos (starEach [] X.env)).any (·.1) || (backToKw pos (keywordEach kws X.env)).any (·.1.isNone)) = false := by rfl) :
    PE X (.Call (.Name x p) [] kws pos) (tCallR ks.length sp E tk) := by
  obtain ⟨f, fd, F, b, kp, m, h, _⟩ := U.ex
  exact pe_callR F hr hg m kp (h _ hin hl) hx hkw hall hks hdb hpl
theorem pe_useN (U : Use X.prog X.w X.K X.mg X.base CX k x ps sp kl) (hr : Room k X.A) (hg : Gl X x) (hx : Passes CX X E) (hl : ks.length = 1) (hl2 : ps.length = 2)
    (ha : PA X (e :: es) t) (hkw : PK X kws tk) (hin : ks ∈ kl) (hall : (backToKw pos (keywordEach kws X.env)).all (·.1.isSome) = true := by rfl) (hks : (backToKw pos (keywordEach kws X.env)).filterMap (·.1) = ks := by rfl)
    (hdb : (x == ("__debug__" : Str)) = false := by decide) (he : starEach (e :: es) X.env = (false, eval e X.env) :: starEach es X.env := by rfl)
    (hpl : ((backTo pos (starEach (e :: es) X.env)).any (·.1) || (backToKw pos (keywordEach kws X.env)).any (·.1.isNone)) = false := by rfl) :
    PE X (.Call (.Name x p) (e :: es) kws pos) (tCallN 1 ks.length sp appA E t tk) := by
  obtain ⟨f, fd, F, b, kp, m, _, h⟩ := U.ex
  exact pe_callN F hr hg m kp (h _ hin hl hl2) hx ha hkw hall hks hdb he hpl
end
/-! ### a def whose code object's place is known -/
structure FunC (K : PySem.W.Frag) (x qual : Str) (st : Stmt) (f : Addr) (fd : FuncData) (c : Addr) : Prop where
  ex : ∃ (oc : Value) (od : Option Addr) (kV doc pm : Value) (an : Option Addr) (ct : Value) (osl : Array (Option Value)),
    fd = PySem.W.fnOf x qual (defArgs st) (defBody st) (defScope st) .none kV doc pm an (.ref c) ct ∧ K.lookup f = some ⟨oc, od, .func fd, osl⟩ ∧ PySem.W.codeIn K (.ref c) qual = true
  kp : PySem.W.keepIn K (.ref f) = true
section
variable {P : Program} {w : World} {K : PySem.W.Frag} {mg : Str → Option Value} {base : Heap}
theorem FunC.fn {x qual : Str} {st : Stmt} {f c : Addr} {fd : FuncData} (F : FunC K x qual st f fd c) : Fun K x qual st f fd := by
  obtain ⟨oc, od, kV, doc, pm, an, ct, osl, h1, h2, h3⟩ := F.ex
  exact ⟨⟨oc, od, kV, doc, pm, an, _, ct, osl, h1, h2, h3⟩, F.kp⟩
theorem FunC.ok {x qual : Str} {st : Stmt} {f c : Addr} {fd : FuncData} {N ps : List Str} {k : Nat} {sp : Sp} (F : FunC K x qual st f fd c) (S : FnScope N ps (defScope st)) (len : ∀ vs H Q E, sp vs H Q E → vs.length = ps.length)
    (hbody : ∀ (A : Around) (outer : List Env) (s : Shared) (H : Hp) (vs : List V) (Q : VK) (E : XK), Room k (A.deeper (envOfC qual (defScope st) s.heap.objs.size f (.ref c))) → sp vs H Q E →
      ∃ t, PSs (cxOf CX0 P w K mg base N qual (defScope st) f (.ref c) A outer s H E).nox (defBody st) t ∧ t { nx := fun _ H' => Q .non H', rt := Q } (L2.start N vs) H) : FnOk P w K mg base CX0 (k + 1) f fd ps sp := by
  obtain ⟨oc, od, kV, doc, pm, an, ct, osl, rfl, lk, hcd⟩ := F.ex
  refine fn_of lk hcd S len fun A outer s H vs Q E hr hsp => ?_
  obtain ⟨t, h, q⟩ := hbody A outer s H vs Q E hr hsp
  exact ⟨t, h.nox, q⟩
end
end Kx
end
section
set_option maxHeartbeats 4000000
namespace Kx
open PySem PySem.Spec PyProof.Rows L2
/-- a list comprehension that makes something new at each turn: R says of the i-th -/
theorem lc_acc {J : It} {n : Nat} {G : Hp → Prop} {Y : Nat → Hp → V → Hp → Prop} (w : Walk J n G Y) {g : TG} {te : TE} {vs : List Nat} {σ : L2.St} {H1 : Hp} {D : Addr} {Qd : Hp → Prop} (R : Nat → Hp → V → Prop)
    (mono : ∀ i H H' y l, R i H y → H D = some (.lst l) → But D H H' → R i H' y) (nD : H1 D = none) (hn : n ≤ 900) (hG : ∀ H, Same H1 H → G H)
    (hs : ∀ i x H H' (k : V → Hp → Prop), i < n → Same H1 H → Y i H x H' → (∀ y H4, Same H H4 → R i H4 y → k y H4) → g x (wipe σ vs) H' fun σ2 H2 => wipe σ2 vs = wipe σ vs ∧ te σ2 H2 k)
    (hd : ∀ H xs, Same H1 H → H D = some (.lst xs) → xs.length = n → (∀ (i : Nat) y, xs[i]? = some y → R i H y) → Qd H) :
    ∃ W : Nat → Nat → Hp → Prop, (∃ m, W 0 m (upd H1 D (.lst []))) ∧ ∀ i m H, W i m H →
      (J.stop i H ∧ Qd H) ∨ (J.go i H ∧ ∃ Nx : Hp → Prop, (∀ H', Nx H' → ∃ m', m' < m ∧ W (i + 1) m' H') ∧ ∀ x H', J.yld i H x H' → g x (wipe σ vs) H' fun σ2 H2 => wipe σ2 vs = wipe σ vs ∧ tYes σ2 H2 fun b H3 =>
        if b = true then te σ2 H3 fun y H4 => ∃ acc, H4 D = some (.lst acc) ∧ acc.length < sizeLine ∧ Nx (upd H4 D (.lst (acc ++ [y]))) else Nx H3) := by
  refine lc_it w (fun i H => Same H1 H ∧ ∃ xs, H D = some (.lst xs) ∧ xs.length = i ∧ ∀ (j : Nat) y, xs[j]? = some y → R j H y) ⟨new_same nD _, [], upd_same, rfl, fun j y h => by simp at h⟩ (fun i H _ h => hG H h.1) ?_ ?_
  · rintro i x H H' hi ⟨s1, xs, hx, hl, hR⟩ y
    have z := hs i x H H' (fun y H4 => ∃ acc, H4 D = some (.lst acc) ∧ acc.length < sizeLine ∧ (Same H1 (upd H4 D (.lst (acc ++ [y]))) ∧ ∃ xs, (upd H4 D (.lst (acc ++ [y]))) D = some (.lst xs) ∧ xs.length = i + 1 ∧ ∀ (j : Nat) z, xs[j]? = some z → R j (upd H4 D (.lst (acc ++ [y]))) z)) hi s1 y (fun y H4 s4 r4 => ?_)
    · exact z
    · have h4 := s4 _ _ hx
      refine ⟨xs, h4, small1000 (by omega), fun e o h => ?_, xs ++ [y], upd_same, by rw [List.length_append, hl]; rfl, fun j z hz => ?_⟩
      · rw [upd_ne (ne_of_none h nD)]
        exact s4 _ _ (s1 _ _ h)
      · have sm : But D H4 (upd H4 D (.lst (xs ++ [y]))) := fun e o n h => by rw [upd_ne n]; exact h
        by_cases c : j < xs.length
        · rw [List.getElem?_append_left c] at hz
          exact mono j H _ z _ (hR j z hz) hx ((But.same s4).trans sm)
        · rw [List.getElem?_append_right (by omega)] at hz
          match hj : j - xs.length, hz with
          | 0, hz =>
            rw [← Option.some.inj (show some y = some z from hz)]
            obtain rfl : j = i := by omega
            exact mono j H4 _ _ _ r4 h4 sm
          | _ + 1, hz => simp at hz
  · rintro H ⟨s1, xs, hx, hl, hR⟩
    exact hd H xs s1 hx hl hR
theorem Nq.butL {K : PySem.W.Frag} {H H' : Hp} {v : V} {q : Rat} {D : Addr} {l : List V} (h : Nq K H v q) (hD : H D = some (.lst l)) (s : But D H H') : Nq K H' v q := by
  obtain ⟨a, e, h⟩ := h
  refine ⟨a, e, h.imp (fun h => s _ _ (fun z => ?_) h) id⟩
  rw [z, hD] at h
  cases h
/-- .. new numbers -/
theorem lc_nums {K : PySem.W.Frag} {J : It} {n : Nat} {G : Hp → Prop} {Y : Nat → Hp → V → Hp → Prop} (w : Walk J n G Y) {g : TG} {te : TE} {vs : List Nat} {σ : L2.St} {H1 : Hp} {D : Addr} {Qd : Hp → Prop} (qs : List Rat)
    (hl : qs.length = n) (nD : H1 D = none) (hn : n ≤ 900) (hG : ∀ H, Same H1 H → G H)
    (hs : ∀ i q x H H' (k : V → Hp → Prop), qs[i]? = some q → Same H1 H → Y i H x H' → (∀ y H4, Same H H4 → Nq K H4 y q → k y H4) → g x (wipe σ vs) H' fun σ2 H2 => wipe σ2 vs = wipe σ vs ∧ te σ2 H2 k)
    (hd : ∀ H xs, Same H1 H → H D = some (.lst xs) → Nl K H xs qs → Qd H) :
    ∃ W : Nat → Nat → Hp → Prop, (∃ m, W 0 m (upd H1 D (.lst []))) ∧ ∀ i m H, W i m H →
      (J.stop i H ∧ Qd H) ∨ (J.go i H ∧ ∃ Nx : Hp → Prop, (∀ H', Nx H' → ∃ m', m' < m ∧ W (i + 1) m' H') ∧ ∀ x H', J.yld i H x H' → g x (wipe σ vs) H' fun σ2 H2 => wipe σ2 vs = wipe σ vs ∧ tYes σ2 H2 fun b H3 =>
        if b = true then te σ2 H3 fun y H4 => ∃ acc, H4 D = some (.lst acc) ∧ acc.length < sizeLine ∧ Nx (upd H4 D (.lst (acc ++ [y]))) else Nx H3) := by
  refine lc_acc w (fun i H y => ∀ q, qs[i]? = some q → Nq K H y q) (fun i H H' y l h hD s q hq => (h q hq).butL hD s) nD hn hG (fun i x H H' k hi s y hk => ?_) (fun H xs s h l hR => hd H xs s h ⟨by rw [l, hl], fun i x q h1 h2 => hR i x h1 q h2⟩)
  have e := List.getElem?_eq_getElem (l := qs) (i := i) (by omega)
  exact hs i _ x H H' k e s y fun z H4 s4 r4 => hk z H4 s4 fun q hq => by
    rw [e] at hq
    rw [← Option.some.inj hq]
    exact r4
abbrev tupQ (q : Rat) : PyData := .tuple [.int q.num, .int (q.den : Nat)]
theorem eqv_num (a b : Rat) : PyData.eqv (tupQ a) (tupQ b) = decide (a = b) := by
  by_cases h : a = b
  · subst h
    rw [decide_eq_true rfl]
    exact SeqAt.eqv_refl _ rfl
  · rw [decide_eq_false h]
    simp only [tupQ, PyData.eqv, PyData.eqvAll, Bool.and_true]
    rw [Bool.and_eq_false_iff]
    by_cases e : a.num = b.num
    · right
      refine beq_eq_false_iff_ne.mpr fun z => h (Rat.ext e ?_)
      omega
    · left
      exact beq_eq_false_iff_ne.mpr e
end Kx
end
section
set_option maxHeartbeats 4000000
namespace Kx
open PySem PySem.Spec PyProof.Rows L2
/-! ### the program's numbers -/
abbrev nOO : List Str := ["one", "other"]
def spProQ (K : PySem.W.Frag) : Sp := fun vs H Q _ => ∃ (x y : V) (a b : Rat), vs = [x, y] ∧ Nq K H x a ∧ Nq K H y b ∧ Bq 4000 a ∧ Bq 4000 b ∧ GivesQ H Q (a * b)
section
variable {P : Program} {w : World} {K : PySem.W.Frag} {mg : Str → Option Value} {base : Heap} {f fL o0 : Addr} {fd fdL : FuncData}
theorem scRatio : FnScope ["upper", "lower", "shared"] ["upper", "lower"] (defScope F_ratio) := ⟨rfl, rfl, rfl, by decide +kernel, rfl, by decide +kernel, by decide +kernel⟩
theorem ok_ratio (F : Fun K "ratio" "ratio" F_ratio f fd) (mG : mg "gcd" = some (.builtin "math.gcd")) : FnOk P w K mg base CX0 1 f fd ["upper", "lower"] spLowQ := by
  refine F.ok scRatio (fun vs H Q E h => ?_) (fun cdv A outer s H vs Q E hr h => ?_)
  · obtain ⟨p, q, rfl, _⟩ := h
    rfl
  obtain ⟨p, q, rfl, hq, hl, qq⟩ := h
  refine ⟨_, pss_cons (ps_if (pt_cmpR op_eq (pv 1) pe_int (nomark _)) (pss_one ps_never) pss_nil)
    (pss_cons (ps_set (i := 2) scRatio.nd rfl (Or.inl rfl) (pe_callBfun cr_gcd rfl mG (pa_cons (pv 0) (pa_cons (pv 1) pa_nil))))
    (pss_cons (ps_if (pt_cmpR op_lt (pv 1) pe_int (nomark _)) (pss_one (ps_set (i := 2) scRatio.nd rfl (Or.inl rfl) (pe_un un_neg (pv 2)))) pss_nil)
    (pss_one (ps_ret (pe_tup (pa_cons (pe_op op_fdivA (pv 0) (pv 2)) (pa_cons (pe_op op_fdivA (pv 1) (pv 2)) pa_nil))))))), ?_⟩
  have fin : ∀ g : Int, g = gS p q → (∀ t, H t = none → Q (.ref t) (upd H t (.tup [.int (p.fdiv g), .int (q.fdiv g)]))) ∧ g ≠ 0 ∧ g.natAbs.log2 < 9000 := by
    rintro g rfl
    refine ⟨fun t nt => ?_, gS_ne hq, Nat.lt_of_le_of_lt (log_le (gS_le hq)) hl⟩
    have := qq.upd nt
    rw [← low_HO hq] at this
    exact this
  refine ⟨_, rfl, rfl, _, rfl, ?_⟩
  rw [decide_eq_false (fun e => hq (V.int.inj e))]
  refine iteF ⟨_, rfl, _, rfl, p, q, rfl, ?_⟩
  refine ⟨_, rfl, q, 0, rfl, rfl, _, rfl, ite2 (fun c => ?_) (fun c => ?_)⟩
  · obtain ⟨q1, n0, l9⟩ := fin (-((Nat.gcd p.natAbs q.natAbs : Nat) : Int)) (by unfold gS; rw [if_pos (of_decide_eq_true c)])
    exact ⟨_, rfl, _, rfl, _, rfl, _, rfl, p, _, rfl, rfl, ⟨n0, l9⟩, _, rfl, _, rfl, q, _, rfl, rfl, ⟨n0, l9⟩, (by show 2 ≤ sizeLine; decide), q1⟩
  · obtain ⟨q1, n0, l9⟩ := fin ((Nat.gcd p.natAbs q.natAbs : Nat) : Int) (by unfold gS; rw [if_neg (of_decide_eq_false (Bool.eq_false_iff.mpr c))])
    exact ⟨_, rfl, _, rfl, p, _, rfl, rfl, ⟨n0, l9⟩, _, rfl, _, rfl, q, _, rfl, rfl, ⟨n0, l9⟩, (by show 2 ≤ sizeLine; decide), q1⟩
theorem scPro : FnScope nOO ["one", "other"] (defScope F_product_of) := ⟨rfl, rfl, rfl, by decide +kernel, rfl, by decide +kernel, by decide +kernel⟩
theorem ok_product (F : Fun K "product_of" "product_of" F_product_of f fd) (UR : Use P w K mg base CX0 1 "ratio" ["upper", "lower"] spLowQ []) : FnOk P w K mg base CX0 2 f fd ["one", "other"] (spProQ K) := by
  refine F.ok scPro (fun vs H Q E h => ?_) (fun cdv A outer s H vs Q E hr h => ?_)
  · obtain ⟨x, y, a, b, rfl, _⟩ := h
    rfl
  obtain ⟨x, y, a, b, rfl, hx, hy, ba, bb, q⟩ := h
  obtain ⟨xa, rfl, sx, _⟩ := hx.sq
  obtain ⟨ya, rfl, sy, _⟩ := hy.sq
  refine ⟨_, pss_one (ps_ret (pe_use UR hr rfl pass0 (pa_cons (pe_op op_mulW (pe_ix ix_tup (pv 0) pe_int (fun _ _ => rfl)) (pe_ix ix_tup (pv 1) pe_int (fun _ _ => rfl)))
      (pa_cons (pe_op op_mulW (pe_ix ix_tup (pv 0) pe_int (fun _ _ => rfl)) (pe_ix ix_tup (pv 1) pe_int (fun _ _ => rfl))) pa_nil)))), ?_⟩
  exact ⟨_, rfl, xa, _, 0, _, rfl, rfl, sx, rfl, _, rfl, ya, _, 0, _, rfl, rfl, sy, rfl, a.num, b.num, rfl, rfl, wide_mul ba.1 bb.1 (by decide) (by decide) (by decide),
      _, rfl, xa, _, 1, _, rfl, rfl, sx, rfl, _, rfl, ya, _, 1, _, rfl, rfl, sy, rfl, (a.den : Nat), (b.den : Nat), rfl, rfl, wide_mul ba.dn bb.dn (by decide) (by decide) (by decide),
      _, _, rfl, Int.mul_ne_zero (den_ne a) (den_ne b), Nat.lt_trans (log_bd (lt_mul ba.dn bb.dn) (by decide)) (by decide), by rw [← rat_mul]; exact q⟩
end
/-! ### lists of numbers -/
/-- the list at a, for lists that were passed -/
def Ls (K : PySem.W.Frag) (H : Hp) (v : V) (qs : List Rat) : Prop := ∃ a xs, v = .ref a ∧ H a = some (.lst xs) ∧ Nl K H xs qs
theorem Ls.same {K : PySem.W.Frag} {H H' : Hp} {v : V} {qs : List Rat} (h : Ls K H v qs) (s : Same H H') : Ls K H' v qs := by
  obtain ⟨a, xs, e, h1, h2⟩ := h
  exact ⟨a, xs, e, s _ _ h1, h2.same s⟩
/-- a new list of numbers comes back -/
def GivesL (K : PySem.W.Frag) (H : Hp) (Q : VK) (rs : List Rat) : Prop := ∀ b H' xs, Same H H' → H b = none → H' b = some (.lst xs) → Nl K H' xs rs → Q (.ref b) H'
def AllB (n : Nat) (qs : List Rat) : Prop := ∀ q ∈ qs, Bq n q
def spTwoL (K : PySem.W.Frag) (op : Rat → Rat → Rat) : Sp := fun vs H Q _ => ∃ (x y : V) (qs rs : List Rat), vs = [x, y] ∧ Ls K H x qs ∧ Ls K H y rs ∧ qs.length = rs.length ∧ qs.length ≤ 100 ∧ AllB 4000 qs ∧ AllB 4000 rs ∧ GivesL K H Q (qs.zipWith op rs)
def spMulsL (K : PySem.W.Frag) : Sp := fun vs H Q _ => ∃ (x y : V) (qs : List Rat) (t : Rat), vs = [x, y] ∧ Ls K H x qs ∧ Nq K H y t ∧ qs.length ≤ 100 ∧ AllB 4000 qs ∧ Bq 4000 t ∧ GivesL K H Q (qs.map (· * t))
abbrev nSo : List Str := ["one", "other", "a", "c", "b", "d"]
abbrev nMo : List Str := ["numbers", "t", "number"]
section
variable {P : Program} {w : World} {K : PySem.W.Frag} {mg : Str → Option Value} {base : Heap} {f fL o0 : Addr} {fd fdL : FuncData}
theorem scDo : FnScope nSo ["one", "other"] (defScope F_differences_of) := ⟨rfl, rfl, rfl, by decide +kernel, rfl, by decide +kernel, by decide +kernel⟩
theorem zip_get {op : Rat → Rat → Rat} {qs rs : List Rat} {i : Nat} {q : Rat} (h : (qs.zipWith op rs)[i]? = some q) : ∃ a b, qs[i]? = some a ∧ rs[i]? = some b ∧ q = op a b := by
  rw [List.getElem?_zipWith] at h
  cases e1 : qs[i]? with
  | none => simp [e1] at h
  | some a =>
    cases e2 : rs[i]? with
    | none => simp [e1, e2] at h
    | some b =>
      simp [e1, e2] at h
      exact ⟨a, b, rfl, rfl, h.symm⟩
theorem ok_differences (F : Fun K "differences_of" "differences_of" F_differences_of f fd) (mz : mg "zip" = none) (UR : Use P w K mg base CX0 1 "ratio" ["upper", "lower"] spLowQ []) : FnOk P w K mg base CX0 2 f fd ["one", "other"] (spTwoL K (· - ·)) := by
  refine F.ok scDo (fun vs H Q E h => ?_) (fun cdv A outer s H vs Q E hr h => ?_)
  · obtain ⟨x, y, qs, rs, rfl, _⟩ := h
    rfl
  obtain ⟨x, y, qs, rs, rfl, ⟨xa, xs, rfl, hx, nx⟩, ⟨ya, ys, rfl, hy, ny⟩, le, l1, bq, br, q⟩ := h
  refine ⟨_, pss_one (ps_ret (pe_lc (own := [("a", 2), ("c", 3), ("b", 4), ("d", 5)]) (g := gTup K 2 (gCons (gTup K 2 (gCons (gName 2) (gCons (gName 3) gNil))) (gCons (gTup K 2 (gCons (gName 4) (gCons (gName 5) gNil))) gNil))) (tt := tYes) rfl scDo.nd (pi_zip rfl mz (pa_cons (pv 0) (pa_cons (pv 1) pa_nil))) (blkOk_by (N := nSo) (sc := defScope F_differences_of) (by decide +kernel))
      (fun _ _ _ _ _ => pg_tup rfl (pgs_cons (pg_tup rfl (pgs_cons (pg_name (i := 2) scDo.nd rfl (Or.inl rfl)) (pgs_cons (pg_name (i := 3) scDo.nd rfl (Or.inl rfl)) pgs_nil))) (pgs_cons (pg_tup rfl (pgs_cons (pg_name (i := 4) scDo.nd rfl (Or.inl rfl)) (pgs_cons (pg_name (i := 5) scDo.nd rfl (Or.inl rfl)) pgs_nil))) pgs_nil))) (fun _ _ _ _ _ => pts_nil)
      (fun _ _ _ _ _ => pe_use UR hr rfl pass0 (pa_cons (pe_op op_sub (pe_op op_mulW (pv 2) (pv 5)) (pe_op op_mulW (pv 4) (pv 3))) (pa_cons (pe_op op_mulW (pv 3) (pv 5)) pa_nil))))), ?_⟩
  refine ⟨_, rfl, _, rfl, xa, ya, xs, ys, rfl, SqL.of hx, SqL.of hy, fun D nD => ?_⟩
  have lx : xs.length = qs.length := nx.1
  have ly : ys.length = rs.length := ny.1
  refine lc_nums (K := K) (walk_zip (K := K) (a := xa) (b := ya) (xs := xs) (ys := ys) (n := xs.length) (by omega)) (qs.zipWith (· - ·) rs) (by rw [List.length_zipWith]; omega) nD (by omega) (fun H' s => ⟨SqL.of (s _ _ hx), SqL.of (s _ _ hy)⟩) ?_ (fun H' zs s h n => q D H' zs s nD h n)
  rintro i r x H2 H3 k hq s2 ⟨T, y, z, rfl, hT, rfl, hy2, hz2⟩ hk
  obtain ⟨a, b, ea, eb, rfl⟩ := zip_get hq
  have sT := new_same hT (.tup [y, z])
  obtain ⟨va, rfl, sa, _⟩ := ((nx.2 i y a hy2 ea).same (s2.trans sT)).sq
  obtain ⟨vb, rfl, sb, _⟩ := ((ny.2 i z b hz2 eb).same (s2.trans sT)).sq
  have ba := bq a (List.mem_of_getElem? ea)
  have bb := br b (List.mem_of_getElem? eb)
  refine ⟨T, _, rfl, SqT.of upd_same, rfl, _, _, rfl, va, _, rfl, sa, rfl, _, _, rfl, _, _, rfl, rfl, _, _, rfl, vb, _, rfl, sb, rfl, _, _, rfl, _, _, rfl, rfl, rfl, rfl, ?_⟩
  refine ⟨_, rfl, _, rfl, a.num, (b.den : Nat), rfl, rfl, wide_mul ba.1 bb.dn (by decide) (by decide) (by decide), _, rfl, _, rfl, b.num, (a.den : Nat), rfl, rfl, wide_mul bb.1 ba.dn (by decide) (by decide) (by decide), _, _, rfl, rfl, _, rfl, _, rfl, (a.den : Nat), (b.den : Nat), rfl, rfl, wide_mul ba.dn bb.dn (by decide) (by decide) (by decide), ?_⟩
  exact ⟨_, _, rfl, Int.mul_ne_zero (den_ne a) (den_ne b), Nat.lt_trans (log_bd (lt_mul ba.dn bb.dn) (by decide)) (by decide), fun t H4 s4 n4 h4 => hk _ _ (sT.trans s4) (.at (by rw [rat_sub]; exact h4))⟩
end
end Kx
end
section
set_option maxHeartbeats 4000000
namespace Kx
open PySem PySem.Spec PyProof.Rows L2
def rLcm : List V → Hp → VK → Prop := fun vs H Q => ∃ a b : Nat, vs = [.int (a : Nat), .int (b : Nat)] ∧ a < 2 ^ 13400 ∧ b < 2 ^ 13400 ∧ 0 < a ∧ 0 < b ∧ Q (.int ((Nat.lcm a b : Nat) : Int)) H
theorem cr_lcm {X : Cx} : CallR X (.builtin "math.lcm") rLcm := by
  intro pins s σ H vs us Q I r h
  obtain ⟨a, b, rfl, ha, hb, a0, b0, q⟩ := h
  obtain ⟨t, u, rfl⟩ := Vals.int2 r
  have e : ((((Nat.lcm 1 ((a : Nat) : Int).natAbs).lcm ((b : Nat) : Int).natAbs : Nat) : Int)) = ((Nat.lcm a b : Nat) : Int) := by
    rw [Int.natAbs_natCast, Int.natAbs_natCast, Nat.lcm_one_left]
  have l1 : (max 1 ((a : Nat) : Int).natAbs).log2 ≤ 13400 := PySem.W.mg_log (by
    rw [Int.natAbs_natCast, Nat.max_eq_right a0]
    exact Nat.lt_of_lt_of_le ha (Nat.pow_le_pow_right (by decide) (by decide)))
  have l2 : (max ((a : Nat) : Int).natAbs ((b : Nat) : Int).natAbs).log2 ≤ 13400 := PySem.W.mg_log (by
    rw [Int.natAbs_natCast, Int.natAbs_natCast]
    exact Nat.lt_of_lt_of_le (Nat.max_lt.mpr ⟨ha, hb⟩) (Nat.pow_le_pow_right (by decide) (by decide)))
  have l3 : ((((Nat.lcm 1 ((a : Nat) : Int).natAbs).lcm ((b : Nat) : Int).natAbs : Nat) : Int)).natAbs.log2 < bitsLine := by
    rw [e, Int.natAbs_natCast]
    refine Nat.lt_of_le_of_lt (PySem.W.mg_log (k := 26800) ?_) (by decide)
    refine Nat.lt_of_le_of_lt (Nat.le_of_dvd (Nat.mul_pos a0 b0) (Nat.lcm_dvd_mul _ _)) ?_
    refine Nat.lt_of_lt_of_le (Nat.mul_lt_mul'' ha hb) ?_
    rw [← Nat.pow_add]
    exact Nat.pow_le_pow_right (by decide) (by decide)
  refine call_function_meets PySem.W.MGF.kind_lcm PySem.W.MGF.plain_lcm PySem.W.MGF.entry_lcm (PySem.W.MGF.args_lcm _ _) (PySem.W.mg_run_lcm a t b u (by omega) (by omega) l3).meets ?_
  exact ⟨.int _, H, I.tok _, ⟨_, by rw [e]⟩, q⟩
theorem lcm_lt {e L : Nat} (h : L ∣ 6 ^ e) (e2 : e ≤ 200) : L < 2 ^ 601 := by
  have h1 := Nat.le_of_dvd (Nat.pow_pos (by decide)) h
  have h2 := pow6_le e
  have h3 : 2 ^ (3 * e) ≤ 2 ^ 600 := Nat.pow_le_pow_right (by decide) (by omega)
  have h4 : 2 ^ 600 < 2 ^ 601 := Nat.pow_lt_pow_right (by decide) (by decide)
  omega
/-- the pair of the upper parts and the lower part -/
def spOol (K : PySem.W.Frag) : Sp := fun vs H Q _ => ∃ (x : V) (qs : List Rat) (e : Nat), vs = [x] ∧ Ls K H x qs ∧ qs.length ≤ 40 ∧ 1 ≤ e ∧ e ≤ 200 ∧ AllZ e qs ∧
  ∀ b p H', Same H H' → H b = none → H' b = some (.lst ((upL (lcmL 1 qs) qs).map V.int)) → H' p = some (.tup [.ref b, .int (lcmL 1 qs : Nat)]) → Q (.ref p) H'
abbrev nOl : List Str := ["numbers", "lower", "_", "below", "above"]
section
variable {P : Program} {w : World} {K : PySem.W.Frag} {mg : Str → Option Value} {base : Heap} {f fL o0 : Addr} {fd fdL : FuncData}
theorem scOl : FnScope nOl ["numbers"] (defScope F_over_one_lower) := ⟨rfl, rfl, rfl, by decide +kernel, rfl, by decide +kernel, by decide +kernel⟩
theorem ok_ool (F : Fun K "over_one_lower" "over_one_lower" F_over_one_lower f fd) (mLc : mg "lcm" = some (.builtin "math.lcm")) : FnOk P w K mg base CX0 1 f fd ["numbers"] (spOol K) := by
  refine F.ok scOl (fun vs H Q E h => ?_) (fun cdv A outer s H vs Q E hr h => ?_)
  · obtain ⟨x, qs, e, rfl, _⟩ := h
    rfl
  obtain ⟨x, qs, e, rfl, ⟨xa, xs, rfl, hx, nx⟩, l1, e0, e2, bz, q⟩ := h
  have bq : ∀ q ∈ qs, Bq 6001 q := fun r hr => ((bz r hr).bq e0).mono (by omega)
  refine ⟨_, pss_cons (ps_set (i := 1) scOl.nd rfl (Or.inr rfl) pe_int)
    (pss_cons (ps_for PassesOwn.never rfl (pi_list (pv 0)) (pg_tup rfl (pgs_cons (pg_name (i := 2) scOl.nd rfl (Or.inl rfl)) (pgs_cons (pg_name (i := 3) scOl.nd rfl (Or.inl rfl)) pgs_nil)))
      (pss_one (ps_set (i := 1) scOl.nd rfl (Or.inr rfl) (pe_callBfun cr_lcm rfl mLc (pa_cons (pv 1) (pa_cons (pv 3) pa_nil))))))
    (pss_one (ps_ret (pe_tup (pa_cons (pe_lc (own := [("above", 4), ("below", 3)]) (g := gTup K 2 (gCons (gName 4) (gCons (gName 3) gNil))) (tt := tYes) rfl scOl.nd (pi_list (pv 0)) (blkOk_by (N := nOl) (sc := defScope F_over_one_lower) (by decide +kernel))
      (fun _ _ _ _ _ => pg_tup rfl (pgs_cons (pg_name (i := 4) scOl.nd rfl (Or.inl rfl)) (pgs_cons (pg_name (i := 3) scOl.nd rfl (Or.inl rfl)) pgs_nil))) (fun _ _ _ _ _ => pts_nil)
      (fun _ _ _ _ _ => pe_op op_mulW (pv 4) (pe_op op_fdivA (pv 1) (pv 3)))) (pa_cons (pv 1) pa_nil)))))), ?_⟩
  have lx : xs.length = qs.length := nx.1
  refine ⟨_, rfl, xa, rfl, ⟨_, SqL.of hx⟩, for_list (K := K) (a := xa) (xs := xs) (fun i σ H' => H' = H ∧ ∃ v2 v3, σ = [some (.ref xa), some (.int (lcmL 1 (qs.take i) : Nat)), v2, v3, none]) ⟨rfl, none, none, rfl⟩ (fun i σ H' _ h => by rw [h.1]; exact SqL.of hx) ?_ ?_⟩
  · rintro i x σ H' hi ⟨rfl, v2, v3, rfl⟩
    obtain ⟨a, ea, na⟩ := nx.get hi
    obtain ⟨va, rfl, sa, _⟩ := na.sq
    have hi40 : i < 40 := by
      rcases Nat.lt_or_ge i xs.length with c | c
      · omega
      · rw [List.getElem?_eq_none c] at hi; cases hi
    have zb : lcmL 1 (qs.take i) < 2 ^ 601 := lcm_lt (AllZ.lcm (qs.take i) 1 (fun r hr => bz r (List.mem_of_mem_take hr)) (Nat.one_dvd _)) e2
    have lt : (qs.take i).length ≤ i := by rw [List.length_take]; omega
    refine ⟨va, _, rfl, sa, rfl, _, _, rfl, _, _, rfl, rfl, _, rfl, _, rfl, lcmL 1 (qs.take i), a.den, rfl, Nat.lt_of_lt_of_le zb (Nat.pow_le_pow_right (by decide) (by decide)), Nat.lt_of_lt_of_le (bq a (List.mem_of_getElem? ea)).2 (Nat.pow_le_pow_right (by decide) (by decide)), lcmL_pos _ 1 (by decide), Nat.pos_of_ne_zero a.den_nz, rfl, some (.int a.num), some (.int (a.den : Nat)), ?_⟩
    rw [List.take_add_one, ea, lcmL_app]
    rfl
  · rintro σ H' ⟨rfl, v2, v3, rfl⟩
    rw [lx, List.take_length]
    refine ⟨_, rfl, xa, rfl, ⟨_, SqL.of hx⟩, fun D nD => ?_⟩
    have e0 := lcmL_pos qs 1 (by decide)
    have dv := (lcmL_dvd qs 1).2
    refine lc_acc (walk_list (K := K) (a := xa) (xs := xs)) (fun i _ y => ∀ a, qs[i]? = some a → y = .int (a.num * ((lcmL 1 qs : Nat) / (a.den : Nat)))) (fun i H H' y l h _ _ => h) nD (by omega) (fun H2 s => SqL.of (s _ _ hx)) ?_ ?_
    · rintro i x H2 H3 k hi s2 ⟨rfl, hx2⟩ hk
      obtain ⟨a, ea, na⟩ := nx.get hx2
      obtain ⟨va, rfl, sa, _⟩ := (na.same s2).sq
      have ba := bq a (List.mem_of_getElem? ea)
      have z : lcmL 1 qs < 2 ^ 601 := lcm_lt (AllZ.lcm qs 1 bz (Nat.one_dvd _)) e2
      have cd : ((lcmL 1 qs : Nat) : Int) / ((a.den : Nat) : Int) = ((lcmL 1 qs / a.den : Nat) : Int) := rfl
      refine ⟨va, _, rfl, sa, rfl, _, _, rfl, _, _, rfl, rfl, rfl, _, rfl, _, rfl, _, rfl, _, _, rfl, rfl, ⟨den_ne a, Nat.lt_trans (log_bd ba.dn (by decide)) (by decide)⟩, _, _, rfl, rfl, ?_, hk _ _ (Same.refl _) fun a' ha' => ?_⟩
      · rw [Int.fdiv_eq_ediv_of_nonneg _ (by omega), cd]
        refine wide_mul ba.1 (b := 601) ?_ (by decide) (by decide) (by decide)
        rw [Int.natAbs_natCast]
        exact Nat.lt_of_le_of_lt (Nat.div_le_self _ _) z
      · rw [ea] at ha'
        rw [← Option.some.inj ha', Int.fdiv_eq_ediv_of_nonneg _ (by omega)]
    · intro H2 zs s2 hD hl hR
      have ez : zs = (upL (lcmL 1 qs) qs).map V.int := by
        apply List.ext_getElem?
        intro i
        unfold upL
        rw [List.map_map, List.getElem?_map]
        by_cases c : i < qs.length
        · rw [List.getElem?_eq_getElem c]
          have e := List.getElem?_eq_getElem (l := zs) (i := i) (by omega)
          rw [e]
          have := hR i _ e _ (List.getElem?_eq_getElem c)
          rw [this]
          rfl
        · rw [List.getElem?_eq_none (by omega), List.getElem?_eq_none (by omega)]
          rfl
      refine ⟨_, rfl, (by show 2 ≤ sizeLine; decide), fun p np => q D p _ (s2.trans (new_same np _)) nD (new_same np _ _ _ (by rw [hD, ez])) upd_same⟩
end
end Kx
end
section
set_option maxHeartbeats 4000000
namespace Kx
open PySem PySem.Spec PyProof.Rows L2
theorem ixl_at {X : Cx} (K : PySem.W.Frag) (h : X.K = K) : IxR X (rIxL K) := by
  subst h
  exact ix_list
theorem ixt_at {X : Cx} (K : PySem.W.Frag) (h : X.K = K) : IxR X (rIxT K) := by
  subst h
  exact ix_tup
/-- the product of two lists -/
def spMulL (K : PySem.W.Frag) : Sp := fun vs H Q _ => ∃ (x y : V) (qs rs : List Rat) (e g : Nat), vs = [x, y] ∧ Ls K H x qs ∧ Ls K H y rs ∧ qs.length = rs.length ∧ qs.length ≤ 30 ∧ 1 ≤ e ∧ 1 ≤ g ∧ e ≤ 200 ∧ g ≤ 200 ∧ AllZ e qs ∧ AllZ g rs ∧ GivesL K H Q (mulL qs rs)
abbrev nMl : List Str := ["one", "other", "ones", "one_lower", "others", "other_lower", "found", "place", "upper", "at"]
theorem upL_len (L : Nat) (qs : List Rat) : (upL L qs).length = qs.length := List.length_map _
theorem upL_at {L : Nat} {qs : List Rat} {i : Nat} (h : i < qs.length) : ((upL L qs).map V.int)[i]? = some (.int ((upL L qs).getD i 0)) := by
  rw [List.getElem?_map, List.getElem?_eq_getElem (by rw [upL_len]; exact h), List.getD_eq_getElem?_getD, List.getElem?_eq_getElem (by rw [upL_len]; exact h)]
  rfl
theorem upL_bd {n m : Nat} {L : Nat} {qs : List Rat} (h : AllB n qs) (hL : L < 2 ^ m) (i : Nat) : ((upL L qs).getD i 0).natAbs < 2 ^ (n + m) := by
  unfold upL
  rw [List.getD_eq_getElem?_getD, List.getElem?_map]
  cases e : qs[i]? with
  | none => exact Nat.pow_pos (by decide)
  | some q =>
    refine lt_mul (h q (List.mem_of_getElem? e)).1 ?_
    have : ((L : Nat) : Int) / ((q.den : Nat) : Int) = ((L / q.den : Nat) : Int) := rfl
    rw [this, Int.natAbs_natCast]
    exact Nat.lt_of_le_of_lt (Nat.div_le_self _ _) hL
section
variable {P : Program} {w : World} {K : PySem.W.Frag} {mg : Str → Option Value} {base : Heap} {f fL o0 : Addr} {fd fdL : FuncData}
theorem scMl : FnScope nMl ["one", "other"] (defScope F_multiplied) := ⟨rfl, rfl, rfl, by decide +kernel, rfl, by decide +kernel, by decide +kernel⟩
theorem ok_multiplied (F : Fun K "multiplied" "multiplied" F_multiplied f fd) (mn : mg "len" = none) (mr : mg "range" = none) (ms : mg "sum" = none) (UO : Use P w K mg base CX0 1 "over_one_lower" ["numbers"] (spOol K) []) (UR : Use P w K mg base CX0 1 "ratio" ["upper", "lower"] spLowQ []) : FnOk P w K mg base CX0 2 f fd ["one", "other"] (spMulL K) := by
  refine F.ok scMl (fun vs H Q E h => ?_) (fun cdv A outer s H vs Q E hr h => ?_)
  · obtain ⟨x, y, qs, rs, e, g, rfl, _⟩ := h
    rfl
  obtain ⟨x, y, qs, rs, e, g, rfl, lx, ly, le, l1, e0, g0, el, gl, bz, cz, q⟩ := h
  have bq : AllB 6001 qs := fun r hr => ((bz r hr).bq e0).mono (by omega)
  have br : AllB 6001 rs := fun r hr => ((cz r hr).bq g0).mono (by omega)
  refine ⟨_, pss_cons (ps_asg (pe_use UO hr rfl pass0 (pa_cons (pv 0) pa_nil)) (pg_tup rfl (pgs_cons (pg_name (i := 2) scMl.nd rfl (Or.inr rfl)) (pgs_cons (pg_name (i := 3) scMl.nd rfl (Or.inl rfl)) pgs_nil))))
    (pss_cons (ps_asg (pe_use UO hr rfl pass0 (pa_cons (pv 1) pa_nil)) (pg_tup rfl (pgs_cons (pg_name (i := 4) scMl.nd rfl (Or.inr rfl)) (pgs_cons (pg_name (i := 5) scMl.nd rfl (Or.inl rfl)) pgs_nil))))
    (pss_cons (ps_set (i := 6) scMl.nd rfl (Or.inl rfl) (pe_lst pa_nil))
    (pss_cons (ps_for PassesOwn.never rfl (pi_range1 rfl mr (pa_cons (pe_callB call_len_seq rfl mn PySem.boot_len (pa_cons (pv 0) pa_nil)) pa_nil)) (pg_name (i := 7) scMl.nd rfl (Or.inr rfl))
      (pss_cons (ps_set (i := 8) scMl.nd rfl (Or.inl rfl) (pe_callB (cr_sum rfl) rfl ms (by decide +kernel) (pa_cons (pe_lc (own := [("at", 9)]) (g := gName 9) (tt := tYes) rfl scMl.nd (pi_range1 rfl mr (pa_cons (pe_op op_add (pv 7) pe_int) pa_nil)) (blkOk_by (N := nMl) (sc := defScope F_multiplied) (by decide +kernel))
          (fun _ _ _ _ _ => pg_name (i := 9) scMl.nd rfl (Or.inl rfl)) (fun _ _ _ _ _ => pts_nil)
          (fun _ _ _ _ _ => pe_op op_mulW (pe_ix (ixl_at K rfl) (pv 2) (pv 9) (fun _ _ => rfl)) (pe_ix (ixl_at K rfl) (pv 4) (pe_op op_sub (pv 7) (pv 9)) (fun _ _ => rfl)))) pa_nil)))
      (pss_one (ps_expr (pe_bm PySem.F.plainAttrs_list PySem.F.slot_list_append PySem.F.type_list_append mt_append (pv 6) (pa_cons (pe_use UR hr rfl pass0 (pa_cons (pv 8) (pa_cons (pe_op op_mulW (pv 3) (pv 5)) pa_nil))) pa_nil))))))
    (pss_one (ps_ret (pv 6)))))), ?_⟩
  refine ⟨_, rfl, x, qs, e, rfl, lx, by omega, e0, el, bz, fun b1 p1 H1 s1 n1 e1 t1 => ?_⟩
  refine ⟨p1, _, rfl, SqT.of t1, rfl, _, _, rfl, _, _, rfl, rfl, ?_⟩
  refine ⟨_, rfl, y, rs, g, rfl, ly.same s1, by omega, g0, gl, cz, fun b2 p2 H2 s2 n2 e2 t2 => ?_⟩
  refine ⟨p2, _, rfl, SqT.of t2, rfl, _, _, rfl, _, _, rfl, rfl, ?_⟩
  have lx2 := (lx.same s1).same s2
  obtain ⟨xa, xs, rfl, hx, nx⟩ := lx2
  have hl : xs.length = qs.length := nx.1
  have f1 := s2 _ _ e1
  have s12 := s1.trans s2
  clear s1 s2 t1 t2 e1 n1 n2 lx ly nx
  refine ⟨(by show 0 ≤ sizeLine; decide), fun fb nf => ?_⟩
  have sf := new_same nf (HO.lst [])
  have Lp := lcmL_pos qs 1 (by decide)
  have Mp := lcmL_pos rs 1 (by decide)
  have Lb : lcmL 1 qs < 2 ^ 601 := lcm_lt (AllZ.lcm qs 1 bz (Nat.one_dvd _)) el
  have Mb : lcmL 1 rs < 2 ^ 601 := lcm_lt (AllZ.lcm rs 1 cz (Nat.one_dvd _)) gl
  have dL := (lcmL_dvd qs 1).2
  have dM := (lcmL_dvd rs 1).2
  generalize lcmL 1 qs = L at *
  generalize lcmL 1 rs = M at *
  refine ⟨_, rfl, xa, xs, rfl, .inl (SqL.of (sf _ _ hx)), ?_⟩
  refine ⟨_, rfl, by omega, by omega, for_range (lo := 0) (n := (((xs.length : Nat) : Int)).toNat) (fun i σ H' => Same H2 H' ∧ (∃ v7 v8, σ = [some (.ref xa), some y, some (.ref b1), some (.int (L : Nat)), some (.ref b2), some (.int (M : Nat)), some (.ref fb), v7, v8, none]) ∧ ∃ zs, H' fb = some (.lst zs) ∧ Nl K H' zs ((List.range i).map (cnv qs rs))) ⟨sf, ⟨none, none, rfl⟩, [], upd_same, Nl.nil⟩ ?_ ?_⟩
  · rintro i σ H3 hi ⟨s3, ⟨v7, v8, rfl⟩, zs, hz, nz⟩
    rw [Int.toNat_natCast] at hi
    have g1 := s3 _ _ f1
    have g2 := s3 _ _ e2
    have zl : zs.length = i := by rw [nz.1, List.length_map, List.length_range]
    refine ⟨_, rfl, (0 + (i : Int)), 1, rfl, rfl, _, rfl, by omega, by omega, fun D nD => ?_⟩
    refine lc_acc (walk_range (lo := 0) (n := (0 + (i : Int) + 1).toNat)) (fun j _ v => v = .int ((upL L qs).getD j 0 * (upL M rs).getD (i - j) 0)) (fun j H H' v l h _ _ => h) nD (by omega) (fun _ _ => trivial) ?_ ?_
    · rintro j v H4 H5 k hj s4 ⟨rfl, rfl⟩ hk
      have hj' : j < i + 1 := by omega
      refine ⟨rfl, _, rfl, _, rfl, b1, _, (0 + (j : Int)), _, rfl, rfl, SqL.of (s4 _ _ g1), at_of (j := j) (by omega) (upL_at (by omega)), _, rfl, _, rfl, _, rfl, (0 + (i : Int)), (0 + (j : Int)), rfl, rfl, b2, _, _, _, rfl, rfl, SqL.of (s4 _ _ g2), at_of (j := i - j) (by omega) (upL_at (by omega)), _, _, rfl, rfl, ?_, hk _ _ (Same.refl _) rfl⟩
      exact wide_mul (upL_bd bq Lb j) (upL_bd br Mb (i - j)) (by decide) (by decide) (by decide)
    · intro H4 ys s4 hD hyl hR
      have ey : ys = (pds (upL L qs) (upL M rs) i (i + 1)).map V.int := by
        apply List.ext_getElem?
        intro j
        unfold pds
        rw [List.map_map, List.getElem?_map]
        by_cases c : j < i + 1
        · rw [List.getElem?_range c]
          have e := List.getElem?_eq_getElem (l := ys) (i := j) (by omega)
          rw [e, hR j _ e]
          rfl
        · rw [List.getElem?_eq_none (by omega), List.getElem?_eq_none (by rw [List.length_range]; omega)]
          rfl
      refine ⟨D, _, rfl, SqL.of (by rw [hD, ey]), ?_⟩
      refine ⟨_, rfl, .inl ⟨rfl, _, SqL.of (s4 _ _ hz)⟩, _, rfl, _, rfl, _, rfl, (L : Nat), (M : Nat), rfl, rfl, ?_, ?_⟩
      · exact wide_mul (a := 601) (b := 601) (by rw [Int.natAbs_natCast]; exact Lb) (by rw [Int.natAbs_natCast]; exact Mb) (by decide) (by decide) (by decide)
      · refine ⟨_, _, rfl, Int.mul_ne_zero (by omega) (by omega), Nat.lt_trans (log_bd (lt_mul (a := 601) (b := 601) (by rw [Int.natAbs_natCast]; exact Lb) (by rw [Int.natAbs_natCast]; exact Mb)) (by decide)) (by decide), fun t H5 s5 n5 e5 => ?_⟩
        rw [cnv_ratio dL dM Lp Mp] at e5
        have hz5 := s5 _ _ (s4 _ _ hz)
        refine ⟨fb, zs, _, rfl, rfl, hz5, small1000 (by omega), ?_, ⟨_, _, rfl⟩, zs ++ [.ref t], upd_same, ?_⟩
        · intro b o hb
          have nb : b ≠ fb := fun z => by rw [z, nf] at hb; cases hb
          rw [upd_ne nb]
          exact s5 _ _ (s4 _ _ (s3 _ _ hb))
        · have nz5 := (nz.same s4).same s5
          have nb : Nl K H5 (zs ++ [.ref t]) ((List.range (i + 1)).map (cnv qs rs)) := by
            rw [List.range_succ, List.map_append]
            exact nz5.snoc (.at e5)
          exact ⟨nb.1, fun j x r h1 h2 => (nb.2 j x r h1 h2).butL hz5 (fun b o n h => by rw [upd_ne n]; exact h)⟩
  · rintro σ H3 ⟨s3, ⟨v7, v8, rfl⟩, zs, hz, nz⟩
    rw [Int.toNat_natCast, hl] at nz
    exact ⟨_, rfl, q fb H3 zs (s12.trans s3) (s12.free nf) hz nz⟩
end
end Kx
end
section
set_option maxHeartbeats 4000000
namespace PySem
namespace Xv
open PySem.W PySem.Calls PyProof.Rows PySem.HandSPX
section
variable {prog : Program} {w : World} {A : Around} {E : Value → Shared → Prop} {R : Result → Shared → Prop} {h : Heap} {g : Array GenState} {d : Drawn} {t : Nat} {os : OsState}
variable {nm q : Str} {C N : Addr} {bs bm mb : List Value} {hdct : Bool} {sn : List Str} {sub : List Value} {ab : Bool} {col : Option Bool} {dd : Option Addr} {k0 k1 k2 k3 k5 : Option Value} {B newId initId : String}
variable {kw : List (Str × Value)} {rest : List Value}

theorem chkNew {M : Model} (F : ExcBaseFacts B newId initId mb) (hT : ∀ Z : String, bm.contains (.type Z) = mb.contains (.type Z)) {Q : Unit → Shared → Prop}
    (hC : h.get? C = some (excClassObj nm q C N bs bm hdct sn sub ab col dd k0 k1 k2 k3 k5 newId)) (z : Q () ⟨h, g, d, t, os⟩) :
    wpAny M A (checkBuiltinCall newId ⟨.ref C :: rest, kw⟩) Q E ⟨h, g, d, t, os⟩ := by
  have h1 : (Value.ref C :: bm).contains (.type B) = true := by rw [List.contains_cons, hT, F.hasB]; simp
  have h2 := F.noStar
  simp only [checkBuiltinCall, F.newKind, F.newSplit, F.newRow]
  repeat (first | refine wpAny_loadPart_at hC ?_ | (refine wpAny_isSubtype_exc hC ?_; rw [h1]) | refine wpAny_staticBase_exc hC ?_ | refine wpAny_madeBy_exc hC ?_ | simp only [bne_self_eq_false, Bool.false_eq_true, if_false] | wp_step)
  exact z
theorem newAt (F : ExcBaseFacts B newId initId mb) (hT : ∀ Z : String, bm.contains (.type Z) = mb.contains (.type Z))
    (hC : h.get? C = some (excClassObj nm q C N bs bm hdct sn sub ab col dd k0 k1 k2 k3 k5 newId)) (hl : rest.length ≤ sizeLine)
    (z : R (.ok (.ret (.ref (h.objs.size + 1)))) ⟨(h.push (W.kdv_tup rest)).push (excO C h.objs.size), g, d, t, os⟩) :
    codeAny (model prog w) A (.builtin newId ⟨.ref C :: rest, kw⟩) R ⟨h, g, d, t, os⟩ := by
  have e0 := F.ends
  have e1 : (Value.ref C :: bm).contains (.type B) = true := by rw [List.contains_cons, hT, F.hasB]; simp
  have e2 : (Value.ref C :: bm).contains (.type "AttributeError") = false := by rw [List.contains_cons, hT, F.noAttr]; exact rfl
  have e3 : (Value.ref C :: bm).contains (.type "NameError") = false := by rw [List.contains_cons, hT, F.noName]; exact rfl
  refine codeAny_builtinAt F.entry ?_
  unfold Builtin.«BaseException.__new__»
  refine wpAt_bind ?_
  show wpAt _ _ _ (stack >>= _) _ _ _
  refine wpAt_bind (wpAt_stack fun p below => wpAt_of_wpAny ?_)
  wp_walk
  refine wpAt_of_wpAny ?_
  rw [F.owner]
  repeat (first | (with_reducible refine wpAny_isSubtype_exc hC ?_; first | rw [e1] | rw [e2] | rw [e3]) | with_reducible refine wpAny_madeHere_exc F.canon hC ?_ | with_reducible refine wpAny_loadPart_at hC ?_ | wp_step)
  show R _ _
  rw [Heap.size_push]
  exact z
theorem callAt (F : ExcBaseFacts B newId initId mb) (hT : ∀ Z : String, bm.contains (.type Z) = mb.contains (.type Z)) {fI : Addr} {Q : Fin → Shared → Prop}
    (hC : h.get? C = some (excClassObj nm q C N bs bm hdct sn sub ab col dd k0 k1 k2 k3 k5 newId))
    (hi : W.Looks (model prog w) h (typeLookup (.ref C) "__init__") (some (.ref fI))) (hb : ∀ self, W.Looks (model prog w) h (bindSpecial (.ref fI) self) (.ref fI, [self])) (hl : rest.length ≤ sizeLine)
    (z : codeAny (model prog w) A (.call (.ref fI) ⟨.ref (h.objs.size + 1) :: rest, kw⟩)
      (fun r s' => match r with | .ok (.ret v) => v = .none ∧ Q (.done (.ret (.ref (h.objs.size + 1)))) s' | .ok _ => False | .error e => E e s')
      ⟨(h.push (W.kdv_tup rest)).push (excO C h.objs.size), g, d, t, os⟩) :
    wpAny (model prog w) A (Builtin.«type.__call__» ⟨.ref C :: rest, kw⟩) Q E ⟨h, g, d, t, os⟩ := by
  repeat (first | with_reducible refine wpAny_madeBy_exc hC ?_ | with_reducible refine wpAny_loadPart_at hC ?_ | wp_step)
  refine codeAny_call_builtin_code (Code.quiet_builtin _ F.quiet) (chkNew F hT hC (newAt F hT hC hl ?_))
  show wpAny _ _ _ _ _ _
  have k : ∀ b o, h.get? b = some o → ((h.push (W.kdv_tup rest)).push (excO C h.objs.size)).get? b = some o := fun b o y => Heap.get?_push_of_some _ (Heap.get?_push_of_some _ y)
  have hC' := k _ _ hC
  have hg : ((h.push (W.kdv_tup rest)).push (excO C h.objs.size)).get? (h.objs.size + 1) = some (excO C h.objs.size) := by heap_get
  have cc : (Value.ref C :: bm).contains (.ref C) = true := by simp
  have i1 := hi.keeps k
  have b1 := (hb (.ref (h.objs.size + 1))).keeps k
  unfold isInstance
  repeat (first | (with_reducible refine wpAny_isSubtype_exc hC' ?_; rw [cc]) | with_reducible refine wpAny_loadPart_at hg ?_ | wp_step)
  show wpAny _ _ (typeLookup (.ref C) _) _ _ _
  refine i1.at (wpAny_holding (wpAny_bind (b1.at ?_)))
  refine wpAny_bind (wpAny_call (codeAny_mono z fun r s' y => ?_))
  rcases r with e | (v | _ | _ | _) <;> first | exact y | exact y.elim | skip
  obtain ⟨rfl, y⟩ := y
  first
    | exact wpAny_pure (wpAny_pure y)
    | (wp_walk; exact y)
theorem chkCall {M : Model} {Q : Unit → Shared → Prop} (hC : h.get? C = some (excClassObj nm q C N bs bm hdct sn sub ab col dd k0 k1 k2 k3 k5 newId))
    (z : Q () ⟨h, g, d, t, os⟩) : wpAny M A (checkBuiltinCall "type.__call__" ⟨.ref C :: rest, kw⟩) Q E ⟨h, g, d, t, os⟩ := by
  have f3 := tc_sub
  have hty : (⟨h, g, d, t, os⟩ : Shared).TypeIs (.ref C) "type" := ⟨_, hC, rfl⟩
  simp only [checkBuiltinCall, tc_kind, tc_split]
  repeat (any_goals (first | assumption | with_reducible refine wpAny_onRaise ?_ | with_reducible refine wpAny_loadPart_at hC ?_ | with_reducible refine wpAny_map ?_ | wp_step))
/-- an own exception class with its own __init__ is called, with keywords or without -/
theorem callK (F : ExcBaseFacts B newId initId mb) (hT : ∀ Z : String, bm.contains (.type Z) = mb.contains (.type Z)) {fI : Addr}
    (hC : h.get? C = some (excClassObj nm q C N bs bm hdct sn sub ab col dd k0 k1 k2 k3 k5 newId))
    (hi : W.Looks (model prog w) h (typeLookup (.ref C) "__init__") (some (.ref fI))) (hb : ∀ self, W.Looks (model prog w) h (bindSpecial (.ref fI) self) (.ref fI, [self])) (hl : rest.length ≤ sizeLine)
    (z : codeAny (model prog w) (A.under (.builtin "type.__call__" ⟨.ref C :: rest, kw⟩)) (.call (.ref fI) ⟨.ref (h.objs.size + 1) :: rest, kw⟩) (W.InitBack (h.objs.size + 1) R)
      ⟨(h.push (W.kdv_tup rest)).push (excO C h.objs.size), g, d, t, os⟩) :
    codeAny (model prog w) A (.call (.ref C) ⟨rest, kw⟩) R ⟨h, g, d, t, os⟩ := by
  have f1 := tc_lookup
  have f2 := tc_bind (.ref C)
  have hty : (⟨h, g, d, t, os⟩ : Shared).TypeIs (.ref C) "type" := ⟨_, hC, rfl⟩
  refine codeAny_of_tree ?_
  show wpAny _ _ (callAny (.ref C) _) _ _ _
  repeat (any_goals (first | assumption | with_reducible refine wpAny_loadPart_at hC ?_ | wp_step))
  refine ⟨rfl, ?_⟩
  refine codeAny_call_builtin_at (Code.quiet_builtin _ (by decide +kernel)) entry_typeCall (chkCall hC (callAt F hT hC hi hb hl ?_))
  refine codeAny_mono z fun r s' y => ?_
  rcases r with e | (v | _ | _ | _) <;> exact y
end
end Xv
end PySem
end
section
set_option maxHeartbeats 4000000
namespace L2
open PySem PySem.Spec PyProof.Rows Builtin.ObjectAttr
/-- what the written part says of an own exception class at C, so that its objects may be made, filled, read and asked -/
structure XC (K : PySem.W.Frag) (C : Addr) : Prop where
  base : ∃ B newId initId mb, ExcBaseFacts B newId initId mb ∧ StoreFacts B mb "object.__setattr__" "object" ∧ PySem.W.excInitIn K C mb newId = true ∧ PySem.W.excOver K C mb = true
  cl : (PySem.W.clsIn K C).isSome = true
  hd : PySem.W.hasDictIn K C = true
  sa : PySem.W.findIn K (.ref C) "__setattr__" = some (some (.builtin "object.__setattr__"))
  ga : PySem.W.findIn K (.ref C) "__getattribute__" = some (some (.builtin "BaseException.__getattribute__"))
  gg : PySem.W.findIn K (.ref C) "__getattr__" = some none
  ex : PySem.W.subIn K (.ref C) (.type "BaseException") = some true
  ha : PySem.W.findIn K (.ref C) "__class__" = some (some (.builtin "object.__class__"))
  hn : PySem.W.specialIn K (.builtin "object.__class__") "__get__" = some (some (.builtin "getset_descriptor.__get__"))
  ht : PySem.W.takesIn K (.builtin "object.__class__") = some true
  hm : PySem.W.mroIn K C (.type "object") = some true
  kC : PySem.W.keepIn K (.ref C) = true
def free3 (H H' : Hp) (a d : Addr) : Prop := ∀ b, b ≠ a → b ≠ d → H' b = H b
section
variable {X : Cx} {pins : List (Addr × Obj)} {σ : St} {H : Hp} {s : Shared} {a C dx : Addr} {f : Str} {y : V} {u : Value} {fs : List (Str × V)} {Q : Unit → Shared → Prop} {E : Value → Shared → Prop} {A : Around}
theorem taker_none {K : PySem.W.Frag} (h : PySem.W.findIn K (.ref C) f = some none) : PySem.W.takerIn K C f = some none := by
  unfold PySem.W.takerIn
  rw [h]
  rfl
theorem xst_new (T : XC X.K C) (I : Inv X pins σ H s) (e : H a = some (exo a C none)) (hno : PySem.W.findIn X.K (.ref C) f = some none) (ry : RelV y u)
    (h : ∀ d s' H', d ≠ a → H d = none → H' a = some (exo a C (some d)) → H' d = some (exd d [(f, y)]) → free3 H H' a d → Inv X pins σ H' s' → Q () s') : wpAny (model X.prog X.w) A (setAttr (.ref a) f u) Q E s := by
  obtain ⟨B, nid, iid, mb, FB, SF, q1, q2⟩ := T.base
  obtain ⟨t1, ho⟩ := exo_at I.hok e
  obtain ⟨cd, hc, hd'⟩ := PySem.W.any_some T.hd
  obtain ⟨hp, g, dr, t, os⟩ := s
  refine PySem.W.set_plain I.kIn (od := none) ⟨ho, rfl, rfl, trivial⟩ T.sa (PySem.W.osa_openX (od := none) SF I.kIn ⟨ho, rfl, rfl, trivial⟩ q2 (taker_none hno) fun b => ?_)
  have na : a ≠ hp.objs.size := Nat.ne_of_lt (Heap.lt_size ho)
  refine wpAny_bind (wpAny_pure (wpAny_bind (PySem.W.instanceDict_exc (c2 := .none) (t := t1) ho (PySem.W.looks_clsIn I.kIn hc) hd' ?_)))
  have hfr : H hp.objs.size = none := I.hok.fresh (Nat.le_refl _)
  have hget : (hp.push (PySem.W.dictOf [] 0)).get? hp.objs.size = some (PySem.W.dictOf [] 0) := Heap.get?_push_size _ rfl
  have en : (hp.push (PySem.W.dictOf [] 0)).Ns1 hp.objs.size (fun _ => none) := Heap.Ns1.of_empty ⟨_, #[], _, hget, rfl, fun e he => absurd he (by simp), fun _ => rfl⟩
  have I1 : Inv X pins σ (upd H hp.objs.size (exd hp.objs.size [])) ⟨hp.push (PySem.W.dictOf [] 0), g, dr, t, os⟩ := I.laid (a := hp.objs.size) (o := exd hp.objs.size []) (h' := hp.push (PySem.W.dictOf [] 0)) (t' := t) (fun b o z => Heap.get?_push_of_some _ z) (Nat.le_refl _) (exd_ok en fun _ => True.intro)
  have hxa : ((hp.push (PySem.W.dictOf [] 0)).update a fun o => { o with dict := some hp.objs.size }).get? a = some ({ cls := .ref C, dict := some hp.objs.size, data := .fields #[.ref t1, .none, .none, .none, .bool false, .none] } : Obj) :=
    Heap.get?_update_self _ (Heap.get?_push_of_some _ ho) rfl
  have I2 : Inv X pins σ (upd (upd H hp.objs.size (exd hp.objs.size [])) a (exo a C (some hp.objs.size))) ⟨(hp.push (PySem.W.dictOf [] 0)).update a fun o => { o with dict := some hp.objs.size }, g, dr, t, os⟩ :=
    I1.write (x := a) (e := a) (o := exo a C (some hp.objs.size)) (t' := t) (h' := (hp.push (PySem.W.dictOf [] 0)).update a fun o => { o with dict := some hp.objs.size }) (by rw [upd_ne na, e]; exact True.intro) (.inl rfl)
      (fun b o hb z => (Heap.get?_update_ne _ _ _ _ hb).trans z) ⟨_, hxa⟩ (exo_ok hxa)
  have ed : (upd (upd H hp.objs.size (exd hp.objs.size [])) a (exo a C (some hp.objs.size))) hp.objs.size = some (exd hp.objs.size []) := by rw [upd_ne (Ne.symm na), upd_same]
  obtain ⟨mA, hns, rel⟩ := exd_at I2.hok ed
  show wpAny _ _ (storeInDict hp.objs.size (.str f _) f u) _ _ _
  refine PySem.OEX.store_in_old hns (within_of rel) (by simp) fun h' tk' hn' hs => ?_
  have I3 := I2.write (x := hp.objs.size) (e := hp.objs.size) (o := exd hp.objs.size [(f, y)]) (t' := tk') (h' := h') (by rw [ed]; exact True.intro) (.inl rfl) (fun b o hb z => (hs.2 b hb).trans z)
    (by obtain ⟨o, _, _, z, _⟩ := hn'; exact ⟨o, z⟩) (exd_ok hn' (relO_put ry rel))
  exact h hp.objs.size _ _ (Ne.symm na) hfr (by rw [upd_ne na, upd_same]) upd_same (fun b h1 h2 => by rw [upd_ne h2, upd_ne h1, upd_ne h2]) I3
theorem xst_old (T : XC X.K C) (I : Inv X pins σ H s) (e : H a = some (exo a C (some dx))) (ed : H dx = some (exd dx fs)) (hl : fs.length ≤ 900) (hno : PySem.W.findIn X.K (.ref C) f = some none) (ry : RelV y u)
    (h : ∀ s', Inv X pins σ (upd H dx (exd dx ((f, y) :: fs))) s' → Q () s') : wpAny (model X.prog X.w) A (setAttr (.ref a) f u) Q E s := by
  obtain ⟨B, nid, iid, mb, FB, SF, q1, q2⟩ := T.base
  obtain ⟨t1, ho⟩ := exo_at I.hok e
  obtain ⟨mA, hns, rel⟩ := exd_at I.hok ed
  have hw := within_of rel
  obtain ⟨cd, hc, hd'⟩ := PySem.W.any_some T.hd
  obtain ⟨hp, g, dr, t, os⟩ := s
  obtain ⟨oD, esD, epD, hoD, hdD, _⟩ := hns.count hw
  refine PySem.W.set_plain I.kIn (od := some oD) ⟨ho, rfl, rfl, hoD⟩ T.sa (PySem.W.osa_openX (od := some oD) SF I.kIn ⟨ho, rfl, rfl, hoD⟩ q2 (taker_none hno) fun b => ?_)
  refine wpAny_bind (wpAny_pure (wpAny_bind (wpAny_bind (wpAny_loadPart ho (wpAny_bind (PySem.W.Looks.at (M := model X.prog X.w) (PySem.W.looks_clsIn I.kIn hc) ?_))))))
  rw [hd']
  refine wpAny_pure (a := some dx) ?_
  show wpAny _ _ (storeInDict dx (.str f _) f u) _ _ _
  refine PySem.OEX.store_in_old hns hw (by rw [List.length_map]; omega) fun h' tk' hn' hs => ?_
  exact h _ (I.write (x := dx) (e := dx) (o := exd dx ((f, y) :: fs)) (t' := tk') (h' := h') (by rw [ed]; exact True.intro) (.inl rfl) (fun b o hb z => (hs.2 b hb).trans z)
    (by obtain ⟨o, _, _, z, _⟩ := hn'; exact ⟨o, z⟩) (exd_ok hn' (relO_put ry rel)))
end
end L2
namespace L2
open PySem PySem.Spec PyProof.Rows Builtin.ObjectAttr
/-- self.f = e, self an exception that is being made -/
def tXst (K : PySem.W.Frag) (f : Str) (to te : TE) : TS := fun D σ H => te σ H fun y H1 => to σ H1 fun x H2 => ∃ a C : Addr, x = .ref a ∧ XC K C ∧ PySem.W.findIn K (.ref C) f = some none ∧
  ((H2 a = some (exo a C none) ∧ ∀ d H3, d ≠ a → H2 d = none → H3 a = some (exo a C (some d)) → H3 d = some (exd d [(f, y)]) → free3 H2 H3 a d → D.nx σ H3) ∨
    ∃ (d : Addr) (fs : List (Str × V)), H2 a = some (exo a C (some d)) ∧ H2 d = some (exd d fs) ∧ fs.length ≤ 900 ∧ D.nx σ (upd H2 d (exd d ((f, y) :: fs))))
section
variable {X : Cx} {o e : Expr} {to te : TE} {f : Str} {p' pos : Pos}
theorem ps_xst (ho : PE X o to) (he : PE X e te) (hs : swapsWith e (some (.Attribute o f p')) pos.line X.env = pure false := by rfl) : PS X (.Assign [.Attribute o f p'] e pos) (tXst X.K f to te) := by
  refine ⟨fun pins s σ H D I h => ?_⟩
  refine plainObj_wpAny_Assign_Attribute (thn (he.run pins s σ H _ I h) fun v s1 hv => ?_) hs
  obtain ⟨y, H1, I1, r1, q1⟩ := hv
  refine thn (ho.run pins s1 σ H1 _ I1 q1) fun u s2 hu => ?_
  obtain ⟨x, H2, I2, r2, a, C, ex, T, hno, q⟩ := hu
  subst ex
  obtain rfl : u = Value.ref a := r2
  rcases q with ⟨ea, q⟩ | ⟨d, fs, ea, ed, hl, q⟩
  · exact xst_new T I2 ea hno r1 fun d s' H' n1 n2 z1 z2 z3 J => ⟨σ, H', J, q d H' n1 n2 z1 z2 z3⟩
  · exact xst_old T I2 ea ed hl hno r1 fun s' J => ⟨σ, _, J, q⟩
end
/-- C(e, .., k = v, ..) as a value; sp is what C's own __init__ promises -/
def tXmk (C : Addr) (n m : Nat) (sp : Sp) (gV : List V → List V → List V) (t tk : TA) : TE := fun σ H Q => t σ H fun vs H1 => tk σ H1 fun zs H2 => vs.length = n ∧ zs.length = m ∧
  ∀ a, H2 a = none → sp (gV (.ref a :: vs) zs) (upd H2 a (exo a C none)) (fun v H3 => v = .non ∧ Q (.ref a) H3) (fun _ _ _ => False)
section
variable {X : Cx} {CX : CXT} {k n : Nat} {C fI : Addr} {fd : FuncData} {ps ks : List Str} {sp : Sp} {x : Str} {p pos : Pos} {e : Expr} {es : List Expr} {kws : List Keyword} {t tk : TA} {g : List Value → List Value → List Value} {gV : List V → List V → List V}
theorem run_xmk {pins : List (Addr × Obj)} {σ : St} {H : Hp} {s : Shared} {Q : VK} {us ws : List Value} {vs zs : List V} (T : XC X.K C) (iC : PySem.W.findIn X.K (.ref C) "__init__" = some (some (.ref fI))) (tI : PySem.W.isFn X.K (.ref fI) = true)
    (F : FnOk X.prog X.w X.K X.mg X.base CX k fI fd ps sp) (hr : Room (k + 1) X.A) (hb : KBn X.K fd ps (n + 1) ks g gV) (hx : Passes CX X (fun _ _ _ => False)) (I : Inv X pins σ H s) (r : Vals vs us) (rz : Vals zs ws) (l1 : vs.length = n) (l2 : zs.length = ks.length) (l3 : n ≤ 1000)
    (h : ∀ a, H a = none → sp (gV (.ref a :: vs) zs) (upd H a (exo a C none)) (fun v H3 => v = .non ∧ Q (.ref a) H3) (fun _ _ _ => False)) :
    wpAny (model X.prog X.w) X.A (call (.ref C) us (ks.zip ws)) (EP X pins σ Q) X.xe s := by
  obtain ⟨B, nid, iid, mb, FB, SF, q1, q2⟩ := T.base
  obtain ⟨nm, N, qn, bs, bm, hdct, sn, sub, ab, col, dd, k0, k1, k2, k3, k5, hC, hT⟩ := PySem.W.excInit_of I.kIn q1
  obtain ⟨oI, hoI, hcI⟩ : ∃ oI, s.heap.get? fI = some oI ∧ oI.cls = .type "function" := by
    obtain ⟨o, ho, hc⟩ := Option.map_eq_some_iff.mp (show (X.K.lookup fI).map (·.cls) = some (.type "function") from beq_iff_eq.mp tI)
    exact ⟨o, I.kIn _ _ ho, hc⟩
  obtain ⟨hp, gn, dr, tc, os⟩ := s
  have hsz : hp.objs.size ≤ hp.objs.size + 1 := Nat.le_succ _
  have hn : H (hp.objs.size + 1) = none := I.hok.fresh hsz
  have hq := h (hp.objs.size + 1) hn
  have kk : ∀ b o, hp.get? b = some o → ((hp.push (PySem.W.kdv_tup us)).push (PySem.HandSPX.excO C hp.objs.size)).get? b = some o := fun b o z => Heap.get?_push_of_some _ (Heap.get?_push_of_some _ z)
  have hget : ((hp.push (PySem.W.kdv_tup us)).push (PySem.HandSPX.excO C hp.objs.size)).get? (hp.objs.size + 1) = some (PySem.HandSPX.excO C hp.objs.size) := by heap_get
  have I2 : Inv X pins σ (upd H (hp.objs.size + 1) (exo (hp.objs.size + 1) C none)) ⟨(hp.push (PySem.W.kdv_tup us)).push (PySem.HandSPX.excO C hp.objs.size), gn, dr, tc, os⟩ :=
    I.laid (t' := tc) (a := hp.objs.size + 1) (o := exo (hp.objs.size + 1) C none) (h' := (hp.push (PySem.W.kdv_tup us)).push (PySem.HandSPX.excO C hp.objs.size)) kk hsz (exo_ok hget)
  have r1 : Vals (V.ref (hp.objs.size + 1) :: vs) (Value.ref (hp.objs.size + 1) :: us) := .cons rfl r
  have e1 : (Value.ref (hp.objs.size + 1) :: us).length = n + 1 := r1.length.symm.trans (congrArg Nat.succ l1)
  have e2 : ws.length = ks.length := rz.length.symm.trans l2
  have hus : us.length ≤ sizeLine := by
    rw [← r.length, sizeLine_eq]
    omega
  refine wpAny_call (PySem.Xv.callK FB hT hC (PySem.W.looks_findIn I.kIn iC) (fun self => PySem.W.exc_bind hoI hcI self) hus
    (codeAny_mono (F.run _ X.stack _ _ ⟨Value.ref (hp.objs.size + 1) :: us, ks.zip ws⟩ (g (Value.ref (hp.objs.size + 1) :: us) ws) _ _ (fun _ _ _ => False) (hr.make C us (ks.zip ws)) (I2.env0.make C us (ks.zip ws)) (hb.to _ (Value.ref (hp.objs.size + 1) :: us) ws I2.kIn e1 e2) (hb.rel r1 rz) hq) fun r s' hq' => ?_))
  cases r with
  | error er => exact hx pins σ _ _ er s' I2 hq'
  | ok fl =>
    cases fl with
    | ret u =>
      obtain ⟨v, H', I3, rv, ev, q3⟩ := I2.after hq'
      subst ev
      exact ⟨rv, V.ref (hp.objs.size + 1), H', I3, rfl, q3⟩
    | next => exact hq'.elim
    | brk => exact hq'.elim
    | cont => exact hq'.elim
/-- positional values (one or more), keywords -/
theorem pe_xmk (T : XC X.K C) (iC : PySem.W.findIn X.K (.ref C) "__init__" = some (some (.ref fI))) (tI : PySem.W.isFn X.K (.ref fI) = true) (F : FnOk X.prog X.w X.K X.mg X.base CX k fI fd ps sp) (hr : Room (k + 1) X.A) (hg : Gl X x) (hm : X.mg x = some (.ref C)) (hb : KBn X.K fd ps (n + 1) ks g gV) (hx : Passes CX X (fun _ _ _ => False)) (l3 : n ≤ 1000)
    (ha : PA X (e :: es) t) (hkw : PK X kws tk) (hall : (backToKw pos (keywordEach kws X.env)).all (·.1.isSome) = true := by rfl) (hks : (backToKw pos (keywordEach kws X.env)).filterMap (·.1) = ks := by rfl)
    (hdb : (x == ("__debug__" : Str)) = false := by decide) (he : starEach (e :: es) X.env = (false, eval e X.env) :: starEach es X.env := by rfl)
    (hpl : ((backTo pos (starEach (e :: es) X.env)).any (·.1) || (backToKw pos (keywordEach kws X.env)).any (·.1.isNone)) = false := by rfl) :
    PE X (.Call (.Name x p) (e :: es) kws pos) (tXmk C n ks.length sp gV t tk) := by
  refine ⟨fun pins s σ H Q I h => wpAny_Call_Name_kw (ld_glob I hg hm ?_ hdb)⟩
  refine PySem.W.callWith_KW (h₀ := X.base) I.ok.mod.kin T.kC hall (thn (ha.run pos pins s σ H _ I h) fun us s1 hu => ?_) hpl he
  obtain ⟨vs, H1, I1, r, q⟩ := hu
  refine thn (hkw.run pos pins s1 σ H1 _ I1 q) fun ws s2 hw => ?_
  obtain ⟨zs, H2, I2, rz, l1, l2, q2⟩ := hw
  refine ⟨I2.kIn, ?_⟩
  rw [hks]
  exact run_xmk T iC tI F hr hb hx I2 r rz l1 l2 l3 q2
/-- keywords alone -/
theorem pe_xmkK (T : XC X.K C) (iC : PySem.W.findIn X.K (.ref C) "__init__" = some (some (.ref fI))) (tI : PySem.W.isFn X.K (.ref fI) = true) (F : FnOk X.prog X.w X.K X.mg X.base CX k fI fd ps sp) (hr : Room (k + 1) X.A) (hg : Gl X x) (hm : X.mg x = some (.ref C)) (hb : KBn X.K fd ps 1 ks g gV) (hx : Passes CX X (fun _ _ _ => False))
    (hkw : PK X kws tk) (hall : (backToKw pos (keywordEach kws X.env)).all (·.1.isSome) = true := by rfl) (hks : (backToKw pos (keywordEach kws X.env)).filterMap (·.1) = ks := by rfl)
    (hdb : (x == ("__debug__" : Str)) = false := by decide) (hpl : ((backTo pos (starEach [] X.env)).any (·.1) || (backToKw pos (keywordEach kws X.env)).any (·.1.isNone)) = false := by rfl) :
    PE X (.Call (.Name x p) [] kws pos) (tXmk C 0 ks.length sp gV tNil tk) := by
  refine ⟨fun pins s σ H Q I h => wpAny_Call_Name_kw (ld_glob I hg hm ?_ hdb)⟩
  refine PySem.W.callWith_KW0 (h₀ := X.base) I.ok.mod.kin T.kC hall ?_ hpl
  refine thn (hkw.run pos pins s σ H _ I h) fun ws s2 hw => ?_
  obtain ⟨zs, H2, I2, rz, l1, l2, q2⟩ := hw
  refine ⟨I2.kIn, ?_⟩
  rw [hks]
  exact run_xmk (us := []) T iC tI F hr hb hx I2 .nil rz rfl l2 (by decide) q2
/-- one value or more, no keyword -/
theorem pe_xmkP (T : XC X.K C) (iC : PySem.W.findIn X.K (.ref C) "__init__" = some (some (.ref fI))) (tI : PySem.W.isFn X.K (.ref fI) = true) (F : FnOk X.prog X.w X.K X.mg X.base CX k fI fd ps sp) (hr : Room (k + 1) X.A) (hg : Gl X x) (hm : X.mg x = some (.ref C)) (hb : KBn X.K fd ps (n + 1) [] g gV) (hx : Passes CX X (fun _ _ _ => False)) (l3 : n ≤ 1000)
    (ha : PA X (e :: es) t) (hdb : (x == ("__debug__" : Str)) = false := by decide) (he : starEach (e :: es) X.env = (false, eval e X.env) :: starEach es X.env := by rfl) (hpl : (backTo pos (starEach es X.env)).any (·.1) = false := by rfl) :
    PE X (.Call (.Name x p) (e :: es) [] pos) (tXmk C n 0 sp gV t tNil) := by
  refine ⟨fun pins s σ H Q I h => wpAny_Call_Name_kw (ld_glob I hg hm ?_ hdb)⟩
  refine PySem.W.callWith_K (h₀ := X.base) I.ok.mod.kin T.kC (thn (ha.run pos pins s σ H _ I h) fun us s1 hu => ?_) he hpl
  obtain ⟨vs, H1, I1, r, l1, l2, q2⟩ := hu
  exact ⟨I1.kIn, run_xmk (ws := []) (zs := []) T iC tI F hr hb hx I1 r .nil l1 rfl l3 q2⟩
/-- no value -/
theorem pe_xmk0 (T : XC X.K C) (iC : PySem.W.findIn X.K (.ref C) "__init__" = some (some (.ref fI))) (tI : PySem.W.isFn X.K (.ref fI) = true) (F : FnOk X.prog X.w X.K X.mg X.base CX k fI fd ps sp) (hr : Room (k + 1) X.A) (hg : Gl X x) (hm : X.mg x = some (.ref C)) (hb : KBn X.K fd ps 1 [] g gV) (hx : Passes CX X (fun _ _ _ => False))
    (hdb : (x == ("__debug__" : Str)) = false := by decide) : PE X (.Call (.Name x p) [] [] pos) (tXmk C 0 0 sp gV tNil tNil) := by
  refine ⟨fun pins s σ H Q I h => wpAny_Call_Name_kw (ld_glob I hg hm ?_ hdb)⟩
  obtain ⟨_, _, q2⟩ := h
  exact PySem.W.callWith_K0 I.kIn T.kC (run_xmk (us := []) (ws := []) (zs := []) T iC tI F hr hb hx I .nil .nil rfl rfl (by decide) q2)
end
/-- e.f, e such an exception -/
def tXat (K : PySem.W.Frag) (f : Str) (te : TE) : TE := fun σ H Q => te σ H fun x H1 => ∃ (a C d : Addr) (fs : List (Str × V)) (v : V), x = .ref a ∧ XC K C ∧ PySem.W.findIn K (.ref C) f = some none ∧ H1 a = some (exo a C (some d)) ∧ H1 d = some (exd d fs) ∧ fs.lookup f = some v ∧ Q v H1
theorem inst_exo {X : Cx} {pins : List (Addr × Obj)} {σ : St} {H : Hp} {s : Shared} {a C d : Addr} {fs : List (Str × V)} (I : Inv X pins σ H s) (ea : H a = some (exo a C (some d))) (ed : H d = some (exd d fs)) :
    ∃ (ox od : Obj) (mA : Str → Option Value), PySem.W.InstAt s.heap a ox C (some od) ∧ (∀ f, RelO (fs.lookup f) (mA f)) ∧ ∀ f, PySem.W.lookIn f od = some (mA f) := by
  obtain ⟨t1, ho⟩ := exo_at I.hok ea
  obtain ⟨mA, hns, hr⟩ := exd_at I.hok ed
  obtain ⟨od, hod, hl⟩ := lookIn_ns hns
  exact ⟨_, od, mA, ⟨ho, rfl, rfl, hod⟩, hr, hl⟩
theorem pe_xat {X : Cx} {e : Expr} {te : TE} {pos : Pos} {f : Str} (he : PE X e te) (hb : attributeBase e f X.env (eval e X.env) = eval e X.env := by rfl) : PE X (.Attribute e f pos) (tXat X.K f te) := by
  refine ⟨fun pins s σ H Q I h => attr_of hb (thn (he.run pins s σ H _ I h) fun u s1 hh => ?_)⟩
  obtain ⟨x, H1, I1, rx, a, C, d, fs, v, ex, T, hno, ea, ed, l, q⟩ := hh
  subst ex
  obtain rfl : u = Value.ref a := rx
  obtain ⟨ox, od, mA, J, hr, hl⟩ := inst_exo I1 ea ed
  obtain ⟨u, hu, ru⟩ := RelO.some_of (v := v) (o := mA f) (by rw [← l]; exact hr f)
  exact HandSPX.exc_get I1.kIn J T.ga T.gg T.ex (PySem.W.findObj_own T.hd hno rfl (by rw [hl, hu])) (handed_of ru) ⟨v, H1, I1.tok _, ru, q⟩
/-- isinstance(e, c), e such an exception -/
def rXis (K : PySem.W.Frag) : List V → Hp → VK → Prop := fun xs H Q => ∃ (a C d : Addr) (fs : List (Str × V)) (c : V) (cv : Value) (b : Bool), xs = [.ref a, c] ∧ XC K C ∧ H a = some (exo a C (some d)) ∧ H d = some (exd d fs) ∧ ClsV c cv ∧ PySem.W.kitOne K (.ref C) cv = some b ∧ Q (.bl b) H
theorem call_xis {X : Cx} : CallR X (.builtin "isinstance") (rXis X.K) := by
  intro pins s σ H xs us Q I r h
  obtain ⟨a, C, d, fs, c, cv, b, rfl, T, ea, ed, hc, e, q⟩ := h
  obtain ⟨u1, u2, rfl, r1, r2⟩ := vals2 r
  obtain rfl := hc.eq r2
  obtain rfl : u1 = Value.ref a := r1
  obtain ⟨ox, od, mA, J, _, _⟩ := inst_exo I ea ed
  exact PySem.W.kia_one (PySem.W.kitx_exc T.cl T.ga T.gg T.ex T.ha T.hn T.ht T.hm) I.kIn J e (fun z => nomatch z) fun tk => ⟨.bl b, H, I.tok tk, rfl, q⟩
end L2
end
section
set_option maxHeartbeats 4000000
namespace L2
open PySem PySem.Spec PyProof.Rows Builtin.ObjectAttr
section
variable {X : Cx} {CX : CXT} {k : Nat} {C fI : Addr} {fd : FuncData} {ps : List Str} {sp : Sp} {x : Str} {p pos : Pos} {e : Expr} {es : List Expr} {ta : TA}
/-- raise C(..), C an own exception class with its own __init__, over any built-in base -/
theorem run_pmk {pins : List (Addr × Obj)} {σ : St} {H1 : Hp} {s1 : Shared} {Q : XK} {us : List Value} {vs : List V} (T : XC X.K C) (tyC : PySem.W.typeIn X.K (.ref C) = some (.type "type")) (iC : PySem.W.findIn X.K (.ref C) "__init__" = some (some (.ref fI))) (tI : PySem.W.isFn X.K (.ref fI) = true)
    (F1 : FnOk X.prog X.w X.K X.mg X.base CX k fI fd ps sp) (hr : Room (k + 1) X.A) (hb : Binds X.K fd ps []) (hx : Passes CX X (fun _ _ _ => False)) (I1 : Inv X pins σ H1 s1) (r1 : Vals vs us) (hz : vs.length ≤ 1000)
    (q1 : ∀ a, H1 a = none → sp (.ref a :: vs) (upd H1 a (exo a C none)) (fun v H2 => v = .non ∧ ∃ (d : Addr) (fs : List (Str × V)), H2 a = some (exo a C (some d)) ∧ H2 d = some (exd d fs) ∧ H1 d = none ∧ Q (.ref C) (some d) (upd (del H2 a) d (.xd fs))) (fun _ _ _ => False)) :
    wpAny (model X.prog X.w) X.A (call (.ref C) us []) (MkP X pins σ Q) X.xe s1 := by
  obtain ⟨B, nid, iid, mb, FB, SF, qa, qb⟩ := T.base
  obtain ⟨nm, N, qn, bs, bm, hdct, sn, sub, ab, col, dd, k0, k1, k2, k3, k5, hC, hT⟩ := PySem.W.excInit_of I1.kIn qa
  obtain ⟨oI, hoI, hcI⟩ : ∃ oI, s1.heap.get? fI = some oI ∧ oI.cls = .type "function" := by
    obtain ⟨o, ho, hc⟩ := Option.map_eq_some_iff.mp (show (X.K.lookup fI).map (·.cls) = some (.type "function") from beq_iff_eq.mp tI)
    exact ⟨o, I1.kIn _ _ ho, hc⟩
  obtain ⟨hp, g, dr, tk, os⟩ := s1
  have hsz : hp.objs.size ≤ hp.objs.size + 1 := Nat.le_succ _
  have hn : H1 (hp.objs.size + 1) = none := I1.hok.fresh hsz
  have hq := q1 (hp.objs.size + 1) hn
  have kk : ∀ b o, hp.get? b = some o → ((hp.push (PySem.W.kdv_tup us)).push (PySem.HandSPX.excO C hp.objs.size)).get? b = some o := fun b o z => Heap.get?_push_of_some _ (Heap.get?_push_of_some _ z)
  have hget : ((hp.push (PySem.W.kdv_tup us)).push (PySem.HandSPX.excO C hp.objs.size)).get? (hp.objs.size + 1) = some (PySem.HandSPX.excO C hp.objs.size) := by heap_get
  have I2 : Inv X pins σ (upd H1 (hp.objs.size + 1) (exo (hp.objs.size + 1) C none)) ⟨(hp.push (PySem.W.kdv_tup us)).push (PySem.HandSPX.excO C hp.objs.size), g, dr, tk, os⟩ :=
    I1.laid (t' := tk) (a := hp.objs.size + 1) (o := exo (hp.objs.size + 1) C none) (h' := (hp.push (PySem.W.kdv_tup us)).push (PySem.HandSPX.excO C hp.objs.size)) kk hsz (exo_ok hget)
  have r2 : Vals (V.ref (hp.objs.size + 1) :: vs) (Value.ref (hp.objs.size + 1) :: us) := .cons rfl r1
  have hl : (Value.ref (hp.objs.size + 1) :: us).length = ps.length := by
    have z := r2.length
    rw [F1.len _ _ _ _ hq] at z
    exact z.symm
  have hus : us.length ≤ sizeLine := by
    rw [← Paired.length r1, sizeLine_eq]
    omega
  have hb2 := hb ⟨(hp.push (PySem.W.kdv_tup us)).push (PySem.HandSPX.excO C hp.objs.size), g, dr, tk, os⟩ (Value.ref (hp.objs.size + 1) :: us) I2.kIn (by rw [List.append_nil]; exact hl)
  rw [List.append_nil] at hb2
  refine wpAny_call (PySem.Xv.callK (kw := []) FB hT hC (PySem.W.looks_findIn I1.kIn iC) (fun self => PySem.W.exc_bind hoI hcI self) hus
    (codeAny_mono (F1.run _ X.stack _ _ ⟨Value.ref (hp.objs.size + 1) :: us, []⟩ (Value.ref (hp.objs.size + 1) :: us) _ _ (fun _ _ _ => False) (hr.make C us []) (I2.env0.make C us []) hb2 r2 hq) fun r s' hq' => ?_))
  cases r with
  | error er => exact hx pins σ _ _ er s' I2 hq'
  | ok fl =>
    cases fl with
    | ret u =>
      obtain ⟨v, H2, os2, bare2, un2, hok2, rv, ev, d, fs, ea, ed, hd1, q2⟩ := hq'
      subst ev
      obtain ⟨h2, g2, d2, t2, os'⟩ := s'
      exact ⟨rv, mk_end (raises_own T.ex tyC) I1 hsz kk un2 hok2 os2 bare2 ea ed hd1 q2⟩
    | next => exact False.elim hq'
    | brk => exact False.elim hq'
    | cont => exact False.elim hq'
theorem pmk_xo (T : XC X.K C) (tyC : PySem.W.typeIn X.K (.ref C) = some (.type "type")) (iC : PySem.W.findIn X.K (.ref C) "__init__" = some (some (.ref fI))) (tI : PySem.W.isFn X.K (.ref fI) = true)
    (F1 : FnOk X.prog X.w X.K X.mg X.base CX k fI fd ps sp) (hr : Room (k + 1) X.A) (hb : Binds X.K fd ps []) (hx : Passes CX X (fun _ _ _ => False)) (hg : Gl X x) (hm : X.mg x = some (.ref C)) (ha : PA X (e :: es) ta)
    (hdb : (x == ("__debug__" : Str)) = false := by decide) (he : starEach (e :: es) X.env = (false, eval e X.env) :: starEach es X.env := by rfl) (hpl : (backTo pos (starEach es X.env)).any (·.1) = false := by rfl) :
    PMk X (.Call (.Name x p) (e :: es) [] pos) (tMkO C sp [] ta) := by
  intro pins s σ H Q I h
  refine wpAny_Call_Name_kw (ld_glob I hg hm ?_ hdb)
  refine PySem.W.callWith_K (h₀ := X.base) I.ok.mod.kin T.kC (thn (ha.run pos pins s σ H _ I h) fun us s1 ⟨vs, H1, I1, r1, hz, q1⟩ => ⟨I1.kIn, ?_⟩) he hpl
  exact run_pmk T tyC iC tI F1 hr hb hx I1 r1 hz (fun a na => by have z := q1 a na; rwa [List.append_nil] at z)
theorem pmk_xo0 (T : XC X.K C) (tyC : PySem.W.typeIn X.K (.ref C) = some (.type "type")) (iC : PySem.W.findIn X.K (.ref C) "__init__" = some (some (.ref fI))) (tI : PySem.W.isFn X.K (.ref fI) = true)
    (F1 : FnOk X.prog X.w X.K X.mg X.base CX k fI fd ps sp) (hr : Room (k + 1) X.A) (hb : Binds X.K fd ps []) (hx : Passes CX X (fun _ _ _ => False)) (hg : Gl X x) (hm : X.mg x = some (.ref C))
    (hdb : (x == ("__debug__" : Str)) = false := by decide) : PMk X (.Call (.Name x p) [] [] pos) (tMkO C sp [] tNil) := by
  intro pins s σ H Q I h
  refine wpAny_Call_Name_kw (ld_glob I hg hm ?_ hdb)
  obtain ⟨_, q1⟩ := h
  exact PySem.W.callWith_K0 I.kIn T.kC (run_pmk (us := []) (vs := []) T tyC iC tI F1 hr hb hx I .nil (by decide) q1)
end
end L2
end
section
set_option maxHeartbeats 4000000
namespace L2
open PySem PySem.Spec PyProof.Rows
/-! ### the caught exception, read where it is pinned -/
section
variable {X : Cx} {a C : Addr} {oe : Obj} {cls : Value} {d : Option Addr} {e : Expr} {te : TE} {pos : Pos} {n : Str}
theorem pe_xfP (hp : (a, oe) ∈ X.pn) (T : XC X.K C) (hno : PySem.W.findIn X.K (.ref C) n = some none) (hz : Zc cls d oe) (hf : ∃ vs, oe.data = .fields vs) (he : PE X e te) (hb : attributeBase e n X.env (eval e X.env) = eval e X.env := by rfl) :
    PE X (.Attribute e n pos) (tXf a cls d C n te) := by
  refine ⟨fun pins s σ H Q I h => ?_⟩
  refine attr_of hb (thn (he.run pins s σ H _ I h) fun u s1 hh => ?_)
  obtain ⟨x, H1, I1, rx, ex, ec, dd, fs, v, ed, ea, l, q⟩ := hh
  subst ex
  obtain rfl : u = Value.ref a := rx
  subst ec
  subst ed
  obtain ⟨ha, _⟩ := I1.pin (a, oe) (List.mem_append_left _ hp)
  obtain ⟨vs, hd⟩ := hf
  have hx : ObjOk X.prog X.w H1 s1.heap dd (.xd fs) := I1.hok dd _ ea
  obtain ⟨mA, hns, hr⟩ := hx
  obtain ⟨od, ho, hl⟩ := lookIn_ns hns
  obtain ⟨u, hu, ru⟩ := RelO.some_of (v := v) (o := mA n) (by rw [← l]; exact hr n)
  have J : PySem.W.InstAt s1.heap a oe C (some od) := ⟨ha, hz.1, by unfold PySem.W.notCls; rw [hd] <;> rfl, by rw [hz.2]; exact ho⟩
  exact HandSPX.exc_get I1.kIn J T.ga T.gg T.ex (PySem.W.findObj_own T.hd hno rfl (by rw [hl, hu])) (handed_of ru) ⟨v, H1, I1.tok _, ru, q⟩
/-- isinstance(e, c), e the exception pinned at a, with its dict -/
def rIsP (K : PySem.W.Frag) (D a dd : Addr) : List V → Hp → VK → Prop := fun xs H Q => ∃ (c : V) (cv : Value) (b : Bool) (fs : List (Str × V)), xs = [.ref a, c] ∧ H dd = some (.xd fs) ∧ (∀ u, RelV c u → u = cv) ∧ PySem.W.kitOne K (.ref D) cv = some b ∧ Q (.bl b) H
theorem call_isP {D dd : Addr} (hp : (a, oe) ∈ X.pn) (T : XC X.K D) (hz : Zc (.ref D) (some dd) oe) (hf : ∃ vs, oe.data = .fields vs) : CallR X (.builtin "isinstance") (rIsP X.K D a dd) := by
  intro pins s σ H xs us Q I r h
  obtain ⟨c, cv, b, fs, rfl, ea, hcv, e, q⟩ := h
  cases r with
  | cons rx rr =>
    cases rr with
    | cons rt rr =>
      cases rr
      cases rx
      have ec := hcv _ rt
      subst ec
      obtain ⟨hget, _⟩ := I.pin (a, oe) (List.mem_append.mpr (.inl hp))
      obtain ⟨vs, hv⟩ := hf
      have hx : ObjOk X.prog X.w H s.heap dd (.xd fs) := I.hok dd _ ea
      obtain ⟨mA, hns, hr⟩ := hx
      obtain ⟨od, ho, hl⟩ := lookIn_ns hns
      have J : PySem.W.InstAt s.heap a oe D (some od) := ⟨hget, hz.1, by unfold PySem.W.notCls; rw [hv] <;> rfl, by rw [hz.2]; exact ho⟩
      exact PySem.W.kia_one (PySem.W.kitx_exc T.cl T.ga T.gg T.ex T.ha T.hn T.ht T.hm) I.kIn J e (fun z => nomatch z) fun tk => ⟨.bl b, H, I.tok tk, rfl, q⟩
end
/-! ### a def that is handed the caught exception, called in the suite -/
structure FnP (P : Program) (w : World) (K : PySem.W.Frag) (mg : Str → Option Value) (base : Heap) (CX : CXT) (k : Nat) (f : Addr) (fd : FuncData) (ps : List Str) (sp : Addr → Value → Option Addr → Sp) : Prop where
  len : ∀ a cls d vs H Q E, sp a cls d vs H Q E → vs.length = ps.length
  run : ∀ (A : Around) (outer : List Env) (s : Shared) (H : Hp) (args : Args) (us : List Value) (vs : List V) (Q : VK) (E : XK) (a : Addr) (oe : Obj) (cls : Value) (d : Option Addr), L2H.RoomH k A → Zc cls d oe → (∃ vs, oe.data = .fields vs) → L2H.PinOk outer H s (a, oe) → Env0 P w K mg base A outer s H → BindsTo s fd args (ps.zip us) → Vals vs us → sp a cls d vs H Q E →
    codeAny (model P w) A (.call (.ref f) args) (CR CX outer P w H s Q E) s
/-- .. by its body -/
theorem fn_ofP {CX : CXT} {P : Program} {w : World} {K : PySem.W.Frag} {mg : Str → Option Value} {base : Heap} {k : Nat} {x q : Str} {st : Stmt} {f : Addr} {fd : FuncData} {N ps : List Str} {sp : Addr → Value → Option Addr → Sp} (F : Fun K x q st f fd) (S : FnScope N ps (defScope st))
    (len : ∀ a cls d vs H Q E, sp a cls d vs H Q E → vs.length = ps.length)
    (hbody : ∀ (cdv : Value) (A : Around) (outer : List Env) (s : Shared) (H : Hp) (vs : List V) (Q : VK) (E : XK) (a : Addr) (oe : Obj) (cls : Value) (d : Option Addr), Zc cls d oe → (∃ vs, oe.data = .fields vs) → L2H.RoomH k (A.deeper (envOfC q (defScope st) s.heap.objs.size f cdv)) → sp a cls d vs H Q E →
      ∃ t, PSs (L2H.cxH CX P w K mg base N q (defScope st) f cdv A outer s H E (a, oe)) (defBody st) t ∧ t { nx := fun _ H' => Q .non H', rt := Q } (L2.start N vs) H) :
    FnP P w K mg base CX (k + 1) f fd ps sp := by
  obtain ⟨oc, od, kV, doc, pm, an, cdv, ct, osl, rfl, lk, hcd⟩ := F.ex
  refine ⟨len, fun A outer s H args us vs Q E a oe cls d hr hz hf hpin e0 hb r hsp => ?_⟩
  have hl := len _ _ _ _ _ _ _ hsp
  have KX : K.In s.heap := e0.mod.kin.keeps fun b o e => (e0.bs b o e).1
  have lim : s.heap.NoLimit := e0.mod.nolimit.keeps fun b o e => (e0.bs b o e).1
  have hkind : ∀ y ∈ ps.zip us, (defScope st).names.lookup y.1 = some .local ∨ ((defScope st).names.lookup y.1 = some .cell ∧ ((cellsFrom (s.heap.objs.size + 1) (defScope st).names []).lookup y.1).isSome = true) := fun ⟨n, v⟩ hy => by
    rcases S.par n (List.of_mem_zip hy).1 with q | q
    · exact .inl q
    · exact .inr ⟨q, PySem.W.cellsFrom_some _ _ _ (.inl q)⟩
  refine codeAny_call_function hr.depth (KX _ _ lk) rfl S.co S.gen rfl (PySem.W.codeRec_of KX hcd) (hb _ _ _ _ ?_)
  refine wpAny_newFunctionEnv_cells S.kind hkind fun env he s1 x => ?_
  subst he
  refine ⟨lim.keeps x.toInCall.keep, codeAny_func ?_⟩
  obtain ⟨t, ht, hq⟩ := hbody cdv A outer s H vs Q E a oe cls d hz hf (hr.deeper _) hsp
  have I : Inv (L2H.cxH CX P w K mg base N q (defScope st) f cdv A outer s H E (a, oe)) [] (L2.start N vs) H s1 := L2H.inv_startH S hpin e0 hl r x
  refine wpAny_mono (ht.run [] s1 (L2.start N vs) H _ I hq) (fun fl s' hs => ?_) fun e s' hs => hs
  have fin : ∀ {σ' : St} {H' : Hp} {v : V} {u : Value}, Inv (L2H.cxH CX P w K mg base N q (defScope st) f cdv A outer s H E (a, oe)) [] σ' H' s' → RelV v u → Q v H' → CE outer P w H s Q u s' :=
    fun {σ' H' v u} J rv q => ⟨v, H', J.os, J.bare, J.base, J.hok, rv, q⟩
  cases fl with
  | ret u =>
    obtain ⟨v, σ', H', J, rv, q⟩ := hs
    exact fin J rv q
  | next =>
    obtain ⟨σ', H', J, q⟩ := hs
    exact fin (v := V.non) (u := Value.none) J rfl q
  | brk =>
    obtain ⟨_, _, _, q⟩ := hs
    exact False.elim q
  | cont =>
    obtain ⟨_, _, _, q⟩ := hs
    exact False.elim q
/-- f(e, ..) in the suite -/
def tCallP (a : Addr) (cls : Value) (d : Option Addr) (sp : Addr → Value → Option Addr → Sp) (t : TA) : TE := fun σ H Q => t σ H fun vs H1 => sp a cls d vs H1 Q (fun _ _ _ => False)
section
variable {X : Cx} {k : Nat} {f : Addr} {fd : FuncData} {ps : List Str} {sp : Addr → Value → Option Addr → Sp} {x : Str} {q pos : Pos} {e : Expr} {es : List Expr} {t : TA} {a : Addr} {oe : Obj} {cls : Value} {d : Option Addr}
theorem pe_callP (hp : (a, oe) ∈ X.pn) (hz : Zc cls d oe) (hf : ∃ vs, oe.data = .fields vs) (F : FnP X.prog X.w X.K X.mg X.base C8.CX0 k f fd ps sp) (hr : L2H.RoomH k X.A) (hg : Gl X x) (hm : X.mg x = some (.ref f)) (hk : PySem.W.keepIn X.K (.ref f) = true) (hb : Binds X.K fd ps [])
    (ha : PA X (e :: es) t) (hdb : (x == ("__debug__" : Str)) = false := by decide) (he : starEach (e :: es) X.env = (false, eval e X.env) :: starEach es X.env := by rfl) (hpl : (backTo pos (starEach es X.env)).any (·.1) = false := by rfl) :
    PE X (.Call (.Name x q) (e :: es) [] pos) (tCallP a cls d sp t) := by
  refine ⟨fun pins s σ H Q I h => ?_⟩
  refine wpAny_Call_Name_kw (ld_glob I hg hm ?_ hdb)
  refine PySem.W.callWith_K (h₀ := X.base) I.ok.mod.kin hk (thn (ha.run pos pins s σ H _ I h) fun us s1 ⟨vs, H1, I1, r, q⟩ => ⟨I1.kIn, ?_⟩) he hpl
  have hl : us.length = ps.length := by rw [← r.length]; exact F.len _ _ _ _ _ _ _ q
  have b := hb s1 us I1.kIn (by rw [List.append_nil]; exact hl)
  rw [List.append_nil] at b
  have P1 := I1.pin (a, oe) (List.mem_append_left _ hp)
  have hpin : L2H.PinOk X.stack H1 s1 (a, oe) := ⟨P1.1, P1.2.1, fun hm => (List.mem_cons.mp (I1.stkSub a hm)).elim P1.2.2.1 P1.2.2.2.1, P1.2.2.2.2⟩
  refine wpAny_call (codeAny_mono (F.run X.A X.stack s1 H1 ⟨us, []⟩ us vs Q _ a oe cls d hr hz hf hpin I1.env0 b r q) fun r s' hq => ?_)
  cases r with
  | error e => exact hq.elim
  | ok fl =>
    cases fl with
    | ret u => exact I1.after hq
    | next => exact False.elim hq
    | brk => exact False.elim hq
    | cont => exact False.elim hq
end
end L2
end
section
set_option maxHeartbeats 4000000
namespace L2
open PySem PySem.Spec PyProof.Rows
/-! ### several clauses «except C as n» -/
abbrev Hd3 : Type := Value × Nat × (Addr → Value → Option Addr → TS)
def wManyAs (K : PySem.W.Frag) (Wout : WX) (D : Ends) : List Hd3 → WX
  | [] => Wout
  | (c, i, ts) :: r => fun cls d σ H => ∃ b, PySem.W.exmOne K cls c = some b ∧ (b = true → ∀ a, H a = none → ts a cls d { nx := fun σ' H' => D.nx (σ'.set i none) H', rt := D.rt, bk := fun σ' H' => D.bk (σ'.set i none) H', ct := fun σ' H' => D.ct (σ'.set i none) H' } (σ.set i (some (.ref a))) H) ∧
      (b = false → wManyAs K Wout D r cls d σ H)
inductive HdsAs (X : Cx) : List ExceptHandler → List Hd3 → Prop
  | nil : HdsAs X [] []
  | cons {x n : Str} {c : Value} {i : Nat} {ts : Addr → Value → Option Addr → TS} {b₀ : Stmt} {suite : List Stmt} {np pos' : Pos} {hds : List ExceptHandler} {l : List Hd3} (hi : X.N[i]? = some n) (hln : X.env.kindOf n = some .local) (hc : Names X x c)
      (hsu : ∀ (a : Addr) (oe : Obj) (cls : Value) (d : Option Addr) (pn : List (Addr × Obj)), Zc cls d oe → (∃ vs, oe.data = .fields vs) → PSs (X.suite a ((a, oe) :: pn)) (b₀ :: suite) (ts a cls d)) (r : HdsAs X hds l) :
      HdsAs X (.ExceptHandler (some (.Name x np)) (some n) (b₀ :: suite) pos' :: hds) ((c, i, ts) :: l)
section
variable {X : Cx} {body : List Stmt} {h₀ : ExceptHandler} {hds : List ExceptHandler} {l : List Hd3} {pos : Pos} {tb : WX → TS} {Wout : WX}
theorem ps_try_manyAs (hs : X.stack = X.env :: X.outer) (hf : X.env.frame = some X.env.locals) (hN : X.N.Nodup) (tk : Takes X Wout)
    (hb : ∀ (W : WX) (pn : List (Addr × Obj)) (xe : Value → Shared → Prop), Takes (X.tr pn xe) W → PassesOwn (model X.prog X.w) X.A X.env xe → PSs (X.tr pn xe) body (tb W))
    (hh : HdsAs X (h₀ :: hds) l) : PS X (.Try body (h₀ :: hds) [] [] pos) (fun D σ H => tb (wManyAs X.K Wout D l) D σ H) := by
  refine ⟨fun pins s σ H D I h => ?_⟩
  have ok := I.ok
  have hfr : X.A.frames = some (X.env :: X.outer) := by rw [ok.frames, hs]
  refine wpAny_Try_except ?_
  refine wpAny_mono ((hb (wManyAs X.K Wout D l) (X.pn ++ pins) (fun e s₁ => wpAny (model X.prog X.w) X.A (noteFrame e X.env) (fun _ s₂ => wpAny (model X.prog X.w) X.A (setFlight e none) (fun _ s₃ =>
    wpAny (model X.prog X.w) X.A (handleBy e X.env (h₀ :: hds)) (SP X pins D) X.xe s₃) X.xe s₂) X.xe s₁) (fun u s' xx => ?_) PassesOwn.looking).run [] s σ H D (I.toTry _) h) (fun f s1 hsp => ?_) (fun e s1 he => he)
  · -- the catch
    obtain ⟨a, B, sI, pins', σ', H', cls, d, rfl, J', nb, up, sky, na, os, ag, w⟩ := xx
    have J : Inv X pins σ' H' sI := J'.ofTry ok
    have sky' : Sky B (X.env :: X.outer) a (Zc cls d) X.env.locals s'.heap := by rw [← hs]; exact sky
    show wpAny (model X.prog X.w) X.A (noteFrame (.ref a) X.env) _ _ _
    refine Sky.land Zc.steady hfr hf sky' fun h3 fl3 up3 => ?_
    have J3 : Inv X pins σ' H' { s' with heap := h3 } := J.landed nb fl3.1 (up.trans up3) os ag
    obtain ⟨oe3, vs3, he3, hz3, hd3⟩ := fl3.there
    have notFr : ∀ {h : Heap} {o : Obj} {vs : Array Value}, h.FunFrames B (X.env :: X.outer) → h.get? a = some o → o.data = .fields vs → a ∉ frs (X.env :: X.outer) := fun {h o vs} ff e dd hm => by
      obtain ⟨_, o', e', hnf⟩ := ff.mem hm
      rw [e] at e'; cases e'
      exact hnf _ dd
    have nfr := notFr fl3.2.2.1 he3 hd3
    have nL : a ≠ X.env.locals := fun z => nfr (List.mem_filterMap.mpr ⟨X.env, List.mem_cons_self, by rw [hf, z]⟩)
    have nF : a ∉ X.fs := fun hm => by
      obtain ⟨e, he, q⟩ := List.mem_filterMap.mp hm
      exact nfr (List.mem_filterMap.mpr ⟨e, List.mem_cons_of_mem _ he, q⟩)
    have S3 := J3.suite he3 hd3 na nL nF
    have go : ∀ {hds' : List ExceptHandler} {l' : List Hd3}, HdsAs X hds' l' → wManyAs X.K Wout D l' cls d σ' H' →
        wpAny (model X.prog X.w) X.A (handleBy (.ref a) X.env hds') (SP X pins D) X.xe { s' with heap := h3 } := by
      intro hds' l' hk
      induction hk with
      | nil =>
        intro w
        refine wpAny_handleBy_nil ?_
        obtain ⟨k1, k2, k3, oe, vs, T, oT, ts', he, hz, hd, h1, hr⟩ := id fl3
        unfold PySem.passOn
        refine wpAny_bind (wpAny_field he hd h1 ?_)
        rw [if_neg (show ¬ ((Value.ref T == Value.none) = true) from by simp)]
        have fin : wpAny (model X.prog X.w) X.A (setFlight (.ref a) X.env.frame) (fun _ s4 => wpAny (model X.prog X.w) X.A (throw (.ref a) : Sem Flow) (SP X pins D) X.xe s4) X.xe { s' with heap := h3 } := by
          rw [hf]
          refine HandSPX.setFlight_upZ fl3 fun h4 hh4 up4 => wpAny_throw (tk _ _ ?_)
          exact ⟨a, B, sI, pins, σ', H', cls, d, rfl, J, nb, (up.trans up3).trans up4, .inr (.inr (by rw [hs]; exact hh4)), na, os, ag, w⟩
        first
          | exact wpAny_bind (wpAny_pure (wpAny_bind fin))
          | exact wpAny_bind fin
      | @cons x n c i ts b₀ suite np pos' hds2 l2 hi hln hc hsu r ih =>
        intro w
        obtain ⟨b, hb1, hyes, hno⟩ := w
        have hloc : Loc X.env.scope n := .inl hln
        refine wpAny_handleBy_cons (codeAny_handlers_test ?_) (by intro q; cases q)
        have LT : PySem.W.Looks (model X.prog X.w) h3 (typeOf (.ref a)) cls := fun A Q E s k q => wpAny_typeOf_ref (k _ _ he3) (by rw [hz3.1]; exact q)
        have LM := PySem.W.exm_one (M := model X.prog X.w) (J3.kIn) LT hb1
        have test : ∀ {Q : Value → Shared → Prop} {E : Value → Shared → Prop}, Q c { s' with heap := h3 } → wpAny (model X.prog X.w) (X.A.mark (some (.ref a))) (eval (.Name x np) X.env) Q E { s' with heap := h3 } := fun {Q E} q => by
          obtain ⟨hg, hdbg, hm | ⟨hm, hv, hnn⟩⟩ := hc
          · exact ld_glob (X := X.suite a ((a, oe3) :: (X.pn ++ pins))) S3 hg hm q hdbg
          · exact ld_blt (X := X.suite a ((a, oe3) :: (X.pn ++ pins))) S3 hg hm hv q hnn hdbg
        refine test (LM.here ?_)
        cases b with
        | true =>
          refine codeAny_handlers_suite_as ?_
          refine HandSPX.lands_againZ fl3 fun h4 fl4 up4 => ?_
          have J4 : Inv X pins σ' H' { s' with heap := h4 } := J.landed nb fl4.1 ((up.trans up3).trans up4) os ag
          obtain ⟨oe4, vs4, he4, hz4, hd4⟩ := fl4.there
          have S4 := J4.suite he4 hd4 na nL nF
          refine store_ok (X := X.suite a ((a, oe4) :: (X.pn ++ pins))) (v := .ref a) S4 hN hi hloc rfl (fun s5 S5 => ?_) (.inr hln)
          refine wpAny_mono ((hsu a oe4 cls d (X.pn ++ pins) hz4 ⟨_, hd4⟩).run [] s5 _ H' _ S5 (hyes rfl a na)) (fun f s6 hsp => ?_) (fun _ _ z => False.elim z)
          have end_ : ∀ {σ6 : St} {H6 : Hp} {Q : Shared → Prop}, Inv (X.suite a ((a, oe4) :: (X.pn ++ pins))) [] σ6 H6 s6 → (∀ s7, Inv X pins (σ6.set i none) H6 s7 → Q s7) →
              wpAny (model X.prog X.w) X.A (do bindName X.env n .none; unbindBehindTheSuite X.env n pos') (fun _ s7 => Q s7) X.xe s6 := fun {σ6 H6 Q} S6 hq => gone_ok (S6.unsuite ok) hN hi hln hq
          cases f with
          | next =>
            obtain ⟨σ6, H6, S6, q6⟩ := hsp
            exact end_ S6 fun s7 J7 => ⟨_, _, J7, q6⟩
          | brk =>
            obtain ⟨σ6, H6, S6, q6⟩ := hsp
            exact end_ S6 fun s7 J7 => ⟨_, _, J7, q6⟩
          | cont =>
            obtain ⟨σ6, H6, S6, q6⟩ := hsp
            exact end_ S6 fun s7 J7 => ⟨_, _, J7, q6⟩
          | ret u =>
            obtain ⟨v6, σ6, H6, S6, r6, q6⟩ := hsp
            exact end_ S6 fun s7 J7 => ⟨_, _, _, J7, r6, q6⟩
        | false =>
          show wpAny _ X.A (handleBy (.ref a) X.env hds2) _ _ _
          exact ih (hno rfl)
    exact go hh w
  · cases f with
    | next =>
      obtain ⟨σ', H', J', q⟩ := hsp
      exact wpAny_execs_nil ⟨σ', H', J'.ofTry ok, q⟩
    | brk =>
      obtain ⟨σ', H', J', q⟩ := hsp
      exact ⟨σ', H', J'.ofTry ok, q⟩
    | cont =>
      obtain ⟨σ', H', J', q⟩ := hsp
      exact ⟨σ', H', J'.ofTry ok, q⟩
    | ret u =>
      obtain ⟨v, σ', H', J', r, q⟩ := hsp
      exact ⟨v, σ', H', J'.ofTry ok, r, q⟩
end
end L2
end
section
set_option maxHeartbeats 4000000
namespace PySem.W
open PySem PySem.Spec PySem.Calls PyProof.Rows
abbrev kld_fn (name qual : Str) (params : Arguments) (body : Expr) (scope : Scope) (cl : List (Str × Addr)) (dV pm cdv ct : Value) : FuncData :=
  { name, qualname := qual, params, body := .expr body, scope, globals := mainGlobals, closure := cl, defaults := dV, kwdefaults := .none, doc := .none, pyModule := pm, annotations := none, code := cdv, closureTuple := ct, builtins := builtinsNs }
abbrev kld_obj (name qual : Str) (params : Arguments) (body : Expr) (scope : Scope) (clos : List (Str × Addr)) (dV pm : Value) (c' : Addr) (ctv : Value) : Obj :=
  { cls := .type "function", data := .func (kld_fn name qual params body scope clos dV pm (.ref c') ctv) }
section
variable {M : Model} {A : Around} {E : Value → Shared → Prop} {s : Shared} {name qual : Str} {params : Arguments} {body : Expr} {scope : Scope} {env : Env} {c P : Addr} {ps : Array Value} {pos : Pos} {firstLine : Nat} {mg : Str → Option Value}
  {clos : List (Str × Addr)} {dV : Value} {Q : Value → Shared → Prop}
theorem kld_makeTail (hcl : closureFor scope env = pure clos) (hge0 : env.globals = mainGlobals) (hg : s.heap.Ns mainGlobals mg) (hcode : env.code = .ref c) (C : CodeHd s.heap c P) (hP : s.heap.get? P = some (tabObj ps)) (ht : TriplesOk ps.toList)
    (hnf : codeAmong pos ps.toList = none) (hgP : mainGlobals ≠ P) (hb : s.heap.BuiltinsAt mg P)
    (h : ∀ c' ctv h' tk, Heap.ExtBut P s.heap h' → s.heap.objs.size ≤ c' → c' < h'.objs.size → h'.CodeRec (.ref c') qual → h'.get? P = some (tabObj (ps ++ #[rawInt pos.line, rawInt pos.col, .ref c'])) →
      Q (.ref h'.objs.size) { s with heap := h'.push (kld_obj name qual params body scope clos dV ((mg "__name__").getD .none) c' ctv), toks := tk }) :
    wpAny M A (makeTail name qual params (.expr body) scope env dV .none none pos firstLine) Q E s := by
  obtain ⟨bm, ob, hbm, hne0, _, hneP, hbo, hcls, hdict, hdata⟩ := hb
  unfold makeTail
  rw [hcl, hge0]
  refine wpAny_bind (wpAny_pure ?_)
  cases clos with
  | nil =>
    simp only [List.isEmpty_nil, if_true]
    refine wpAny_bind (wpAny_pure ?_)
    refine wpAny_bind (wpAny_functionCodeX hcode (C.code hP ht) (C.tab hP) hnf fun c' h' tk hx hge hlt _ hrec htb _ => ?_)
    have hg' := hg.extBut hx hgP
    refine wpAny_bind (wpAny_builtinsFor hg' hbm hne0 (hx _ _ hneP hbo) hcls hdict hdata ?_)
    refine wpAny_bind (wpAny_nsGet hg' ?_)
    exact wpAny_bind (wpAny_pure (wpAny_newObj_type (h c' .none h' tk hx hge hlt hrec htb.2) (by size_fits)))
  | cons q r =>
    simp only [List.isEmpty_cons, Bool.false_eq_true, if_false]
    refine wpAny_bind (wpAny_newTextTuple ?_)
    refine wpAny_bind (wpAny_functionCodeX hcode ((C.keeps fun b o e => Heap.get?_push_of_some _ e).code (Heap.get?_push_of_some _ hP) ht) ((C.keeps fun b o e => Heap.get?_push_of_some _ e).tab (Heap.get?_push_of_some _ hP)) hnf fun c' h' tk hx hge hlt _ hrec htb _ => ?_)
    have hg' := (hg.push _).extBut hx hgP
    have hx' : Heap.ExtBut P s.heap h' := fun b o hb' e => hx b o hb' (Heap.get?_push_of_some _ e)
    have hge' : s.heap.objs.size ≤ c' := Nat.le_trans (by rw [Heap.size_push]; omega) hge
    refine wpAny_bind (wpAny_builtinsFor hg' hbm hne0 (hx' _ _ hneP hbo) hcls hdict hdata ?_)
    refine wpAny_bind (wpAny_nsGet hg' ?_)
    exact wpAny_bind (wpAny_pure (wpAny_newObj_type (h c' _ h' tk hx' hge' hlt hrec htb.2) (by size_fits)))
theorem kld_makeTailHit {cv : Value} (hcl : closureFor scope env = pure clos) (hge0 : env.globals = mainGlobals) (hg : s.heap.Ns mainGlobals mg) (hcode : env.code = .ref c) (C : CodeHd s.heap c P) (hP : s.heap.get? P = some (tabObj ps)) (ht : TriplesOk ps.toList)
    (hf : codeAmong pos ps.toList = some cv) (hb : s.heap.BuiltinsAt mg P)
    (h : ∀ (ctv : Value) (h' : Heap) (tk : Tok), (∀ b o, s.heap.get? b = some o → h'.get? b = some o) → s.heap.objs.size ≤ h'.objs.size →
      Q (.ref h'.objs.size) { s with heap := h'.push { cls := .type "function", data := .func (kld_fn name qual params body scope clos dV ((mg "__name__").getD .none) cv ctv) }, toks := tk }) :
    wpAny M A (makeTail name qual params (.expr body) scope env dV .none none pos firstLine) Q E s := by
  obtain ⟨bm, ob, hbm, hne0, _, hneP, hbo, hcls, hdict, hdata⟩ := hb
  unfold makeTail
  rw [hcl, hge0]
  refine wpAny_bind (wpAny_pure ?_)
  cases clos with
  | nil =>
    simp only [List.isEmpty_nil, if_true]
    refine wpAny_bind (wpAny_pure ?_)
    refine wpAny_bind (wpAny_functionCode_hit hcode (C.code hP ht) hf ?_)
    refine wpAny_bind (wpAny_builtinsFor hg hbm hne0 hbo hcls hdict hdata ?_)
    refine wpAny_bind (wpAny_nsGet hg ?_)
    exact wpAny_bind (wpAny_pure (wpAny_newObj_type (h .none s.heap s.toks (fun _ _ e => e) (Nat.le_refl _)) (by size_fits)))
  | cons q r =>
    simp only [List.isEmpty_cons, Bool.false_eq_true, if_false]
    refine wpAny_bind (wpAny_newTextTuple ?_)
    refine wpAny_bind (wpAny_functionCode_hit hcode ((C.keeps fun b o e => Heap.get?_push_of_some _ e).code (Heap.get?_push_of_some _ hP) ht) hf ?_)
    refine wpAny_bind (wpAny_builtinsFor (hg.push _) hbm hne0 (Heap.get?_push_of_some _ hbo) hcls hdict hdata ?_)
    refine wpAny_bind (wpAny_nsGet (hg.push _) ?_)
    have hsz : ∀ oT : Obj, s.heap.objs.size ≤ (s.heap.push oT).objs.size := fun oT => by rw [Heap.size_push]; omega
    exact wpAny_bind (wpAny_pure (wpAny_newObj_type (h _ _ s.toks (fun b o e => Heap.get?_push_of_some _ e) (hsz _)) (by size_fits)))
end
end PySem.W
namespace LamX
open PySem PySem.Spec PyProof.Rows L2
section
variable {X : Cx} {pins : List (Addr × Obj)} {σ : L2.St} {H : Hp} {s : Shared}
/-- the lambda's object is made, its defaults at dV -/
theorem lam_tail {T : List (Addr × Str)} {c P : Addr} {params : Arguments} {body : Expr} {scope : Scope} {pos : Pos} {dV : Value} {E : Value → Shared → Prop} {Q : Value → Shared → Prop} (I : Inv X pins σ H s) (TB : TabB X.base X.mg c P) (hcode : X.env.code = .ref c)
    (hm : (P, X.env.qual ++ "<lambda>") ∈ T) (hu : ∀ p ∈ T, p.1 = P → p.2 = X.env.qual ++ "<lambda>") (hT : Tabs T H) (hfree : ∀ y ∈ scope.names, y.2 = .free → ∃ c, X.env.cells.lookup y.1 = some c)
    (h : ∀ (f c' : Addr) (pm ctv : Value) (H1 : Hp) (s' : Shared), Inv X pins σ H1 s' → ExtN H H1 → Tabs T H1 →
      s'.heap.get? f = some (PySem.W.kld_obj "<lambda>" (X.env.qual ++ "<lambda>") params body scope (cloFrom X.env.cells scope.names []) dV pm c' ctv) → H1 f = none → f ∉ frs X.stack → H1 c' = some (CodeO c' (X.env.qual ++ "<lambda>")) → Q (.ref f) s') :
    wpAny (model X.prog X.w) X.A (makeTail "<lambda>" (X.env.qual ++ "<lambda>") params (.expr body) scope X.env dV .none none pos pos.line) Q E s := by
  obtain ⟨ps, hP, ht, ha⟩ := hT _ hm
  have bP : s.heap.BuiltinsAt X.mg P := TB.bm.keeps I.bk
  have hP' : s.heap.get? P = some { cls := .none, data := .fields ps } := I.hok P _ hP
  have nofr : ∀ f, s.heap.objs.size ≤ f → f ∉ frs X.stack := fun f hf z => by
    rcases List.mem_cons.mp (I.stkSub _ z) with e | e
    · have h1 := I.lt
      rw [← e] at h1
      exact Nat.lt_irrefl _ (Nat.lt_of_lt_of_le h1 hf)
    · exact I.nofs hf e
  cases hc : codeAmong pos ps.toList with
  | none =>
    refine PySem.W.kld_makeTail (mg := X.mg) (c := c) (P := P) (ps := ps) (closure_ok hfree) I.ok.glob (I.mod.glob.keeps I.bk) hcode (TB.code.keeps I.bk) hP' ht hc TB.gP bP fun c' ctv h' tk hx hge hlt hrec htb => ?_
    obtain ⟨c2, oc, vs, t, e2, hoc, hd, hv⟩ := hrec
    cases e2
    have hsz : s.heap.objs.size ≤ h'.objs.size := Nat.le_trans hge (Nat.le_of_lt hlt)
    have nC : H c' = none := I.hok.fresh hge
    have I1 := inv_table (t' := tk) (more := #[rawInt pos.line, rawInt pos.col, .ref c']) (h' := h'.push (PySem.W.kld_obj "<lambda>" (X.env.qual ++ "<lambda>") params body scope (cloFrom X.env.cells scope.names []) dV ((X.mg "__name__").getD .none) c' ctv)) I hP
      (fun b o hb e => Heap.get?_push_of_some _ (hx b o hb e)) (Heap.get?_push_of_some _ htb) hge ⟨oc, vs, t, Heap.get?_push_of_some _ hoc, hd, hv⟩
    have hE : ExtN H (upd (upd H P (.tbl (ps ++ #[rawInt pos.line, rawInt pos.col, .ref c']))) c' (CodeO c' (X.env.qual ++ "<lambda>"))) := fun b o e n => by
      rw [upd_ne (ne_of_none e nC), upd_ne (fun z => n ps (Option.some.inj (e.symm.trans (by rw [z]; exact hP))))]
      exact e
    have eL : (ps ++ #[rawInt pos.line, rawInt pos.col, .ref c']).toList = ps.toList ++ [rawInt pos.line, rawInt pos.col, .ref c'] := by simp
    refine h h'.objs.size c' ((X.mg "__name__").getD .none) ctv _ _ I1 hE (fun p hp => ?_) (Heap.get?_push_size _ rfl) ?_ (nofr _ hsz) upd_same
    · by_cases hb : p.1 = P
      · rw [hu p hp hb, hb]
        refine ⟨_, by rw [upd_ne (ne_of_none hP nC), upd_same], by rw [eL]; exact PySem.TriplesOk_snoc _ _ _ _ ht, fun p' cv hcv => ?_⟩
        rw [eL] at hcv
        rcases among_app _ ht hcv with z | z
        · obtain ⟨c0, e1, e2⟩ := ha p' cv z
          exact ⟨c0, e1, hE _ _ e2 codeO_ne⟩
        · exact ⟨c', z, upd_same⟩
      · obtain ⟨ps', a1, a2, a3⟩ := hT p hp
        refine ⟨ps', by rw [upd_ne (ne_of_none a1 nC), upd_ne hb]; exact a1, a2, fun p' cv hcv => ?_⟩
        obtain ⟨c0, e1, e2⟩ := a3 p' cv hcv
        exact ⟨c0, e1, hE _ _ e2 codeO_ne⟩
    · have n1 : h'.objs.size ≠ c' := Nat.ne_of_gt hlt
      have n2 : h'.objs.size ≠ P := Nat.ne_of_gt (Nat.lt_of_lt_of_le (Heap.lt_size hP') hsz)
      rw [upd_ne n1, upd_ne n2]
      exact I.hok.fresh hsz
  | some cv =>
    obtain ⟨c', e, hco⟩ := ha pos cv hc
    subst e
    refine PySem.W.kld_makeTailHit (mg := X.mg) (c := c) (P := P) (ps := ps) (closure_ok hfree) I.ok.glob (I.mod.glob.keeps I.bk) hcode (TB.code.keeps I.bk) hP' ht hc bP fun ctv h' tk hx hsz => ?_
    have I1 : Inv X pins σ H { s with heap := h'.push (PySem.W.kld_obj "<lambda>" (X.env.qual ++ "<lambda>") params body scope (cloFrom X.env.cells scope.names []) dV ((X.mg "__name__").getD .none) c' ctv), toks := tk } := I.kept fun b o e => Heap.get?_push_of_some _ (hx b o e)
    exact h h'.objs.size c' ((X.mg "__name__").getD .none) ctv H _ I1 (ExtN.refl H) hT (Heap.get?_push_size _ rfl) (I.hok.fresh hsz) (nofr _ hsz) hco
/-- lambda x=k: body -/
theorem lam_makeD {T : List (Addr × Str)} {c P : Addr} {params : Arguments} {body : Expr} {scope : Scope} {pos cp : Pos} {k : Int} {j : Nat} {E : Value → Shared → Prop} {Q : Value → Shared → Prop} (I : Inv X pins σ H s) (TB : TabB X.base X.mg c P) (hcode : X.env.code = .ref c)
    (hm : (P, X.env.qual ++ "<lambda>") ∈ T) (hu : ∀ p ∈ T, p.1 = P → p.2 = X.env.qual ++ "<lambda>") (hT : Tabs T H) (hdef : defaultsOf params X.env = ([eval (.Constant (.int k) j cp) X.env], [])) (hfree : ∀ y ∈ scope.names, y.2 = .free → ∃ c, X.env.cells.lookup y.1 = some c)
    (h : ∀ (f c' tu : Addr) (pm ctv : Value) (H1 : Hp) (s' : Shared), Inv X pins σ H1 s' → ExtN H H1 → Tabs T H1 → H1 tu = some (.tup [.int k]) →
      s'.heap.get? f = some (PySem.W.kld_obj "<lambda>" (X.env.qual ++ "<lambda>") params body scope (cloFrom X.env.cells scope.names []) (.ref tu) pm c' ctv) → H1 f = none → f ∉ frs X.stack → H1 c' = some (CodeO c' (X.env.qual ++ "<lambda>")) → Q (.ref f) s') :
    wpAny (model X.prog X.w) X.A (eval (.Lambda params body scope pos) X.env) Q E s := by
  rw [arm_eval_Lambda, hdef]
  show wpAny _ _ (do let dv ← evalAll [eval (.Constant (.int k) j cp) X.env]; let kdv ← holding dv (evalAllOpt []); makeFunction "<lambda>" (X.env.qual ++ "<lambda>") params (.expr body) scope X.env dv kdv [] pos pos.line) Q E s
  refine wpAny_bind (wpAny_evalAll_cons (thn ((pe_int (X := X) (i := k) (j := j) (pos := cp)).run pins s σ H (fun v H' => v = .int k ∧ H' = H) I ⟨rfl, rfl⟩) fun u s1 ⟨v, H1, I1, r1, e1, e2⟩ => wpAny_evalAll_nil ?_))
  subst e1
  rw [e2] at I1
  refine wpAny_bind (wpAny_holding (wpAny_pure ?_))
  rw [makeFunction_eq]
  simp only [List.zip_nil_right, List.filterMap_nil, List.isEmpty_nil, List.isEmpty_cons, if_true, pure_bind, Bool.false_eq_true, if_false]
  refine wpAny_bind (wpAny_newTextTuple ?_)
  have nt : H s1.heap.objs.size = none := I1.hok.fresh (Nat.le_refl _)
  have I2 : Inv X pins σ (upd H s1.heap.objs.size (.tup [.int k])) { s1 with heap := s1.heap.push { cls := .type "tuple", data := .seq [u].toArray } } :=
    I1.laid (t' := s1.toks) (a := s1.heap.objs.size) (o := .tup [.int k]) (fun b u q => Heap.get?_push_of_some _ q) (Nat.le_refl _) ⟨by show 1 ≤ sizeLine; decide, [u], .cons r1 .nil, _, Heap.get?_push_size _ rfl, rfl, _, rfl⟩
  have eH : ∀ b o, H b = some o → upd H s1.heap.objs.size (.tup [.int k]) b = some o := fun b o e => by rw [upd_ne (ne_of_none e nt)]; exact e
  refine lam_tail I2 TB hcode hm hu (hT.ext eH) hfree fun f c' pm ctv H3 s3 I3 hE hT3 ho hn hfr hc => ?_
  have ht : H3 s1.heap.objs.size = some (.tup [.int k]) := hE _ _ upd_same fun ps z => by cases z
  exact h f c' s1.heap.objs.size pm ctv H3 s3 I3 ((ExtN.of eH).trans hE) hT3 ht ho hn hfr hc
end
end LamX
end
section
set_option maxHeartbeats 4000000
namespace LamX
open PySem PySem.Spec PyProof.Rows L2
/-- one parameter with a default, no further name of its own -/
structure LamD (N : List Str) (sc scope : Scope) (px : Str) : Prop where
  kind : scope.kind = .function
  co : scope.isCoroutine = false
  gen : scope.isGenerator = false
  own : ∀ y ∈ scope.names, y.2 ≠ .cell ∧ (y.2 = .local → y.1 ∉ N)
  par : scope.names.lookup px = some .local
  free : ∀ y ∈ scope.names, y.2 = .free → sc.names.lookup y.1 = some .cell ∨ sc.names.lookup y.1 = some .free
def lamDB (N : List Str) (sc scope : Scope) (px : Str) : Bool :=
  decide (scope.kind = .function) && (!scope.isCoroutine && (!scope.isGenerator && (decide (scope.names.lookup px = some .local) &&
    scope.names.all fun y => !decide (y.2 = .cell) && ((!decide (y.2 = .local) || !N.contains y.1) && (!decide (y.2 = .free) || decide (sc.names.lookup y.1 = some .cell) || decide (sc.names.lookup y.1 = some .free))))))
theorem lamD_by {N : List Str} {sc scope : Scope} {px : Str} (h : lamDB N sc scope px = true) : LamD N sc scope px := by
  unfold lamDB at h
  simp only [Bool.and_eq_true, Bool.or_eq_true, Bool.not_eq_true', decide_eq_true_eq, decide_eq_false_iff_not, List.all_eq_true] at h
  obtain ⟨h1, h2, h3, h4, h5⟩ := h
  refine ⟨h1, h2, h3, fun y hy => ⟨(h5 y hy).1, fun e => ?_⟩, h4, fun y hy e => ?_⟩
  · rcases (h5 y hy).2.1 with z | z
    · exact absurd e z
    · intro m
      rw [List.contains_iff_mem.mpr m] at z
      cases z
  · rcases (h5 y hy).2.2 with (z | z) | z
    · exact absurd e z
    · exact .inl z
    · exact .inr z
theorem LamD.has {X : Cx} {scope : Scope} {px : Str} (L : LamD X.N X.env.scope scope px) (ok : X.Ok) : ∀ y ∈ scope.names, y.2 = .free → ∃ c, X.env.cells.lookup y.1 = some c := fun y hy e => by
  rcases L.free y hy e with k | k
  · exact ok.has _ (.inl k)
  · exact ok.has _ (.inr k)
section
variable {X : Cx} {pins : List (Addr × Obj)} {σ : L2.St} {H HZ : Hp} {s s1 : Shared}
theorem lam_startD {A : Around} {outer : List Env} {E : XK} {scope : Scope} {px : Str} {u : Value} {f c' : Addr} {h₁ : Heap} {tk : Nat} (I : Inv X pins σ H s) (L : LamD X.N X.env.scope scope px) (e0 : Env0 X.prog X.w X.K X.mg X.base A outer s1 HZ) (hd : A.handled = none)
    (un : Un (frs X.stack) [] H HZ s.heap s1.heap) (hns : h₁.Ns s1.heap.objs.size fun y => ([(px, u)] : List (Str × Value)).reverse.lookup y) (kp : ∀ b o, s1.heap.get? b = some o → h₁.get? b = some o) :
    Inv (lamCx X A outer s1 HZ E scope f c') [] σ HZ { s1 with heap := h₁, toks := tk } := by
  have hfree := L.has I.ok
  have cm : ∀ {y c}, (cloFrom X.env.cells scope.names []).lookup y = some c → X.env.cells.lookup y = some c := fun {y c} e => by
    rcases cloFrom_mem (PySem.mem_of_lookup e) with hm | ⟨h1, h2⟩
    · cases hm
    · obtain ⟨c1, hc⟩ := hfree _ h1 rfl
      have hc : X.env.cells.lookup y = some c1 := hc
      have e2 : c = c1 := by
        rw [h2, hc] <;> rfl
      rw [e2]
      exact hc
  have look : ∀ {y}, scope.names.lookup y = some .free → ∃ c, (cloFrom X.env.cells scope.names []).lookup y = some c := fun {y} hl => by
    have hy : (y, NameKind.free) ∈ scope.names := PySem.mem_of_lookup hl
    exact mem_lookup (cloFrom_has (cells := X.env.cells) (acc := []) hy)
  have cellK : ∀ {c : Addr} {v : Option Value}, H c = none → s.heap.IsCell c v → h₁.IsCell c v := fun {c v} n ⟨o, ho, hd⟩ => by
    obtain ⟨sl, q⟩ := un.any ho n (by simp)
    exact ⟨_, kp _ _ q, hd⟩
  have noA : ∀ b : Addr, b ∉ (lamCx X A outer s1 HZ E scope f c').ex := fun b z => absurd (show b ∈ ([] : List Addr) from z) (by simp)
  refine ⟨⟨e0.mod, L.kind, rfl, rfl, Nat.le_refl _, fun y z c e1 e2 => I.ok.inj y z c (cm e1) (cm e2), fun y hy => ?_, fun y c z _ => ?_, fun _ => hd, Around.frames_deeper e0.frames, .inr ⟨rfl, rfl⟩, fun b z => absurd z (noA b), e0.bs, e0.bsz, fun b _ _ => noA b,
      fun b z => absurd z (noA b), e0.funs, e0.frf⟩,
    rfl, e0.bare, Un.kept kp, ⟨_, hns, fun i y v e1 e2 e3 => ?_⟩, fun y c e => ?_, e0.hok.fresh (Nat.le_refl _), fun y c e => ?_, fun q hq => absurd (show q ∈ ([] : List (Addr × Obj)) ++ [] from hq) (by simp), e0.hok.kept kp, I.len⟩
  · have hy : scope.names.lookup y = some .cell ∨ scope.names.lookup y = some .free := hy
    rcases hy with hy | hy
    · exact absurd rfl (L.own _ (PySem.mem_of_lookup hy)).1
    · exact look hy
  · have z : false = true := z
    cases z
  · have e3 : Vis scope y := e3
    rcases e3 with k | k | k
    · exact absurd (List.mem_of_getElem? (show X.N[i]? = some y from e1)) ((L.own _ (PySem.mem_of_lookup k)).2 rfl)
    · exact absurd rfl (L.own _ (PySem.mem_of_lookup k)).1
    · obtain ⟨m, hn, hl⟩ := I.loc
      have hvis : Vis X.env.scope y := (L.free _ (PySem.mem_of_lookup k) rfl).elim (fun k => .inr (.inl k)) (fun k => .inr (.inr k))
      obtain ⟨w', r, q⟩ := hl i y v e1 e2 hvis
      obtain ⟨c2, h2⟩ := look k
      refine ⟨w', r, .inr ⟨.inr k, c2, h2, ?_⟩⟩
      have c1 := cm h2
      rcases q with ⟨k', _⟩ | ⟨_, c3, e', z⟩
      · have k' : X.env.scope.names.lookup y = some .local := k'
        rcases L.free _ (PySem.mem_of_lookup k) rfl with k2 | k2 <;> rw [show X.env.scope.names.lookup y = _ from k2] at k' <;> cases k'
      · rw [c1] at e'
        cases e'
        exact cellK (I.freeC y _ c1) z
  · obtain ⟨w', z⟩ := I.cell y c (cm e)
    exact ⟨w', cellK (I.freeC y c (cm e)) z⟩
  · obtain ⟨v, o, ho, hd⟩ := I.cell y c (cm e)
    exact un.free c o ho (I.freeC y c (cm e)) (by simp)
/-- x(), in the def that got the lambda -/
theorem pe_actD {CXg : CXT} {Eg : XK} {Ng : List Str} {qg : Str} {sg : Scope} {g f c' tu : Addr} {px : Str} {kd : Int} {cdg pm ctv : Value} {params : Arguments} {body : Expr} {scope : Scope} {k i : Nat} {a : Str} {pn : List (Addr × Obj)} {xe : Value → Shared → Prop} {W : WX} {E : XK} {tb : TE} {p1 p2 : Pos}
    (I : Inv X pins σ H s) (L : LamD X.N X.env.scope scope px) (hf : s.heap.get? f = some (PySem.W.kld_obj "<lambda>" (X.env.qual ++ "<lambda>") params body scope (cloFrom X.env.cells scope.names []) (.ref tu) pm c' ctv)) (hfn : H f = none) (hfr : f ∉ frs X.stack)
    (hbind : ∀ u : Value, ∃ kf, bindArgs (PySem.W.kld_fn "<lambda>" (X.env.qual ++ "<lambda>") params body scope (cloFrom X.env.cells scope.names []) (.ref tu) pm (.ref c') ctv) ⟨[], []⟩ = seqItems? (.ref tu) >>= kf ∧ kf (some #[u]) = pure [(px, u)])
    (tk : Takes ((cxOf CXg X.prog X.w X.K X.mg X.base Ng qg sg g cdg X.A X.stack s H Eg).tr pn xe) W) (hW : ∀ cls d σ' H', E cls d H' → W cls d σ' H') (hr : Room (k + 1) (X.A.deeper (envOfC qg sg s.heap.objs.size g cdg)))
    (hbody : ∀ (A : Around) (outer : List Env) (s : Shared) (H : Hp), Room k (A.deeper (lamEnv X scope s.heap.objs.size f c')) → PE (lamCx X A outer s H E scope f c') body tb)
    (hN : Ng[i]? = some a) (hv : Vis sg a) (hd : (a == ("__debug__" : Str)) = false := by decide) (hcd : (a == ("__classdict__" : Str)) = false := by decide) :
    PE ((cxOf CXg X.prog X.w X.K X.mg X.base Ng qg sg g cdg X.A X.stack s H Eg).tr pn xe) (.Call (.Name a p1) [] [] p2)
      (fun σZ HZ Q => σZ[i]? = some (some (.ref f)) ∧ HZ c' = some (CodeO c' (X.env.qual ++ "<lambda>")) ∧ (HZ tu = some (.tup [.int kd]) ∧ tb σ HZ Q)) := by
  refine ⟨fun pinsZ sZ σZ HZ Q IZ h => ?_⟩
  obtain ⟨hs, hc, htu, ht⟩ := h
  refine wpAny_Call_Name_kw (thn ((pe_var (pos := p1) (i := i) hN hv hd hcd).run pinsZ sZ σZ HZ (fun v H1 => v = .ref f ∧ H1 = HZ) IZ ⟨.ref f, hs, rfl, rfl⟩) fun u s1 ⟨v, H1, I1, r1, q1⟩ => ?_)
  obtain ⟨ev, eH⟩ := q1
  subst ev
  rw [eH] at I1
  obtain rfl : u = Value.ref f := r1
  have of1 : s1.heap.get? f = some (PySem.W.kld_obj "<lambda>" (X.env.qual ++ "<lambda>") params body scope (cloFrom X.env.cells scope.names []) (.ref tu) pm c' ctv) := I1.base.keep f _ hf hfn hfr (fun z => nomatch (show f ∈ ([] : List Addr) from z))
  refine PySem.W.callWith_F0 ⟨_, _, _, _, of1⟩ ?_
  have un : Un (frs X.stack) [] H HZ s.heap s1.heap := I1.base
  obtain ⟨⟨oc, vs, t, hoc, hdc, hvc⟩, _, _⟩ := I1.hok c' _ hc
  have rc : codeAny (model X.prog X.w) (X.A.deeper (envOfC qg sg s.heap.objs.size g cdg)) (.call (.ref f) ⟨[], []⟩) (CR (L2.CX X.prog X.w) (envOfC qg sg s.heap.objs.size g cdg :: X.stack) X.prog X.w HZ s1 Q E) s1 := by
    refine PySem.W.kla_callFunE hr.depth of1 rfl L.co L.gen rfl ⟨c', oc, vs, t, rfl, hoc, hdc, hvc⟩ ?_
    obtain ⟨its, rv, hT, hz⟩ := I1.tuple (SqT.of htu)
    obtain ⟨ot, hot, _, n, hdt⟩ := hT
    cases rv with
    | @cons _ u _ us ru rn =>
      cases rn
      obtain ⟨kf, hb1, hb2⟩ := hbind u
      refine BindsTo.of_defaults (fd := PySem.W.kld_fn "<lambda>" (X.env.qual ++ "<lambda>") params body scope (cloFrom X.env.cells scope.names []) (.ref tu) pm (.ref c') ctv) (args := ⟨[], []⟩) (o := ot) (items := #[u]) rfl hot hdt hb1 hb2 _ _ _ _ ?_
      refine wpAny_newFunctionEnv (fun y hy => (L.own y hy).1) (fun y hy => ?_) (fun h₁ hns hsb => ⟨I1.nolimit.fresh _ hsb, ?_⟩) L.kind
      · rw [List.mem_singleton.mp hy]
        exact L.par
      show codeAny _ _ (.expr body (lamEnv X scope s1.heap.objs.size f c')) _ _
      have kp : ∀ b o, s1.heap.get? b = some o → h₁.get? b = some o := fun b o e => hsb.extBut b o (Nat.ne_of_lt (Heap.lt_size e)) (Heap.get?_push_of_some _ e)
      have J : Inv (lamCx X (X.A.deeper (envOfC qg sg s.heap.objs.size g cdg)) (envOfC qg sg s.heap.objs.size g cdg :: X.stack) s1 HZ E scope f c') [] σ HZ { s1 with heap := h₁, toks := s1.toks + ([(px, u)] : List (Str × Value)).length } :=
        lam_startD I L I1.env0 hr.hd un hns kp
      refine PySem.W.kla_codeExpr (wpAny_mono ((hbody _ _ s1 HZ (hr.deeper _)).run [] _ _ HZ Q J ht) (fun v s' hq => ?_) fun e s' hq => hq)
      obtain ⟨w', H', J', rv, q⟩ := hq
      exact ⟨w', H', J'.os, J'.bare, J'.base, J'.hok, rv, q⟩
  have hx : Passes (L2.CX X.prog X.w) ((cxOf CXg X.prog X.w X.K X.mg X.base Ng qg sg g cdg X.A X.stack s H Eg).tr pn xe) E := passes_call tk hW
  refine wpAny_call (codeAny_mono rc fun r s' hq => ?_)
  cases r with
  | error e => exact hx pinsZ σZ HZ s1 e s' I1 hq
  | ok fl =>
    cases fl with
    | ret u => exact I1.after hq
    | next => exact False.elim hq
    | brk => exact False.elim hq
    | cont => exact False.elim hq
end
/-- x(lambda y=k: body): T's tables, the tuple of the default -/
def tLamD (T : List (Addr × Str)) (kd : Int) (TT : (XK → Hp → VK → Prop) → Hp → VK → Prop) (t : XK → TE) : TE := fun σ H Q => Tabs T H ∧ ∀ H1 tu, ExtN H H1 → Tabs T H1 → H1 tu = some (.tup [.int kd]) → TT (fun E H' Q' => H' tu = some (.tup [.int kd]) ∧ t E σ H' Q') H1 Q
section
variable {X : Cx}
theorem pe_lamcallD {T : List (Addr × Str)} {TT : (XK → Hp → VK → Prop) → Hp → VK → Prop} {x a px : Str} {g c P : Addr} {k j : Nat} {kd : Int} {pg : Arguments} {bg : List Stmt} {sg : Scope} {dV kV doc pm cdv ct oc : Value} {an od : Option Addr} {osl : Array (Option Value)} {Ng : List Str}
    {params : Arguments} {body : Expr} {scope : Scope} {t : XK → TE} {p lpos cp pos : Pos} (hg : Gl X x) (hm : X.mg x = some (.ref g)) (hk : PySem.W.keepIn X.K (.ref g) = true)
    (lk : X.K.lookup g = some ⟨oc, od, .func (PySem.W.fnOf x x pg bg sg dV kV doc pm an cdv ct), osl⟩) (hcg : PySem.W.codeIn X.K cdv x = true) (hb : L2.Binds X.K (PySem.W.fnOf x x pg bg sg dV kV doc pm an cdv ct) [a] []) (Sg : FnScope Ng [a] sg) (hNg : Ng[0]? = some a) (hva : Vis sg a)
    (hG : GivesTo X Ng x sg g cdv bg a (X.env.qual ++ "<lambda>") TT)
    (TB : TabB X.base X.mg c P) (hcode : X.env.code = .ref c) (hmT : (P, X.env.qual ++ "<lambda>") ∈ T) (hu : ∀ p ∈ T, p.1 = P → p.2 = X.env.qual ++ "<lambda>") (hr : Room (k + 2) X.A) (L : LamD X.N X.env.scope scope px) (hdef : defaultsOf params X.env = ([eval (.Constant (.int kd) j cp) X.env], []))
    (hbind : ∀ (q : Str) (cl : List (Str × Addr)) (tu : Addr) (pm cv ctv u : Value), ∃ kf, bindArgs (PySem.W.kld_fn "<lambda>" q params body scope cl (.ref tu) pm cv ctv) ⟨[], []⟩ = seqItems? (.ref tu) >>= kf ∧ kf (some #[u]) = pure [(px, u)])
    (hbody : ∀ (A : Around) (outer : List Env) (s : Shared) (H : Hp) (E : XK) (f c' : Addr), Room k (A.deeper (lamEnv X scope s.heap.objs.size f c')) → PE (lamCx X A outer s H E scope f c') body (t E))
    (hdb : (x == ("__debug__" : Str)) = false := by decide) (hd : (a == ("__debug__" : Str)) = false := by decide) (hcd : (a == ("__classdict__" : Str)) = false := by decide) :
    PE X (.Call (.Name x p) [.Lambda params body scope lpos] [] pos) (tLamD T kd TT t) := by
  refine ⟨fun pins s σ H Q I h => ?_⟩
  obtain ⟨hT, h⟩ := h
  refine wpAny_Call_Name_kw (ld_glob I hg hm ?_ hdb)
  refine PySem.W.callWith_K (h₀ := X.base) I.ok.mod.kin hk ?_ (by rfl) (by rfl)
  show wpAny _ _ (spliced ((false, eval (.Lambda params body scope lpos) X.env) :: backTo pos (starEach [] X.env))) _ _ s
  refine Calls.spliced_cons (lam_makeD I TB hcode hmT hu hT hdef (L.has I.ok) fun f c' tu pm' ctv H1 s' I1 eN T1 htu hf hfn hfr hco => ?_)
  refine Calls.spliced_nil ⟨I1.kIn, ?_⟩
  have rc : codeAny (model X.prog X.w) X.A (.call (.ref g) ⟨[.ref f], []⟩) (CR C8.CX0 X.stack X.prog X.w H1 s' Q C8.E0) s' := by
    refine run_ofS (N := Ng) (ps := [a]) (us := [.ref f]) (vs := [.ref f]) lk hcg Sg hr I1.env0 (hb s' [.ref f] I1.kIn rfl) (.cons rfl .nil) rfl fun hr' => ?_
    obtain ⟨t', ht', hq'⟩ := hG f c' s' H1 Q (fun E H' Q' => H' tu = some (.tup [.int kd]) ∧ t E σ H' Q') (fun W pn xe E p1 p2 tk hW => pe_actD (i := 0) I1 L hf hfn hfr (fun u => hbind _ _ _ _ _ _ u) tk hW hr' (fun A outer s H hr2 => hbody A outer s H E f c' hr2) hNg hva hd hcd) hco (h H1 tu eN T1 htu)
    exact ⟨t', ht'.nox, hq'⟩
  refine wpAny_call (codeAny_mono rc fun r s2 hq => ?_)
  cases r with
  | error e => exact (show False from hq).elim
  | ok fl =>
    cases fl with
    | ret u => exact I1.after hq
    | next => exact False.elim hq
    | brk => exact False.elim hq
    | cont => exact False.elim hq
end
end LamX
end
section
set_option maxHeartbeats 4000000
namespace Kx
open PySem PySem.Spec PyProof.Rows L2
/-! ### the errors -/
/-- what an own __init__ of n parameters leaves: fs of the values -/
def spIn (C : Addr) (n : Nat) (fs : List V → List (Str × V)) : Sp := fun vs H Q _ => ∃ (a : Addr) (ws : List V), vs = .ref a :: ws ∧ ws.length = n ∧ H a = some (exo a C none) ∧
  ∀ e H', e ≠ a → H e = none → H' a = some (exo a C (some e)) → H' e = some (exd e (fs ws)) → free3 H H' a e → Q .non H'
/-- one value -/
def fs1 (nm at_ : Str) (ws : List V) : List (Str × V) := match ws with
  | [v] => [(at_, v), ("code", .str nm)]
  | _ => []
/-- two values -/
def fs2 (nm at1 at2 : Str) (ws : List V) : List (Str × V) := match ws with
  | [v, u] => [(at2, u), (at1, v), ("code", .str nm)]
  | _ => []
/-- what stands of such a class: it may be made, its __init__ keeps its promise -/
structure ErrC (P : Program) (w : World) (K : PySem.W.Frag) (mg : Str → Option Value) (base : Heap) (nm : Str) (n : Nat) (fs : List V → List (Str × V)) (C : Addr) : Prop where
  T : XC K C
  ty : PySem.W.typeIn K (.ref C) = some (.type "type")
  m : mg nm = some (.ref C)
  i : ∃ (fI : Addr) (fd : FuncData) (ps : List Str), PySem.W.findIn K (.ref C) "__init__" = some (some (.ref fI)) ∧ PySem.W.isFn K (.ref fI) = true ∧ FnOk P w K mg base CX0 1 fI fd ps (spIn C n fs) ∧ Binds K fd ps []
/-- such an error is in the air -/
def Air (H : Hp) (C : Addr) (fs : List (Str × V)) (E : XK) : Prop := ∀ d H', Same H H' → H d = none → H' d = some (.xd fs) → E (.ref C) (some d) H'
theorem Air.same {H H' : Hp} {C : Addr} {fs : List (Str × V)} {E : XK} (h : Air H C fs E) (s : Same H H') : Air H' C fs E := fun d H2 s2 n e => h d H2 (s.trans s2) (s.free n) e
/-- one is made: from the promise of its __init__ -/
theorem air_of {H : Hp} {a C : Addr} {n : Nat} {fs : List V → List (Str × V)} {ws : List V} {E : XK} (hn : H a = none) (l : ws.length = n) (h : Air H C (fs ws) E) :
    spIn C n fs (.ref a :: (ws ++ [])) (upd H a (exo a C none)) (fun v H2 => v = .non ∧ ∃ (d : Addr) (gs : List (Str × V)), H2 a = some (exo a C (some d)) ∧ H2 d = some (exd d gs) ∧ H d = none ∧ E (.ref C) (some d) (upd (del H2 a) d (.xd gs))) (fun _ _ _ => False) := by
  refine ⟨a, ws, by rw [List.append_nil], l, upd_same, fun e H' ne he h1 h2 h3 => ⟨rfl, e, _, h1, h2, ?_, ?_⟩⟩
  · rw [upd_ne ne] at he
    exact he
  · have he' : H e = none := by rw [upd_ne ne] at he; exact he
    refine h e _ (fun b o hb => ?_) he' upd_same
    have b1 : b ≠ a := fun z => by rw [z, hn] at hb; cases hb
    have b2 : b ≠ e := fun z => by rw [z, he'] at hb; cases hb
    rw [upd_ne b2, del_ne b1, h3 b b1 b2, upd_ne b1]
    exact hb
section
variable {P : Program} {w : World} {K : PySem.W.Frag} {mg : Str → Option Value} {base : Heap} {f C : Addr} {fd : FuncData}
theorem scI2 : FnScope ["self", "at"] ["self", "at"] (defScope C_InvalidFraction_init) := ⟨rfl, rfl, rfl, by decide +kernel, rfl, by decide +kernel, by decide +kernel⟩
theorem scI3 : FnScope ["self", "value"] ["self", "value"] (defScope C_InvalidOrder_init) := ⟨rfl, rfl, rfl, by decide +kernel, rfl, by decide +kernel, by decide +kernel⟩
theorem scI4 : FnScope ["self", "have", "wanted"] ["self", "have", "wanted"] (defScope C_OrderTooLow_init) := ⟨rfl, rfl, rfl, by decide +kernel, rfl, by decide +kernel, by decide +kernel⟩
theorem scI5 : FnScope ["self", "one", "other"] ["self", "one", "other"] (defScope C_UnlikeOrders_init) := ⟨rfl, rfl, rfl, by decide +kernel, rfl, by decide +kernel, by decide +kernel⟩
theorem scI6 : FnScope ["self", "value"] ["self", "value"] (defScope C_InvalidPlace_init) := ⟨rfl, rfl, rfl, by decide +kernel, rfl, by decide +kernel, by decide +kernel⟩
theorem init_2 (F : Fun K "__init__" "InvalidFraction.__init__" C_InvalidFraction_init f fd) (T : XC K C) (n0 : PySem.W.findIn K (.ref C) "code" = some none) (n1 : PySem.W.findIn K (.ref C) "at" = some none) : FnOk P w K mg base CX0 1 f fd ["self", "at"] (spIn C 1 (fs1 "InvalidFraction" "at")) := by
  refine F.ok scI2 (fun vs H Q E h => ?_) (fun cdv A outer s H vs Q E hr h => ?_)
  · obtain ⟨a, ws, rfl, l, _⟩ := h
    exact congrArg Nat.succ l
  obtain ⟨a, ws, rfl, l, ha, q⟩ := h
  obtain ⟨v, rfl⟩ : ∃ v, ws = [v] := by match ws, l with | [v], _ => exact ⟨v, rfl⟩
  refine ⟨_, pss_cons (ps_xst (pv 0) pe_str) (pss_one (ps_xst (pv 0) (pv 1))), ?_⟩
  refine ⟨_, rfl, a, _, rfl, T, n0, .inl ⟨ha, fun e H1 ne he h1 h2 h3 => ?_⟩⟩
  refine ⟨_, rfl, _, rfl, a, _, rfl, T, n1, .inr ⟨e, _, h1, h2, (by show 1 ≤ 900; decide), ?_⟩⟩
  exact q e _ ne he (by rw [upd_ne (Ne.symm ne)]; exact h1) (by rw [upd_same]; rfl) (fun b b1 b2 => by rw [upd_ne b2]; exact h3 b b1 b2)
theorem init_3 (F : Fun K "__init__" "InvalidOrder.__init__" C_InvalidOrder_init f fd) (T : XC K C) (n0 : PySem.W.findIn K (.ref C) "code" = some none) (n1 : PySem.W.findIn K (.ref C) "value" = some none) : FnOk P w K mg base CX0 1 f fd ["self", "value"] (spIn C 1 (fs1 "InvalidOrder" "value")) := by
  refine F.ok scI3 (fun vs H Q E h => ?_) (fun cdv A outer s H vs Q E hr h => ?_)
  · obtain ⟨a, ws, rfl, l, _⟩ := h
    exact congrArg Nat.succ l
  obtain ⟨a, ws, rfl, l, ha, q⟩ := h
  obtain ⟨v, rfl⟩ : ∃ v, ws = [v] := by match ws, l with | [v], _ => exact ⟨v, rfl⟩
  refine ⟨_, pss_cons (ps_xst (pv 0) pe_str) (pss_one (ps_xst (pv 0) (pv 1))), ?_⟩
  refine ⟨_, rfl, a, _, rfl, T, n0, .inl ⟨ha, fun e H1 ne he h1 h2 h3 => ?_⟩⟩
  refine ⟨_, rfl, _, rfl, a, _, rfl, T, n1, .inr ⟨e, _, h1, h2, (by show 1 ≤ 900; decide), ?_⟩⟩
  exact q e _ ne he (by rw [upd_ne (Ne.symm ne)]; exact h1) (by rw [upd_same]; rfl) (fun b b1 b2 => by rw [upd_ne b2]; exact h3 b b1 b2)
theorem init_6 (F : Fun K "__init__" "InvalidPlace.__init__" C_InvalidPlace_init f fd) (T : XC K C) (n0 : PySem.W.findIn K (.ref C) "code" = some none) (n1 : PySem.W.findIn K (.ref C) "value" = some none) : FnOk P w K mg base CX0 1 f fd ["self", "value"] (spIn C 1 (fs1 "InvalidPlace" "value")) := by
  refine F.ok scI6 (fun vs H Q E h => ?_) (fun cdv A outer s H vs Q E hr h => ?_)
  · obtain ⟨a, ws, rfl, l, _⟩ := h
    exact congrArg Nat.succ l
  obtain ⟨a, ws, rfl, l, ha, q⟩ := h
  obtain ⟨v, rfl⟩ : ∃ v, ws = [v] := by match ws, l with | [v], _ => exact ⟨v, rfl⟩
  refine ⟨_, pss_cons (ps_xst (pv 0) pe_str) (pss_one (ps_xst (pv 0) (pv 1))), ?_⟩
  refine ⟨_, rfl, a, _, rfl, T, n0, .inl ⟨ha, fun e H1 ne he h1 h2 h3 => ?_⟩⟩
  refine ⟨_, rfl, _, rfl, a, _, rfl, T, n1, .inr ⟨e, _, h1, h2, (by show 1 ≤ 900; decide), ?_⟩⟩
  exact q e _ ne he (by rw [upd_ne (Ne.symm ne)]; exact h1) (by rw [upd_same]; rfl) (fun b b1 b2 => by rw [upd_ne b2]; exact h3 b b1 b2)
theorem init_4 (F : Fun K "__init__" "OrderTooLow.__init__" C_OrderTooLow_init f fd) (T : XC K C) (n0 : PySem.W.findIn K (.ref C) "code" = some none) (n1 : PySem.W.findIn K (.ref C) "have" = some none) (n2 : PySem.W.findIn K (.ref C) "wanted" = some none) : FnOk P w K mg base CX0 1 f fd ["self", "have", "wanted"] (spIn C 2 (fs2 "OrderTooLow" "have" "wanted")) := by
  refine F.ok scI4 (fun vs H Q E h => ?_) (fun cdv A outer s H vs Q E hr h => ?_)
  · obtain ⟨a, ws, rfl, l, _⟩ := h
    exact congrArg Nat.succ l
  obtain ⟨a, ws, rfl, l, ha, q⟩ := h
  obtain ⟨v, u, rfl⟩ : ∃ v u, ws = [v, u] := by match ws, l with | [v, u], _ => exact ⟨v, u, rfl⟩
  refine ⟨_, pss_cons (ps_xst (pv 0) pe_str) (pss_cons (ps_xst (pv 0) (pv 1)) (pss_one (ps_xst (pv 0) (pv 2)))), ?_⟩
  refine ⟨_, rfl, a, _, rfl, T, n0, .inl ⟨ha, fun e H1 ne he h1 h2 h3 => ?_⟩⟩
  refine ⟨_, rfl, _, rfl, a, _, rfl, T, n1, .inr ⟨e, _, h1, h2, (by show 1 ≤ 900; decide), ?_⟩⟩
  refine ⟨_, rfl, _, rfl, a, _, rfl, T, n2, .inr ⟨e, _, (by rw [upd_ne (Ne.symm ne)]; exact h1), upd_same, (by show 2 ≤ 900; decide), ?_⟩⟩
  exact q e _ ne he (by rw [upd_ne (Ne.symm ne), upd_ne (Ne.symm ne)]; exact h1) (by rw [upd_same]; rfl) (fun b b1 b2 => by rw [upd_ne b2, upd_ne b2]; exact h3 b b1 b2)
theorem init_5 (F : Fun K "__init__" "UnlikeOrders.__init__" C_UnlikeOrders_init f fd) (T : XC K C) (n0 : PySem.W.findIn K (.ref C) "code" = some none) (n1 : PySem.W.findIn K (.ref C) "one" = some none) (n2 : PySem.W.findIn K (.ref C) "other" = some none) : FnOk P w K mg base CX0 1 f fd ["self", "one", "other"] (spIn C 2 (fs2 "UnlikeOrders" "one" "other")) := by
  refine F.ok scI5 (fun vs H Q E h => ?_) (fun cdv A outer s H vs Q E hr h => ?_)
  · obtain ⟨a, ws, rfl, l, _⟩ := h
    exact congrArg Nat.succ l
  obtain ⟨a, ws, rfl, l, ha, q⟩ := h
  obtain ⟨v, u, rfl⟩ : ∃ v u, ws = [v, u] := by match ws, l with | [v, u], _ => exact ⟨v, u, rfl⟩
  refine ⟨_, pss_cons (ps_xst (pv 0) pe_str) (pss_cons (ps_xst (pv 0) (pv 1)) (pss_one (ps_xst (pv 0) (pv 2)))), ?_⟩
  refine ⟨_, rfl, a, _, rfl, T, n0, .inl ⟨ha, fun e H1 ne he h1 h2 h3 => ?_⟩⟩
  refine ⟨_, rfl, _, rfl, a, _, rfl, T, n1, .inr ⟨e, _, h1, h2, (by show 1 ≤ 900; decide), ?_⟩⟩
  refine ⟨_, rfl, _, rfl, a, _, rfl, T, n2, .inr ⟨e, _, (by rw [upd_ne (Ne.symm ne)]; exact h1), upd_same, (by show 2 ≤ 900; decide), ?_⟩⟩
  exact q e _ ne he (by rw [upd_ne (Ne.symm ne), upd_ne (Ne.symm ne)]; exact h1) (by rw [upd_same]; rfl) (fun b b1 b2 => by rw [upd_ne b2, upd_ne b2]; exact h3 b b1 b2)
end
end Kx
end
section
set_option maxHeartbeats 4000000
/-! enumerate over a tuple -/
namespace PySem
open Sem (wp)
open AutoSeq1 (wpAny_loadPart')
theorem meets_enumerate_newT (l : Addr) (items : Array Value) (n : Nat) (dct : Option Addr) (sl : Array (Option Value)) :
    Meets (Builtin.«enumerate.__new__» ⟨[.type "enumerate", .ref l], []⟩) (fun _ R s => s.heap.get? l = some { cls := .type "tuple", dict := dct, data := .seq items n, slots := sl } ∧
      R (.ok (.ret (.ref (s.heap.push { cls := .type "tuple_iterator", data := .fields #[.ref l, .int 0 0] }).objs.size)))
        { s with heap := (s.heap.push { cls := .type "tuple_iterator", data := .fields #[.ref l, .int 0 0] }).push { cls := .type "enumerate", data := .fields #[.none, .bool false, .ref s.heap.objs.size, rawInt 0, .none, .none] } }) :=
  .of_wp fun prog w A R s h => by
    obtain ⟨hp, g, d, tk, os⟩ := s; obtain ⟨hl, h⟩ := h
    have hsub := sub_enumerate
    have hL : Heap.IsTuple (Shared.heap ⟨hp, g, d, tk, os⟩) l items := ⟨_, hl, rfl, n, rfl⟩
    wp_walk using wpAny_loadPart' hl
    refine wpAny_stack_any fun st => wpAny_pure ?_
    split
    · rename_i c _ _ _ _ _
      cases (c == Value.type "enumerate")
      · wp_walk using wpAny_loadPart' hl, wpAny_pyIter_tuple hL
        exact ⟨_, rfl, h⟩
      · wp_walk using wpAny_loadPart' hl, wpAny_pyIter_tuple hL
        exact ⟨_, rfl, h⟩
    · wp_walk using wpAny_loadPart' hl, wpAny_pyIter_tuple hL
      exact ⟨_, rfl, h⟩
section
variable {prog : Program} {w : World} {A : Around} {E : Value → Shared → Prop} {s : Shared}
theorem call_enumerate_tup {l : Addr} {items : Array Value} {Q : Value → Shared → Prop} (hL : s.heap.IsTuple l items)
    (h : ∀ h', IsEnum h' (s.heap.objs.size + 1) s.heap.objs.size 0 .none → h'.IsTupleIter s.heap.objs.size l 0 → h'.objs.size = s.heap.objs.size + 2 →
      (∀ b o, s.heap.get? b = some o → h'.get? b = some o) → Q (.ref (s.heap.objs.size + 1)) { s with heap := h' }) :
    wpAny (model prog w) A (call (.type "enumerate") [.ref l]) Q E s := by
  obtain ⟨⟨c, dct, dt, sl⟩, hl, hc, n, hd⟩ := hL
  replace hc : c = .type "tuple" := hc
  replace hd : dt = .seq items n := hd
  subst hc hd
  refine callType_new F.called_enumerate (by decide) (F.typeCall_enumerate_1 _) (F.newCall_enumerate_1 _) (fun obj => F.args_object_init_2 obj _) F.entry_enumerate_new
    (meets_enumerate_newT l items n dct sl) ⟨hl, ?_⟩
  have hz : (s.heap.push { cls := .type "tuple_iterator", data := .fields #[.ref l, .int 0 0] }).objs.size = s.heap.objs.size + 1 := Heap.size_push ..
  show _ ∧ _
  rw [hz]
  have he : IsEnum ((s.heap.push { cls := .type "tuple_iterator", data := .fields #[.ref l, .int 0 0] }).push
      { cls := .type "enumerate", data := .fields #[.none, .bool false, .ref s.heap.objs.size, rawInt 0, .none, .none] }) (s.heap.objs.size + 1) s.heap.objs.size 0 .none := by
    have := Heap.get?_push_size (s.heap.push { cls := .type "tuple_iterator", data := .fields #[.ref l, .int 0 0] })
      (o := { cls := .type "enumerate", data := .fields #[.none, .bool false, .ref s.heap.objs.size, rawInt 0, .none, .none] }) rfl
    rw [hz] at this; exact this
  refine ⟨⟨_, he, rfl⟩, h _ he ⟨_, Heap.get?_push_of_some _ (Heap.get?_push_size _ rfl), rfl, rfl⟩ (by rw [Heap.size_push, hz]) fun b o x => Heap.get?_push_of_some _ (Heap.get?_push_of_some _ x)⟩
theorem wpAny_pyNext_enum_endT {e it l : Addr} {i : Nat} {items : Array Value} {old : Value} {Q : Option Value → Shared → Prop} (hh : A.handled = none)
    (he : IsEnum s.heap e it i old) (hit : s.heap.IsTupleIter it l i) (hl : s.heap.IsTuple l items) (hx : items[i]? = none)
    (hQ : ∀ h', Heap.ExtBut it s.heap h' → Q none { s with heap := h' }) : wpAny (model prog w) A (pyNext (.ref e)) Q E s := by
  have hT : s.TypeIs (.ref e) "enumerate" := ⟨_, he, rfl⟩
  unfold pyNext
  refine wpAny_bind (wpAny_attempt (wpAny_callSpecial?_slot (name := Str.ofString "__next__") hT F.slot_enumerate_next
    (wpAny_call_entry F.slot_enumerate_next hT F.entry_enumerate_next ?_ (F.args_enumerate_next_1 _))))
  show wpAny _ _ (field (.ref e) 2 >>= _) _ _ _
  refine wpAny_bind (wpAny_field he rfl (x := .ref it) rfl ?_)
  refine wpAny_bind (wpAny_nextOf_tuple_end hh hit hl hx fun h' x he' hx' => ?_)
  obtain ⟨o, ho, hc⟩ := hx'
  refine wpAny_bind (wpAny_isInstance (T := "StopIteration") (b := true) ⟨o, ho, hc⟩ isSubtype_stop ?_)
  exact wpAny_pure (hQ _ he')
end
end PySem
namespace L2
open PySem PySem.Spec PyProof.Rows
/-- the tuple at a as it stands at each turn, each item in a new pair -/
def IteT (K : PySem.W.Frag) (a : Addr) : It :=
  ⟨fun i H => ∃ (xs : List V) (x : V), SqT K H a xs ∧ xs[i]? = some x, fun i H v H' => ∃ T x, v = .ref T ∧ H T = none ∧ H' = upd H T (.tup [.int (i : Nat), x]) ∧ ∀ xs, SqT K H a xs → xs[i]? = some x, fun i H => ∃ xs : List V, SqT K H a xs ∧ xs.length ≤ i⟩
theorem turn_enumT {P : Program} {w : World} {K : PySem.W.Frag} {elts : List Expr} {kk : Nat} {tpos : Pos} (a e it : Addr) (hai : a ≠ it) :
    Turn P w K (.Tuple elts kk tpos) (IteT K a) [e, it] e (fun i h => (∃ old, IsEnum h e it ((i : Nat) : Int) old) ∧ h.IsTupleIter it a i ∧ e ≠ it ∧ e ≠ a) where
  mem := by simp
  obj := fun i h st b hb => by
    obtain ⟨⟨old, he⟩, ⟨o, ho, hc, hd⟩, _⟩ := st
    have e' : b = e ∨ b = it := by simpa using hb
    rcases e' with z | z
    · rw [z]; exact ⟨_, he, fun v q => nomatch q⟩
    · rw [z]; exact ⟨o, ho, fun v q => by rw [hd] at q; cases q⟩
  keep := fun i h h' st k => let ⟨⟨old, he⟩, hi, hne⟩ := st; ⟨⟨old, k e (by simp) _ he⟩, hi.at fun o q => k it (by simp) o q, hne⟩
  item := by
    intro X hP hw hK hc i pins s σ H E I hf st hg
    subst hP hw hK
    obtain ⟨⟨old, he⟩, hit, hne, hna⟩ := st
    obtain ⟨xs, x, hq, hx⟩ := hg
    obtain ⟨its, rv, p, hz⟩ := I.tuple hq
    obtain ⟨u, hu, ru⟩ := rv.get hx
    have hel : e < s.heap.objs.size := Heap.lt_size he
    have hil : it < s.heap.objs.size := by obtain ⟨_, q, _⟩ := hit; exact Heap.lt_size q
    have hsz0 : i < its.toArray.size := by
      have := (List.getElem?_eq_some_iff.mp hu).1
      simpa using this
    refine wpAny_pyNext_enum_itemD (Draws.tuple (prog := X.prog) (w := X.w) (A := X.A.in1) (I.ok.hd hc) it a hai its.toArray) he ⟨hit, p⟩ hsz0 hne (by simp [hne, hna]) fun x' h' tk hx' ho hit' hT hsz hk => ?_
    have ex : x' = u := by
      have h2 : its.toArray[i]? = some u := by simpa using hu
      rw [h2] at hx'
      exact (Option.some.inj hx').symm
    subst ex
    refine ⟨_, rfl, wpAny_letOwnedTupleGo_enum (s := { s with heap := h', toks := tk + 1 }) ho fun h'' he' sb => ?_⟩
    have hT2 : h''.get? s.heap.objs.size = some { cls := .type "tuple", data := .seq #[.int i tk, x'] } := (sb.2 _ (Nat.ne_of_gt hel)).trans hT
    have new : ObjOk X.prog X.w (upd H s.heap.objs.size (.tup [.int (i : Nat), x])) h'' s.heap.objs.size (.tup [.int (i : Nat), x]) :=
      ⟨by show 2 ≤ sizeLine; decide, [.int i tk, x'], .cons ⟨_, rfl⟩ (.cons ru .nil), ⟨_, hT2, rfl, _, rfl⟩⟩
    have I1 : Inv X pins σ (upd H s.heap.objs.size (.tup [.int (i : Nat), x])) { s with heap := h'', toks := tk + 1 } :=
      I.turnedNew (ch := [e, it]) (fun b ob hb q => (sb.2 b (fun z => hb (by simp [z]))).trans (hk b ob (fun z => hb (by simp [z])) (fun z => hb (by simp [z])) q)) hf (Nat.le_refl _) new
    refine ⟨.ref s.heap.objs.size, _, I1, rfl, ⟨_, x, rfl, I.hok.fresh (Nat.le_refl _), rfl, fun ys hy => by rw [I.tuple_inj hy hq]; exact hx⟩, ⟨⟨x', ?_⟩, hit'.1.at fun o q => (sb.2 it (Ne.symm hne)).trans q, hne, hna⟩, fun b hb => ?_⟩
    · have e1 : ((i + 1 : Nat) : Int) = (i : Int) + 1 := by omega
      rw [e1]; exact he'
    · have hb' : b < s.heap.objs.size := by
        have e' : b = e ∨ b = it := by simpa using hb
        rcases e' with z | z
        · rw [z]; exact hel
        · rw [z]; exact hil
      rw [upd_ne (Nat.ne_of_lt hb')]
      exact (hf b hb).1
  done := by
    intro X hP hw hK hc i pins s σ H E I hf st hg
    subst hP hw hK
    obtain ⟨⟨old, he⟩, hit, hne, hna⟩ := st
    obtain ⟨xs, hq, hx⟩ := hg
    obtain ⟨its, rv, p, hz⟩ := I.tuple hq
    obtain ⟨f0, f1, f2, f3, f4, f5⟩ := hf it (by simp)
    have hl := rv.length
    have D := Draws.tuple (prog := X.prog) (w := X.w) (A := X.A.in1) (I.ok.hd hc) it a hai its.toArray
    refine wpAny_pyNext_enum_endT (I.ok.hd hc) he hit p (by simp; omega) fun h' eb => ⟨rfl, I.turned (t' := s.toks) (fun b o hb q => eb b o hb q) f0 f1 f3 f4 f5⟩
  self := fun A i s Q E st h => let ⟨⟨_, he⟩, _⟩ := st; wpAny_pyIter_enum he h
/-- a list or a tuple -/
def iEnumA (K : PySem.W.Frag) (ta : TA) : TI := fun σ H R => ta σ H fun vs H1 => ∃ a xs, vs = [.ref a] ∧ ((SqL K H1 a xs ∧ R (Ite K a) H1) ∨ (SqT K H1 a xs ∧ R (IteT K a) H1))
theorem pi_enumA {X : Cx} {e : Expr} {ta : TA} {p pos tpos : Pos} {elts : List Expr} {kk : Nat} (hg : Gl X "enumerate") (hm : X.mg "enumerate" = none) (ha : PA X [e] ta) (hs : starEach [e] X.env = [(false, eval e X.env)] := by rfl) :
    PI X (.Tuple elts kk tpos) (.Call (.Name "enumerate" p) [e] [] pos) (iEnumA X.K ta) := by
  refine ⟨fun pins s σ H R I h => ?_⟩
  refine Call_ (ld_blt I hg hm boot_enumerate (PyProof.Rows.callWith_type1 (thn (ha.run pos pins s σ H _ I h) fun us s1 ⟨vs, H1, I1, r1, q1⟩ => ?_) hs rfl))
  obtain ⟨a, xs, ex, hq⟩ := q1
  subst ex
  cases r1 with
  | cons r rr =>
    cases rr
    cases r
    rcases hq with ⟨hq, q⟩ | ⟨hq, q⟩
    · obtain ⟨its, rv, p', hz⟩ := I1.list hq
      refine call_enumerate_list p'.isList fun h' he hit hsz hk => wpAny_pyIter_enum he ?_
      have I2 : Inv X pins σ H1 { s1 with heap := h' } := I1.kept (t' := s1.toks) hk
      refine ⟨s1.heap.objs.size + 1, [s1.heap.objs.size + 1, s1.heap.objs.size], _, _, H1, rfl, I2, turn_enum a (s1.heap.objs.size + 1) s1.heap.objs.size, ⟨⟨.none, he⟩, hit, Nat.succ_ne_self _⟩, fun b hb => ?_, q⟩
      have e' : b = s1.heap.objs.size + 1 ∨ b = s1.heap.objs.size := by simpa using hb
      have hle : s1.heap.objs.size ≤ b := by
        rcases e' with z | z
        · rw [z]; exact Nat.le_add_right _ _
        · rw [z]; exact Nat.le_refl _
      exact I1.fpOk hle (I1.hok.fresh hle)
    · obtain ⟨its, rv, p', hz⟩ := I1.tuple hq
      have hal : a < s1.heap.objs.size := by
        obtain ⟨o, ho, _⟩ := p'
        exact Heap.lt_size ho
      refine call_enumerate_tup p' fun h' he hit hsz hk => wpAny_pyIter_enum he ?_
      have I2 : Inv X pins σ H1 { s1 with heap := h' } := I1.kept (t' := s1.toks) hk
      refine ⟨s1.heap.objs.size + 1, [s1.heap.objs.size + 1, s1.heap.objs.size], _, _, H1, rfl, I2, turn_enumT a (s1.heap.objs.size + 1) s1.heap.objs.size (Nat.ne_of_lt hal), ⟨⟨.none, he⟩, hit, Nat.succ_ne_self _, Nat.ne_of_gt (Nat.lt_succ_of_lt hal)⟩, fun b hb => ?_, q⟩
      have e' : b = s1.heap.objs.size + 1 ∨ b = s1.heap.objs.size := by simpa using hb
      have hle : s1.heap.objs.size ≤ b := by
        rcases e' with z | z
        · rw [z]; exact Nat.le_add_right _ _
        · rw [z]; exact Nat.le_refl _
      exact I1.fpOk hle (I1.hok.fresh hle)
theorem walk_enumT {K : PySem.W.Frag} {a : Addr} {xs : List V} : Walk (IteT K a) xs.length (fun H => SqT K H a xs) (YPair (fun i => some (.int (i : Nat))) (fun i => xs[i]?)) := by
  refine ⟨fun i _ hi q => ⟨xs, xs[i], q, by simp [hi]⟩, fun _ q => ⟨xs, q, Nat.le_refl _⟩, fun i H v H' _ q y => ?_⟩
  obtain ⟨T, x, h1, h2, h3, h4⟩ := y
  exact ⟨T, .int (i : Nat), x, h1, h2, h3, rfl, h4 xs q⟩
end L2
end
section
set_option maxHeartbeats 4000000
namespace Kx
open PySem PySem.Spec PyProof.Rows L2 RZ
theorem rel_ty (n : String) : RelV (.ty n) (.type n) := rfl
theorem kb_l : kitB "list" "list" = some true ∧ kitB "list" "tuple" = some false ∧ kitB "tuple" "list" = some false ∧ kitB "tuple" "tuple" = some true := by decide +kernel
theorem kit2 {K : PySem.W.Frag} {s : String} {a b r : Bool} (h1 : kitB s "list" = some a) (h2 : kitB s "tuple" = some b) (hr : r = (a || b)) : PySem.W.kitAny K (.type s) [.type "list", .type "tuple"] = some r := by
  subst hr
  refine kitAny_cons (kit_ty h1) (fun ha => ?_) (fun ha => by rw [ha]; rfl)
  subst ha
  refine kitAny_cons (kit_ty h2) (fun hb => by rw [hb]; exact kitAny_nil) (fun hb => by rw [hb]; rfl)
theorem isi_at {X : Cx} (K : PySem.W.Frag) (h : X.K = K) : CallR X (.builtin "isinstance") (rIsi K) := by
  subst h
  exact call_isi
def WhV (K : PySem.W.Frag) (H : Hp) (v : V) (b : Bool) : Prop := ∀ H', Same H H' → ∃ (T : Value) (x y : Bool), TyX K H' v T ∧ PySem.W.kitOne K T (.type "int") = some x ∧ PySem.W.kitOne K T (.type "bool") = some y ∧ b = (x && !y)
theorem WhV.same {K : PySem.W.Frag} {H H' : Hp} {v : V} {b : Bool} (h : WhV K H v b) (s : Same H H') : WhV K H' v b := fun H2 s2 => h H2 (s.trans s2)
def spWhole (K : PySem.W.Frag) : Sp := fun vs H Q _ => ∃ (v : V) (b : Bool), vs = [v] ∧ WhV K H v b ∧ Q (.bl b) H
theorem kb_int : kitB "int" "int" = some true ∧ kitB "int" "bool" = some false := by decide +kernel
theorem wh_int {K : PySem.W.Frag} {H : Hp} (i : Int) : WhV K H (.int i) true := fun _ _ => ⟨.type "int", true, false, .base (.int i), kit_ty kb_int.1, kit_ty kb_int.2, rfl⟩
/-- is v a fraction: r; v may stand in the module, too -/
def IsG (K : PySem.W.Frag) (H : Hp) (v : V) (r : Bool) : Prop :=
  (∃ T, TyX K H v T ∧ PySem.W.kitOne K T (.type "tuple") = some false ∧ r = false) ∨
  (∃ a xs, v = .ref a ∧ SqT K H a xs ∧ TyX K H (.ref a) (.type "tuple") ∧ xs.length ≠ 2 ∧ r = false) ∨
  (∃ a x y b1 b2, v = .ref a ∧ SqT K H a [x, y] ∧ TyX K H (.ref a) (.type "tuple") ∧ WhV K H x b1 ∧ WhV K H y b2 ∧ (((b1 && b2) = false ∧ r = false) ∨ ∃ u l : Int, b1 = true ∧ b2 = true ∧ x = .int u ∧ y = .int l ∧ r = (decide (1 ≤ l) && decide (Nat.gcd u.natAbs l.natAbs = 1))))
def spIsG (K : PySem.W.Frag) : Sp := fun vs H Q _ => ∃ (v : V) (r : Bool), vs = [v] ∧ IsG K H v r ∧ Q (.bl r) H
theorem Nq.isG {K : PySem.W.Frag} {H : Hp} {v : V} {q : Rat} (h : Nq K H v q) : IsG K H v true := by
  obtain ⟨a, rfl, s, t⟩ := h.sq
  refine .inr (.inr ⟨a, _, _, true, true, rfl, s, t, wh_int _, wh_int _, .inr ⟨_, _, rfl, rfl, rfl, rfl, ?_⟩⟩)
  have h1 : (1 : Int) ≤ ((q.den : Nat) : Int) := by have := q.den_nz; omega
  have h2 : Nat.gcd q.num.natAbs ((q.den : Nat) : Int).natAbs = 1 := q.reduced
  rw [decide_eq_true h1, decide_eq_true h2]
  rfl
/-- is v an int from lo to hi: r -/
def InR (K : PySem.W.Frag) (H : Hp) (v : V) (lo hi : Int) (r : Bool) : Prop := ∃ b, WhV K H v b ∧ ((b = false ∧ r = false) ∨ ∃ i : Int, b = true ∧ v = .int i ∧ r = (decide (lo ≤ i) && decide (i ≤ hi)))
theorem InR.same {K : PySem.W.Frag} {H H' : Hp} {v : V} {lo hi : Int} {r : Bool} (h : InR K H v lo hi r) (s : Same H H') : InR K H' v lo hi r := by
  obtain ⟨b, h1, h2⟩ := h
  exact ⟨b, h1.same s, h2⟩
theorem InR.yes {K : PySem.W.Frag} {H : Hp} {lo hi i : Int} (h1 : lo ≤ i) (h2 : i ≤ hi) : InR K H (.int i) lo hi true := ⟨true, wh_int i, .inr ⟨i, rfl, rfl, by rw [decide_eq_true h1, decide_eq_true h2]; rfl⟩⟩
theorem InR.no {K : PySem.W.Frag} {H : Hp} {lo hi i : Int} (h : i < lo ∨ hi < i) : InR K H (.int i) lo hi false := ⟨true, wh_int i, .inr ⟨i, rfl, rfl, by
  symm
  rw [Bool.and_eq_false_iff, decide_eq_false_iff_not, decide_eq_false_iff_not]
  omega⟩⟩
theorem InR.int {K : PySem.W.Frag} {H : Hp} {lo hi i : Int} : InR K H (.int i) lo hi (decide (lo ≤ i) && decide (i ≤ hi)) := ⟨true, wh_int i, .inr ⟨i, rfl, rfl, rfl⟩⟩
def spBtw (K : PySem.W.Frag) : Sp := fun vs H Q _ => ∃ (v : V) (lo hi : Int) (r : Bool), vs = [v, .int lo, .int hi] ∧ InR K H v lo hi r ∧ Q (.bl r) H
abbrev nIF : List Str := ["value", "upper", "lower"]
/-! ### checks, with what they raise -/
def spCo (K : PySem.W.Frag) (CO : Addr) : Sp := fun vs H Q E => ∃ (v : V) (r : Bool), vs = [v] ∧ InR K H v 2 24 r ∧ (r = true → Q .non H) ∧ (r = false → Air H CO (fs1 "InvalidOrder" "value" [v]) E)
def spCk (K : PySem.W.Frag) (CN : Addr) : Sp := fun vs H Q E => ∃ (v : V) (r : Bool), vs = [v] ∧ IsG K H v r ∧ (r = true → Q .non H) ∧ (r = false → Air H CN (fs1 "InvalidNumber" "value" [v]) E)
def spCp (K : PySem.W.Frag) (CP : Addr) : Sp := fun vs H Q E => ∃ (v : V) (lo hi : Int) (r : Bool), vs = [v, .int lo, .int hi] ∧ InR K H v lo hi r ∧ (r = true → Q .non H) ∧ (r = false → Air H CP (fs1 "InvalidPlace" "value" [v]) E)
def spCc (K : PySem.W.Frag) (CO CL : Addr) : Sp := fun vs H Q E => ∃ (n : Int) (v : V) (r : Bool), vs = [.int n, v] ∧ InR K H v 2 24 r ∧ (r = false → Air H CO (fs1 "InvalidOrder" "value" [v]) E) ∧
  (r = true → ∀ i : Int, v = .int i → (i ≤ n → Q .non H) ∧ (n < i → Air H CL (fs2 "OrderTooLow" "have" "wanted" [.int n, .int i]) E))
/-- x has the attribute f with the value v -/
def At (K : PySem.W.Frag) (H : Hp) (x : V) (f : Str) (v : V) : Prop := ∃ (a C dx : Addr) (fs : List (Str × V)), x = .ref a ∧ H a = some (.ins C dx fs) ∧ Cls K C ∧ NoAttr K C f ∧ fs.lookup f = some v
def spCor (K : PySem.W.Frag) (CU : Addr) : Sp := fun vs H Q E => ∃ (x y : V) (n m : Int), vs = [x, y] ∧ At K H x "order" (.int n) ∧ At K H y "order" (.int m) ∧ (n = m → Q .non H) ∧ (n ≠ m → Air H CU (fs2 "UnlikeOrders" "one" "other" [.int n, .int m]) E)
section
variable {P : Program} {w : World} {K : PySem.W.Frag} {mg : Str → Option Value} {base : Heap} {f fW CO CN CP CL CU : Addr} {fd fdW : FuncData}
theorem scWh : FnScope ["value"] ["value"] (defScope F_is_whole) := ⟨rfl, rfl, rfl, by decide +kernel, rfl, by decide +kernel, by decide +kernel⟩
theorem ok_whole (F : Fun K "is_whole" "is_whole" F_is_whole f fd) (mI : mg "isinstance" = none) (mi : mg "int" = none) (mb : mg "bool" = none) : FnOk P w K mg base CX0 1 f fd ["value"] (spWhole K) := by
  refine F.ok scWh (fun vs H Q E h => ?_) (fun cdv A outer s H vs Q E hr h => ?_)
  · obtain ⟨v, b, rfl, _⟩ := h
    rfl
  obtain ⟨v, b, rfl, hw, q⟩ := h
  obtain ⟨T, x, y, ty, k1, k2, rfl⟩ := hw H (Same.refl H)
  refine ⟨_, pss_one (ps_ret (pe_and (pe_callB call_isi rfl mI (by decide +kernel) (pa_cons (pv 0) (pa_cons (pe_bltn rfl mi boot_int (rel_ty _)) pa_nil))) (pe_one (pe_not (pe_callB call_isi rfl mI (by decide +kernel) (pa_cons (pv 0) (pa_cons (pe_bltn rfl mb boot_bool (rel_ty _)) pa_nil))))))), ?_⟩
  refine ⟨_, rfl, v, _, T, _, x, rfl, .ty _, ty, k1, _, rfl, ?_⟩
  cases x with
  | false => exact iteF q
  | true => exact iteT ⟨_, rfl, v, _, T, _, y, rfl, .ty _, ty, k2, _, rfl, q⟩
theorem scBtw : FnScope ["value", "low", "high"] ["value", "low", "high"] (defScope F_is_between) := ⟨rfl, rfl, rfl, by decide +kernel, rfl, by decide +kernel, by decide +kernel⟩
theorem ok_btw (F : Fun K "is_between" "is_between" F_is_between f fd) (UW : Use P w K mg base CX0 1 "is_whole" ["value"] (spWhole K) []) : FnOk P w K mg base CX0 2 f fd ["value", "low", "high"] (spBtw K) := by
  refine F.ok scBtw (fun vs H Q E h => ?_) (fun cdv A outer s H vs Q E hr h => ?_)
  · obtain ⟨v, lo, hi, b, rfl, _⟩ := h
    rfl
  obtain ⟨v, lo, hi, r, rfl, ⟨b, hw, hh⟩, q⟩ := h
  refine ⟨_, pss_one (ps_ret (pe_and (pe_use UW hr rfl pass0 (pa_cons (pv 0) pa_nil)) (pe_one (pe_chain op_le op_le (pv 1) (pv 0) (pv 2))))), ?_⟩
  refine ⟨_, rfl, v, b, rfl, hw, _, rfl, ?_⟩
  rcases hh with ⟨rfl, rfl⟩ | ⟨i, rfl, rfl, rfl⟩
  · exact iteF q
  · refine iteT ⟨_, rfl, _, rfl, lo, i, rfl, rfl, _, rfl, ?_⟩
    by_cases c : lo ≤ i
    · rw [decide_eq_true c] at q ⊢
      exact iteT ⟨_, rfl, i, hi, rfl, rfl, by rw [Bool.true_and] at q; exact q⟩
    · rw [decide_eq_false c] at q ⊢
      exact iteF q
theorem scIF : FnScope nIF ["value"] (defScope F_is_fraction) := ⟨rfl, rfl, rfl, by decide +kernel, rfl, by decide +kernel, by decide +kernel⟩
theorem ok_isg (F : Fun K "is_fraction" "is_fraction" F_is_fraction f fd) (mI : mg "isinstance" = none) (mt : mg "tuple" = none) (mn : mg "len" = none) (mG : mg "gcd" = some (.builtin "math.gcd"))
    (UW : Use P w K mg base CX0 1 "is_whole" ["value"] (spWhole K) []) : FnOk P w K mg base CX0 2 f fd ["value"] (spIsG K) := by
  refine F.ok scIF (fun vs H Q E h => ?_) (fun cdv A outer s H vs Q E hr h => ?_)
  · obtain ⟨v, r, rfl, _⟩ := h
    rfl
  obtain ⟨v, r, rfl, hf, q⟩ := h
  refine ⟨_, pss_cons (ps_if (PW.pt (pw_or (pt_not (pt_val (pe_callB call_isi rfl mI (by decide +kernel) (pa_cons (pv 0) (pa_cons (pe_bltn rfl mt boot_tuple (rel_ty _)) pa_nil))))) (pw_or1 (pt_cmpR op_ne (pe_callB call_len_seq rfl mn PySem.boot_len (pa_cons (pv 0) pa_nil)) pe_int (nomark _))))) (pss_one (ps_ret pe_bl)) pss_nil)
    (pss_cons (ps_asg (pv 0) (pg_tup rfl (pgs_cons (pg_name (i := 1) scIF.nd rfl (Or.inl rfl)) (pgs_cons (pg_name (i := 2) scIF.nd rfl (Or.inl rfl)) pgs_nil))))
    (pss_cons (ps_if (PW.pt (pw_or (pt_not (pt_val (pe_use UW hr rfl pass0 (pa_cons (pv 1) pa_nil)))) (pw_or1 (pt_not (pt_val (pe_use UW hr rfl pass0 (pa_cons (pv 2) pa_nil))))))) (pss_one (ps_ret pe_bl)) pss_nil)
    (pss_one (ps_ret (pe_and (pe_cmpR op_ge (pv 2) pe_int (nomark _)) (pe_one (pe_cmpR op_eq (pe_callBfun cr_gcd rfl mG (pa_cons (pv 1) (pa_cons (pv 2) pa_nil))) pe_int (nomark _)))))))), ?_⟩
  have tk : PySem.W.kitOne K (.type "tuple") (.type "tuple") = some true := kit_ty kb_l.2.2.2
  rcases hf with ⟨T, ty, k, rfl⟩ | ⟨a, xs, rfl, ha, ht, hl, rfl⟩ | ⟨a, x, y, b1, b2, rfl, ha, ht, hx, hy, hh⟩
  · exact ⟨_, rfl, v, _, T, _, false, rfl, .ty _, ty, k, _, rfl, iteT q⟩
  · refine ⟨_, rfl, _, _, _, _, true, rfl, .ty _, ht, tk, _, rfl, iteF ?_⟩
    refine ⟨_, rfl, a, xs, rfl, .inr (ha), rfl, _, rfl, ?_⟩
    rw [decide_eq_false (fun e => hl (by have := V.int.inj e; omega))]
    exact iteT q
  · refine ⟨_, rfl, _, _, _, _, true, rfl, .ty _, ht, tk, _, rfl, iteF ?_⟩
    refine ⟨_, rfl, a, _, rfl, .inr (ha), rfl, _, rfl, iteF ?_⟩
    refine ⟨_, rfl, a, _, rfl, ha, rfl, _, _, rfl, _, _, rfl, rfl, ?_⟩
    rcases hh with ⟨hb, rfl⟩ | ⟨u, l, rfl, rfl, rfl, rfl, rfl⟩
    · cases b1 with
      | false => exact ⟨_, rfl, x, false, rfl, hx, _, rfl, iteT q⟩
      | true =>
        obtain rfl : b2 = false := hb
        exact ⟨_, rfl, x, true, rfl, hx, _, rfl, iteF ⟨_, rfl, y, false, rfl, hy, _, rfl, iteT q⟩⟩
    · refine ⟨_, rfl, _, true, rfl, wh_int u, _, rfl, iteF ⟨_, rfl, _, true, rfl, wh_int l, _, rfl, iteF ?_⟩⟩
      refine ⟨_, rfl, l, 1, rfl, rfl, _, rfl, ?_⟩
      by_cases c : (1 : Int) ≤ l
      · rw [decide_eq_true c] at q ⊢
        refine iteT ⟨_, rfl, _, rfl, u, l, rfl, rfl, ?_⟩
        have e : (decide (V.int ((Nat.gcd u.natAbs l.natAbs : Nat) : Int) = V.int 1)) = (true && decide (Nat.gcd u.natAbs l.natAbs = 1)) := by
          rw [Bool.true_and]
          exact decide_eq_decide.mpr ⟨fun h => by have := V.int.inj h; omega, fun h => by rw [h]; rfl⟩
        rw [← e] at q
        exact q
      · rw [decide_eq_false c] at q ⊢
        exact iteF q
theorem scCo : FnScope ["order"] ["order"] (defScope F_check_order) := ⟨rfl, rfl, rfl, by decide +kernel, rfl, by decide +kernel, by decide +kernel⟩
theorem ok_corder (G : Fun K "check_order" "check_order" F_check_order f fd) (UB : Use P w K mg base CX0 2 "is_between" ["value", "low", "high"] (spBtw K) [])
    (mL : ∃ u, mg "LOWEST_ORDER" = some u ∧ RelV (.int 2) u) (mH : ∃ u, mg "HIGHEST_ORDER" = some u ∧ RelV (.int 24) u) (Z : ErrC P w K mg base "InvalidOrder" 1 (fs1 "InvalidOrder" "value") CO) : FnOk P w K mg base (L2.CX P w) 3 f fd ["order"] (spCo K CO) := by
  refine G.okX scCo (fun vs H Q E h => ?_) (fun cdv A outer s H vs Q E hr h => ?_)
  · obtain ⟨v, r, rfl, _⟩ := h
    rfl
  obtain ⟨v, r, rfl, hin, h1, h2⟩ := h
  obtain ⟨fI, fdI, ps, i1, i2, i3, i4⟩ := Z.i
  refine ⟨_, pss_one (ps_if (pt_not (pt_val (pe_use UB hr rfl pass0 (pa_cons (pv 0) (pa_cons (C8.pe_gc rfl mL) (pa_cons (C8.pe_gc rfl mH) pa_nil)))))) (pss_one (ps_raise rfl (takes_of rfl rfl rfl rfl) (pmk_xo Z.T Z.ty i1 i2 i3 hr i4 pass0 rfl Z.m (pa_cons (pv 0) pa_nil)))) pss_nil), ?_⟩
  refine ⟨_, rfl, v, 2, 24, r, rfl, hin, _, rfl, ?_⟩
  cases r with
  | true => exact iteF (h1 rfl)
  | false => exact iteT ⟨_, rfl, (by show 1 ≤ 1000; decide), fun a na => air_of (C := CO) (n := 1) (ws := [v]) na rfl (h2 rfl)⟩
theorem scCp : FnScope ["place", "first", "last"] ["place", "first", "last"] (defScope F_check_place) := ⟨rfl, rfl, rfl, by decide +kernel, rfl, by decide +kernel, by decide +kernel⟩
theorem ok_cplace (G : Fun K "check_place" "check_place" F_check_place f fd) (UB : Use P w K mg base CX0 2 "is_between" ["value", "low", "high"] (spBtw K) []) (Z : ErrC P w K mg base "InvalidPlace" 1 (fs1 "InvalidPlace" "value") CP) : FnOk P w K mg base (L2.CX P w) 3 f fd ["place", "first", "last"] (spCp K CP) := by
  refine G.okX scCp (fun vs H Q E h => ?_) (fun cdv A outer s H vs Q E hr h => ?_)
  · obtain ⟨v, lo, hi, r, rfl, _⟩ := h
    rfl
  obtain ⟨v, lo, hi, r, rfl, hin, h1, h2⟩ := h
  obtain ⟨fI, fdI, ps, i1, i2, i3, i4⟩ := Z.i
  refine ⟨_, pss_one (ps_if (pt_not (pt_val (pe_use UB hr rfl pass0 (pa_cons (pv 0) (pa_cons (pv 1) (pa_cons (pv 2) pa_nil)))))) (pss_one (ps_raise rfl (takes_of rfl rfl rfl rfl) (pmk_xo Z.T Z.ty i1 i2 i3 hr i4 pass0 rfl Z.m (pa_cons (pv 0) pa_nil)))) pss_nil), ?_⟩
  refine ⟨_, rfl, _, rfl, _, rfl, v, lo, hi, r, rfl, hin, _, rfl, ?_⟩
  cases r with
  | true => exact iteF (h1 rfl)
  | false => exact iteT ⟨_, rfl, (by show 1 ≤ 1000; decide), fun a na => air_of (C := CP) (n := 1) (ws := [v]) na rfl (h2 rfl)⟩
theorem scCor : FnScope ["one", "other"] ["one", "other"] (defScope F_check_orders) := ⟨rfl, rfl, rfl, by decide +kernel, rfl, by decide +kernel, by decide +kernel⟩
theorem ok_corders (G : Fun K "check_orders" "check_orders" F_check_orders f fd) (Z : ErrC P w K mg base "UnlikeOrders" 2 (fs2 "UnlikeOrders" "one" "other") CU) : FnOk P w K mg base (L2.CX P w) 3 f fd ["one", "other"] (spCor K CU) := by
  refine G.okX scCor (fun vs H Q E h => ?_) (fun cdv A outer s H vs Q E hr h => ?_)
  · obtain ⟨x, y, n, m, rfl, _⟩ := h
    rfl
  obtain ⟨x, y, n, m, rfl, ⟨xa, C, dx, fs, rfl, hx, cx, nx, lx⟩, ⟨ya, D, dy, gs, rfl, hy, cy, ny, ly⟩, h1, h2⟩ := h
  obtain ⟨fI, fdI, ps, i1, i2, i3, i4⟩ := Z.i
  refine ⟨_, pss_one (ps_if (pt_cmpR op_ne (pe_fld (pv 0) rfl) (pe_fld (pv 1) rfl) (nomark _)) (pss_one (ps_raise rfl (takes_of rfl rfl rfl rfl) (pmk_xo Z.T Z.ty i1 i2 i3 hr i4 pass0 rfl Z.m (pa_cons (pe_fld (pv 0) rfl) (pa_cons (pe_fld (pv 1) rfl) pa_nil))))) pss_nil), ?_⟩
  refine ⟨_, rfl, xa, C, dx, _, _, rfl, hx, cx, nx, lx, _, rfl, ya, D, dy, _, _, rfl, hy, cy, ny, ly, rfl, _, rfl, ?_⟩
  by_cases c : n = m
  · subst c
    rw [decide_eq_true rfl]
    exact iteF (h1 rfl)
  · rw [decide_eq_false (fun e => c (V.int.inj e))]
    exact iteT ⟨_, rfl, xa, C, dx, _, _, rfl, hx, cx, nx, lx, _, rfl, ya, D, dy, _, _, rfl, hy, cy, ny, ly, (by show 2 ≤ 1000; decide), fun a na => air_of (C := CU) (n := 2) (ws := [.int n, .int m]) na rfl (h2 c)⟩
theorem scCc : FnScope ["have", "wanted"] ["have", "wanted"] (defScope F_check_cut) := ⟨rfl, rfl, rfl, by decide +kernel, rfl, by decide +kernel, by decide +kernel⟩
theorem ok_ccut (G : Fun K "check_cut" "check_cut" F_check_cut f fd) (UC : Use P w K mg base (L2.CX P w) 3 "check_order" ["order"] (spCo K CO) []) (Z : ErrC P w K mg base "OrderTooLow" 2 (fs2 "OrderTooLow" "have" "wanted") CL) : FnOk P w K mg base (L2.CX P w) 4 f fd ["have", "wanted"] (spCc K CO CL) := by
  refine G.okX scCc (fun vs H Q E h => ?_) (fun cdv A outer s H vs Q E hr h => ?_)
  · obtain ⟨n, v, r, rfl, _⟩ := h
    rfl
  obtain ⟨n, v, r, rfl, hin, h1, h2⟩ := h
  obtain ⟨fI, fdI, ps, i1, i2, i3, i4⟩ := Z.i
  refine ⟨_, pss_cons (ps_expr (pe_use (E := E) UC hr rfl (passes_call (takes_of rfl rfl rfl rfl) (fun _ _ _ _ h => h)) (pa_cons (pv 1) pa_nil)))
    (pss_one (ps_if (pt_cmpR op_gt (pv 1) (pv 0) (nomark _)) (pss_one (ps_raise rfl (takes_of rfl rfl rfl rfl) (pmk_xo Z.T Z.ty i1 i2 i3 (hr.mono (by decide)) i4 pass0 rfl Z.m (pa_cons (pv 0) (pa_cons (pv 1) pa_nil))))) pss_nil)), ?_⟩
  refine ⟨_, rfl, v, r, rfl, hin, fun hr' => ?_, h1⟩
  obtain ⟨b, hw, hb⟩ := hin
  rcases hb with ⟨_, e⟩ | ⟨i, _, rfl, e⟩
  · rw [hr'] at e; cases e
  · obtain ⟨q1, q2⟩ := h2 hr' i rfl
    refine ⟨_, rfl, _, rfl, i, n, rfl, rfl, _, rfl, ite2 (fun c => ?_) (fun c => q1 (Int.not_lt.mp (of_decide_eq_false (Bool.eq_false_iff.mpr c))))⟩
    exact ⟨_, rfl, _, rfl, (by show 2 ≤ 1000; decide), fun a na => air_of (C := CL) (n := 2) (ws := [.int n, .int i]) na rfl (q2 (of_decide_eq_true c))⟩
end
end Kx
end
section
set_option maxHeartbeats 4000000
namespace Kx
open PySem PySem.Spec PyProof.Rows L2 RZ
def optV : Option Nat → V
  | none => .non
  | some k => .int (k : Nat)
/-- the first false, counted from i on -/
def badAt : List Bool → Nat → Option Nat
  | [], _ => none
  | r :: rs, i => if r = true then badAt rs (i + 1) else some i
theorem badAt_hit : ∀ (rs : List Bool) (k i : Nat), (∀ r ∈ rs.take i, r = true) → rs[i]? = some false → badAt rs k = some (k + i)
  | [], _, _, _, h => by simp at h
  | r :: rs, k, 0, _, h => by
    have e : r = false := Option.some.inj (show some r = some false from h)
    subst e
    rfl
  | r :: rs, k, i + 1, h, e => by
    have hr : r = true := h r (by simp)
    subst hr
    show badAt rs (k + 1) = _
    rw [badAt_hit rs (k + 1) i (fun x hx => h x (by simp [hx])) (by simpa using e)]
    congr 1
    omega
theorem badAt_none : ∀ (rs : List Bool) (k : Nat), (∀ r ∈ rs, r = true) → badAt rs k = none
  | [], _, _ => rfl
  | r :: rs, k, h => by
    have hr : r = true := h r (by simp)
    subst hr
    exact badAt_none rs (k + 1) fun x hx => h x (by simp [hx])
/-- is v a fraction: r, whatever is new -/
def IsGs (K : PySem.W.Frag) (H : Hp) (v : V) (r : Bool) : Prop := ∀ H', Same H H' → IsG K H' v r
theorem IsGs.same {K : PySem.W.Frag} {H H' : Hp} {v : V} {r : Bool} (h : IsGs K H v r) (s : Same H H') : IsGs K H' v r := fun H2 s2 => h H2 (s.trans s2)
theorem Nq.isGs {K : PySem.W.Frag} {H : Hp} {v : V} {q : Rat} (h : Nq K H v q) : IsGs K H v true := fun _ s => (h.same s).isG
/-- the items, which of them are fractions -/
def Its (K : PySem.W.Frag) (H : Hp) (xs : List V) (rs : List Bool) : Prop := xs.length = rs.length ∧ ∀ (i : Nat) (x : V) (r : Bool), xs[i]? = some x → rs[i]? = some r → IsGs K H x r
theorem Its.same {K : PySem.W.Frag} {H H' : Hp} {xs : List V} {rs : List Bool} (h : Its K H xs rs) (s : Same H H') : Its K H' xs rs := ⟨h.1, fun i x r h1 h2 => (h.2 i x r h1 h2).same s⟩
theorem Nl.its {K : PySem.W.Frag} {H : Hp} {xs : List V} {qs : List Rat} (h : Nl K H xs qs) : Its K H xs (List.replicate qs.length true) := by
  refine ⟨by rw [h.1, List.length_replicate], fun i x r h1 h2 => ?_⟩
  obtain ⟨q, _, n⟩ := h.get h1
  rw [List.getElem?_replicate] at h2
  split at h2
  · rw [← Option.some.inj h2]
    exact n.isGs
  · cases h2
theorem bad_rep (n k : Nat) : badAt (List.replicate n true) k = none := badAt_none _ _ fun r hr => List.eq_of_mem_replicate hr
/-- a list or a tuple -/
def SqH (H : Hp) (a : Addr) (xs : List V) : Prop := H a = some (.lst xs) ∨ H a = some (.tup xs)
theorem SqH.same {H H' : Hp} {a : Addr} {xs : List V} (h : SqH H a xs) (s : Same H H') : SqH H' a xs := h.imp (s _ _) (s _ _)
/-- is v a list or a tuple: r -/
def LsV (K : PySem.W.Frag) (H : Hp) (v : V) (r : Bool) : Prop := ∀ H', Same H H' → ∃ T, TyX K H' v T ∧ PySem.W.kitAny K T [.type "list", .type "tuple"] = some r
theorem LsV.same {K : PySem.W.Frag} {H H' : Hp} {v : V} {r : Bool} (h : LsV K H v r) (s : Same H H') : LsV K H' v r := fun H2 s2 => h H2 (s.trans s2)
theorem SqH.lsv {K : PySem.W.Frag} {H : Hp} {a : Addr} {xs : List V} (h : SqH H a xs) : LsV K H (.ref a) true := fun H' s => by
  rcases h with h | h
  · exact ⟨_, .base (.lst (s _ _ h)), kit2 kb_l.1 kb_l.2.1 rfl⟩
  · exact ⟨_, .base (.tup (s _ _ h)), kit2 kb_l.2.2.1 kb_l.2.2.2 rfl⟩
def spIl (K : PySem.W.Frag) : Sp := fun vs H Q _ => ∃ (v : V) (r : Bool), vs = [v] ∧ LsV K H v r ∧ ∀ H', Same H H' → Q (.bl r) H'
def spWi (K : PySem.W.Frag) : Sp := fun vs H Q _ => ∃ (a : Addr) (xs : List V) (rs : List Bool), vs = [.ref a] ∧ SqH H a xs ∧ Its K H xs rs ∧ ∀ H', Same H H' → Q (optV (badAt rs 0)) H'
def spCf (K : PySem.W.Frag) (CF : Addr) : Sp := fun vs H Q E => ∃ (a : Addr) (xs : List V) (rs : List Bool), vs = [.ref a] ∧ SqH H a xs ∧ Its K H xs rs ∧ (badAt rs 0 = none → ∀ H', Same H H' → Q .non H') ∧ ∀ k : Nat, badAt rs 0 = some k → Air H CF (fs1 "InvalidFraction" "at" [.int (k : Nat)]) E
def spCn (K : PySem.W.Frag) (CF CO : Addr) : Sp := fun vs H Q E => ∃ (v : V) (fu : Int), vs = [v, .int fu] ∧
  ((LsV K H v false ∧ Air H CF (fs1 "InvalidFraction" "at" [.int (-1)]) E) ∨
   ∃ (a : Addr) (xs : List V) (rs : List Bool), v = .ref a ∧ SqH H a xs ∧
     (((xs.length : Int) + fu < 2 ∨ 24 < (xs.length : Int) + fu) ∧ Air H CO (fs1 "InvalidOrder" "value" [.int ((xs.length : Int) + fu)]) E ∨
      2 ≤ (xs.length : Int) + fu ∧ (xs.length : Int) + fu ≤ 24 ∧ Its K H xs rs ∧ (∀ k : Nat, badAt rs 0 = some k → Air H CF (fs1 "InvalidFraction" "at" [.int (k : Nat)]) E) ∧
        (badAt rs 0 = none → ∀ H' b, Same H H' → H b = none → H' b = some (.lst xs) → Q (.ref b) H')))
abbrev nWi : List Str := ["numbers", "at", "number"]
section
variable {P : Program} {w : World} {K : PySem.W.Frag} {mg : Str → Option Value} {base : Heap} {f fW CO CN CP CL CU CF : Addr} {fd fdW : FuncData}
theorem scIl : FnScope ["value"] ["value"] (defScope F_is_listing) := ⟨rfl, rfl, rfl, by decide +kernel, rfl, by decide +kernel, by decide +kernel⟩
theorem ok_listing (G : Fun K "is_listing" "is_listing" F_is_listing f fd) (mI : mg "isinstance" = none) (ml : mg "list" = none) (mt : mg "tuple" = none) : FnOk P w K mg base CX0 1 f fd ["value"] (spIl K) := by
  refine G.ok scIl (fun vs H Q E h => ?_) (fun cdv A outer s H vs Q E hr h => ?_)
  · obtain ⟨v, r, rfl, _⟩ := h
    rfl
  obtain ⟨v, r, rfl, hv, q⟩ := h
  refine ⟨_, pss_one (ps_ret (pe_callB call_isiT rfl mI (by decide +kernel) (pa_cons (pv 0) (pa_cons (pe_tup (pa_cons (pe_bltn rfl ml boot_list (rel_ty _)) (pa_cons (pe_bltn rfl mt boot_tuple (rel_ty _)) pa_nil))) pa_nil)))), ?_⟩
  refine ⟨_, rfl, (by show 2 ≤ sizeLine; decide), fun p np => ?_⟩
  have g1 := new_same np (.tup [.ty "list", .ty "tuple"])
  obtain ⟨T, ty, k⟩ := hv _ g1
  exact ⟨_, p, _, T, _, r, rfl, upd_same, .cons (.ty _) (.cons (.ty _) .nil), ty, k, q _ g1⟩
theorem scWi : FnScope nWi ["numbers"] (defScope F_wrong_item) := ⟨rfl, rfl, rfl, by decide +kernel, rfl, by decide +kernel, by decide +kernel⟩
theorem ok_wrong (G : Fun K "wrong_item" "wrong_item" F_wrong_item f fd) (me : mg "enumerate" = none) (UF : Use P w K mg base CX0 2 "is_fraction" ["value"] (spIsG K) []) : FnOk P w K mg base CX0 3 f fd ["numbers"] (spWi K) := by
  refine G.ok scWi (fun vs H Q E h => ?_) (fun cdv A outer s H vs Q E hr h => ?_)
  · obtain ⟨a, xs, rs, rfl, _⟩ := h
    rfl
  obtain ⟨a, xs, rs, rfl, ha, ⟨hl, hI⟩, q⟩ := h
  refine ⟨_, pss_cons (ps_for PassesOwn.never rfl (pi_enumA rfl me (pa_cons (pv 0) pa_nil)) (pg_tup rfl (pgs_cons (pg_name (i := 1) scWi.nd rfl (Or.inl rfl)) (pgs_cons (pg_name (i := 2) scWi.nd rfl (Or.inl rfl)) pgs_nil)))
      (pss_one (ps_if (pt_not (pt_val (pe_use UF hr rfl pass0 (pa_cons (pv 2) pa_nil)))) (pss_one (ps_ret (pv 1))) pss_nil)))
    (pss_one (ps_ret pe_non)), ?_⟩
  refine ⟨_, rfl, a, xs, rfl, ?_⟩
  have turn : ∀ (i : Nat) (x : V) (σ : L2.St) (H2 H3 : Hp), i < xs.length → (Same H H2 ∧ (∀ r ∈ rs.take i, r = true) ∧ ∃ v v', σ = [some (.ref a), v, v']) → YPair (fun i => some (.int (i : Nat))) (fun i => xs[i]?) i H2 x H3 →
      ∃ (T : Addr) (z : V) (r : Bool), x = .ref T ∧ H2 T = none ∧ H3 = upd H2 T (.tup [.int (i : Nat), z]) ∧ xs[i]? = some z ∧ rs[i]? = some r ∧ IsG K H3 z r ∧ Same H H3 := by
    rintro i x σ H2 H3 hi ⟨s2, _, _⟩ ⟨T, y, z, rfl, hT, rfl, hy, hz⟩
    obtain rfl : y = .int ((i : Nat) : Int) := (Option.some.inj hy).symm
    have s3 := s2.trans (new_same hT (.tup [.int (i : Nat), z]))
    have er := List.getElem?_eq_getElem (l := rs) (i := i) (by omega)
    exact ⟨T, z, _, rfl, hT, rfl, hz, er, hI i z _ hz er _ s3, s3⟩
  have fin : ∀ (σ : L2.St) (H2 : Hp), (Same H H2 ∧ (∀ r ∈ rs.take xs.length, r = true) ∧ ∃ v v', σ = [some (.ref a), v, v']) → Q .non H2 := by
    rintro σ H2 ⟨s2, h, _⟩
    rw [hl, List.take_length] at h
    have := q H2 s2
    rw [badAt_none rs 0 h] at this
    exact this
  rcases ha with ha | ha
  · refine .inl ⟨SqL.of ha, ?_⟩
    refine for_it (walk_enum (K := K) (a := a) (xs := xs)) (fun i σ H' => Same H H' ∧ (∀ r ∈ rs.take i, r = true) ∧ ∃ v v', σ = [some (.ref a), v, v']) ⟨Same.refl H, by simp, none, none, rfl⟩ (fun i σ H' _ h => SqL.of (h.1 _ _ ha)) ?_ fin
    intro i x σ H2 H3 hi hp hY
    obtain ⟨T, z, r, rfl, hT, rfl, hz, er, ig, s3⟩ := turn i x σ H2 H3 hi hp hY
    obtain ⟨s2, h2, v, v', rfl⟩ := hp
    refine ⟨T, [_, _], rfl, SqT.of upd_same, rfl, _, [_], rfl, _, [], rfl, rfl, ?_⟩
    refine ⟨_, rfl, z, r, rfl, ig, _, rfl, ?_⟩
    cases r with
    | true =>
      refine iteF ⟨s3, fun b hb => ?_, _, _, rfl⟩
      rw [List.take_add_one, er] at hb
      rcases List.mem_append.mp hb with hb | hb
      · exact h2 b hb
      · simpa using hb
    | false =>
      have := q _ s3
      rw [badAt_hit rs 0 i h2 er, Nat.zero_add] at this
      exact iteT ⟨_, rfl, this⟩
  · refine .inr ⟨SqT.of ha, ?_⟩
    refine for_it (walk_enumT (K := K) (a := a) (xs := xs)) (fun i σ H' => Same H H' ∧ (∀ r ∈ rs.take i, r = true) ∧ ∃ v v', σ = [some (.ref a), v, v']) ⟨Same.refl H, by simp, none, none, rfl⟩ (fun i σ H' _ h => SqT.of (h.1 _ _ ha)) ?_ fin
    intro i x σ H2 H3 hi hp hY
    obtain ⟨T, z, r, rfl, hT, rfl, hz, er, ig, s3⟩ := turn i x σ H2 H3 hi hp hY
    obtain ⟨s2, h2, v, v', rfl⟩ := hp
    refine ⟨T, [_, _], rfl, SqT.of upd_same, rfl, _, [_], rfl, _, [], rfl, rfl, ?_⟩
    refine ⟨_, rfl, z, r, rfl, ig, _, rfl, ?_⟩
    cases r with
    | true =>
      refine iteF ⟨s3, fun b hb => ?_, _, _, rfl⟩
      rw [List.take_add_one, er] at hb
      rcases List.mem_append.mp hb with hb | hb
      · exact h2 b hb
      · simpa using hb
    | false =>
      have := q _ s3
      rw [badAt_hit rs 0 i h2 er, Nat.zero_add] at this
      exact iteT ⟨_, rfl, this⟩
theorem scCf : FnScope ["numbers", "at"] ["numbers"] (defScope F_check_fractions) := ⟨rfl, rfl, rfl, by decide +kernel, rfl, by decide +kernel, by decide +kernel⟩
theorem ok_cfrac (G : Fun K "check_fractions" "check_fractions" F_check_fractions f fd) (UW : Use P w K mg base CX0 3 "wrong_item" ["numbers"] (spWi K) []) (Z : ErrC P w K mg base "InvalidFraction" 1 (fs1 "InvalidFraction" "at") CF) : FnOk P w K mg base (L2.CX P w) 4 f fd ["numbers"] (spCf K CF) := by
  refine G.okX scCf (fun vs H Q E h => ?_) (fun cdv A outer s H vs Q E hr h => ?_)
  · obtain ⟨a, xs, rs, rfl, _⟩ := h
    rfl
  obtain ⟨a, xs, rs, rfl, ha, hI, q, qe⟩ := h
  obtain ⟨fI, fdI, ps, i1, i2, i3, i4⟩ := Z.i
  refine ⟨_, pss_cons (ps_set (i := 1) scCf.nd rfl (Or.inl rfl) (pe_use UW hr rfl pass0 (pa_cons (pv 0) pa_nil)))
    (pss_one (ps_if (pt_cmpR op_notN (pv 1) pe_non (nomark _)) (pss_one (ps_raise rfl (takes_of rfl rfl rfl rfl) (pmk_xo Z.T Z.ty i1 i2 i3 (hr.mono (by decide)) i4 pass0 rfl Z.m (pa_cons (pv 1) pa_nil)))) pss_nil)), ?_⟩
  refine ⟨_, rfl, a, xs, rs, rfl, ha, hI, fun H1 s1 => ?_⟩
  refine ⟨_, rfl, rfl, _, rfl, ?_⟩
  cases e : badAt rs 0 with
  | none => exact iteF (q e H1 s1)
  | some k => exact iteT ⟨_, rfl, (by show 1 ≤ 1000; decide), fun a na => air_of (C := CF) (n := 1) (ws := [.int (k : Nat)]) na rfl ((qe k e).same s1)⟩
theorem scCn : FnScope ["numbers", "further"] ["numbers", "further"] (defScope F_checked_numbers) := ⟨rfl, rfl, rfl, by decide +kernel, rfl, by decide +kernel, by decide +kernel⟩
theorem ok_checked (G : Fun K "checked_numbers" "checked_numbers" F_checked_numbers f fd) (mn : mg "len" = none) (ml : mg "list" = none) (UI : Use P w K mg base CX0 1 "is_listing" ["value"] (spIl K) [])
    (UC : Use P w K mg base (L2.CX P w) 3 "check_order" ["order"] (spCo K CO) []) (UF : Use P w K mg base (L2.CX P w) 4 "check_fractions" ["numbers"] (spCf K CF) []) (Z : ErrC P w K mg base "InvalidFraction" 1 (fs1 "InvalidFraction" "at") CF) :
    FnOk P w K mg base (L2.CX P w) 5 f fd ["numbers", "further"] (spCn K CF CO) := by
  refine G.okX scCn (fun vs H Q E h => ?_) (fun cdv A outer s H vs Q E hr h => ?_)
  · obtain ⟨v, fu, rfl, _⟩ := h
    rfl
  obtain ⟨v, fu, rfl, hh⟩ := h
  obtain ⟨fI, fdI, ps, i1, i2, i3, i4⟩ := Z.i
  refine ⟨_, pss_cons (ps_if (pt_not (pt_val (pe_use UI (hr.mono (by decide)) rfl pass0 (pa_cons (pv 0) pa_nil)))) (pss_one (ps_raise rfl (takes_of rfl rfl rfl rfl) (pmk_xo Z.T Z.ty i1 i2 i3 (hr.mono (by decide)) i4 pass0 rfl Z.m (pa_cons (pe_un un_neg pe_int) pa_nil)))) pss_nil)
    (pss_cons (ps_expr (pe_use (E := E) UC (hr.mono (by decide)) rfl (passes_call (takes_of rfl rfl rfl rfl) (fun _ _ _ _ h => h)) (pa_cons (pe_op op_add (pe_callB call_len_seq rfl mn PySem.boot_len (pa_cons (pv 0) pa_nil)) (pv 1)) pa_nil)))
    (pss_cons (ps_expr (pe_use (E := E) UF hr rfl (passes_call (takes_of rfl rfl rfl rfl) (fun _ _ _ _ h => h)) (pa_cons (pv 0) pa_nil)))
    (pss_one (ps_ret (pe_callTy call_list_of rfl ml (by decide +kernel) (pa_cons (pv 0) pa_nil)))))), ?_⟩
  rcases hh with ⟨hv, air⟩ | ⟨a, xs, rs, rfl, ha, hh⟩
  · refine ⟨_, rfl, v, false, rfl, hv, fun H1 s1 => ⟨_, rfl, iteT ⟨1, rfl, (by show 1 ≤ 1000; decide), fun a na => air_of (C := CF) (n := 1) (ws := [.int (-1)]) na rfl (air.same s1)⟩⟩⟩
  · refine ⟨_, rfl, .ref a, true, rfl, ha.lsv, fun H1 s1 => ⟨_, rfl, iteF ?_⟩⟩
    have ha1 := ha.same s1
    have len1 : ∀ {H2 : Hp}, SqH H2 a xs → (SqL K H2 a xs ∨ SqT K H2 a xs) := fun h => h.imp SqL.of SqT.of
    refine ⟨_, rfl, a, xs, rfl, len1 ha1, _, rfl, _, _, rfl, rfl, ?_⟩
    rcases hh with ⟨ho, air⟩ | ⟨l1, l2, hI, qf, q⟩
    · exact ⟨_, false, rfl, .no ho, fun z => Bool.noConfusion z, fun _ => air.same s1⟩
    · refine ⟨_, true, rfl, .yes l1 l2, fun _ => ?_, fun z => Bool.noConfusion z⟩
      refine ⟨_, rfl, a, xs, rs, rfl, ha1, hI.same s1, fun hb H2 s2 => ?_, fun k hk => (qf k hk).same s1⟩
      have ha2 := ha1.same s2
      exact ⟨_, rfl, a, xs, rfl, len1 ha2, fun b nb => q hb _ b ((s1.trans s2).trans (new_same nb _)) ((s1.trans s2).free nb) upd_same⟩
end
end Kx
end
section
set_option maxHeartbeats 4000000
namespace Kx
open PySem PySem.Spec PyProof.Rows L2 RZ
theorem KP.dp {K : PySem.W.Frag} {a : Addr} {x y : Int} (k : KP K a x y) (H : Hp) : Dp K H (.ref a) (.tuple [.int x, .int y]) := .tup (k.t H) (.cons (.int _) (.cons (.int _) .nil))
theorem cut_drop (xs : List V) (k : Nat) : cutV xs (some (k : Int)) none = xs.drop k := by
  unfold cutV
  rw [HT.sIx_nat, HT.sIx_none, List.take_of_length_le (by rw [List.length_drop]; omega)]
  by_cases c : k ≤ xs.length
  · rw [Nat.min_eq_left c]
  · rw [Nat.min_eq_right (by omega), List.drop_of_length_le (Nat.le_refl _), List.drop_of_length_le (by omega)]
theorem cut_take (xs : List V) (k : Nat) : cutV xs none (some (k : Int)) = xs.take k := by
  unfold cutV
  rw [HT.sIx_nat, HT.sIx_none, List.drop_zero, Nat.sub_zero]
  by_cases c : k ≤ xs.length
  · rw [Nat.min_eq_left c]
  · rw [Nat.min_eq_right (by omega), List.take_of_length_le (Nat.le_refl _), List.take_of_length_le (by omega)]
/-- the least place with a number that is not 0 -/
def hgtV (qs : List Rat) (f : Int) : V := match hgtN qs 0 with
  | none => .non
  | some k => .int (f + (k : Nat))
theorem hgtN_hit : ∀ (qs : List Rat) (i f : Nat) (q : Rat), (∀ r ∈ qs.take i, r = 0) → qs[i]? = some q → q ≠ 0 → hgtN qs f = some (f + i)
  | [], _, _, _, _, h, _ => by simp at h
  | r :: rs, 0, f, q, _, h, hq => by
    have e : r = q := Option.some.inj (show some r = some q from h)
    show (if r = 0 then hgtN rs (f + 1) else some f) = some f
    rw [if_neg (by rw [e]; exact hq)]
  | r :: rs, i + 1, f, q, h, e, hq => by
    have hr : r = 0 := h r (by simp)
    show (if r = 0 then hgtN rs (f + 1) else some f) = _
    rw [if_pos hr, hgtN_hit rs i (f + 1) q (fun x hx => h x (by simp [hx])) (by simpa using e) hq]
    congr 1
    omega
theorem hgtN_none (qs : List Rat) (f : Nat) (h : ∀ q ∈ qs, q = 0) : hgtN qs f = none := by
  have := hgtN_app_zero qs f [] h
  rw [List.append_nil] at this
  rw [this]
  rfl
def spIz (K : PySem.W.Frag) : Sp := fun vs H Q _ => ∃ (x : V) (qs : List Rat), vs = [x] ∧ Ls K H x qs ∧ qs.length ≤ 100 ∧ ∀ H', Same H H' → Q (.bl (qs.all fun q => decide (q = 0))) H'
def spLp (K : PySem.W.Frag) : Sp := fun vs H Q _ => ∃ (x : V) (qs : List Rat) (fi : Int), vs = [x, .int fi] ∧ Ls K H x qs ∧ ∀ H', Same H H' → Q (hgtV qs fi) H'
/-- the kind of a step -/
def kindS (qs : List Rat) : Str :=
  if qs.getD 0 0 = 0 then (if (qs.drop 1).all (fun q => decide (q = 0)) = true then "nothing" else "crush")
  else if qs.getD 0 0 = 1 then (if (qs.drop 1).all (fun q => decide (q = 0)) = true then "still" else "creep")
  else if qs.getD 0 0 = -1 then "flip" else "stretch"
def spKo (K : PySem.W.Frag) : Sp := fun vs H Q _ => ∃ (x : V) (qs : List Rat), vs = [x] ∧ Ls K H x qs ∧ 1 ≤ qs.length ∧ qs.length ≤ 100 ∧ ∀ H', Same H H' → Q (.str (kindS qs)) H'
abbrev nIz : List Str := ["numbers", "number"]
abbrev nLp : List Str := ["numbers", "first", "at", "number"]
abbrev nKo : List Str := ["numbers", "lead", "bent"]
theorem eqD_at {X : Cx} (K : PySem.W.Frag) (h : X.K = K) (hu : X.A.units + 64 < cLine) : OpR X (compareOp .Eq) (rEqD K) := by
  subst h
  exact op_eqD hu
section
variable {P : Program} {w : World} {K : PySem.W.Frag} {mg : Str → Option Value} {base : Heap} {f fI o1 o0 om : Addr} {fd : FuncData}
theorem scIz : FnScope nIz ["numbers"] (defScope F_is_zero) := ⟨rfl, rfl, rfl, by decide +kernel, rfl, by decide +kernel, by decide +kernel⟩
theorem ok_iszero (G : Fun K "is_zero" "is_zero" F_is_zero f fd) (k0 : KP K o0 0 1) (ma : mg "all" = none) (mZ : mg "ZERO" = some (.ref o0)) : FnOk P w K mg base CX0 1 f fd ["numbers"] (spIz K) := by
  refine G.ok scIz (fun vs H Q E h => ?_) (fun cdv A outer s H vs Q E hr h => ?_)
  · obtain ⟨x, qs, rfl, _⟩ := h
    rfl
  obtain ⟨x, qs, rfl, ⟨a, xs, rfl, ha, nx⟩, hn, q⟩ := h
  refine ⟨_, pss_one (ps_ret (pe_callB (cr_all rfl) rfl ma (by decide +kernel) (pa_cons (pe_lc (own := [("number", 1)]) (g := gName 1) (tt := tYes) rfl scIz.nd (pi_list (pv 0)) (blkOk_by (N := nIz) (sc := defScope F_is_zero) (by decide +kernel)) (fun _ _ _ _ _ => pg_name (i := 1) scIz.nd rfl (Or.inl rfl)) (fun _ _ _ _ _ => pts_nil)
        (fun _ _ _ _ _ => pe_cmpR (eqD_at K rfl hr.units) (pv 1) (C8.pe_gc (v := .ref o0) rfl ⟨_, mZ, rfl⟩) (nomark _))) pa_nil))), ?_⟩
  have lx : xs.length = qs.length := nx.1
  refine ⟨_, rfl, a, rfl, ⟨_, SqL.of ha⟩, fun D nD => ?_⟩
  refine lc_acc (walk_list (K := K) (a := a) (xs := xs)) (fun i _ y => ∀ r, qs[i]? = some r → y = .bl (decide (r = 0))) (fun i H H' y l h _ _ => h) nD (by omega) (fun H2 s => SqL.of (s _ _ ha)) ?_ ?_
  · rintro i x H2 H3 k hi s2 ⟨rfl, hx2⟩ hk
    obtain ⟨b, eb, nb⟩ := nx.get hx2
    refine ⟨rfl, _, rfl, tupQ b, tupQ 0, (nb.same s2).dp, k0.dp _, rfl, rfl, ?_⟩
    rw [eqv_num]
    exact hk _ _ (Same.refl _) fun r hr => by rw [eb] at hr; rw [← Option.some.inj hr]
  · intro H2 zs s2 hD hl hR
    have ez : zs = (qs.map fun q => decide (q = 0)).map V.bl := by
      apply List.ext_getElem?
      intro i
      rw [List.map_map, List.getElem?_map]
      by_cases c : i < qs.length
      · rw [List.getElem?_eq_getElem c]
        have e := List.getElem?_eq_getElem (l := zs) (i := i) (by omega)
        rw [e, hR i _ e _ (List.getElem?_eq_getElem c)]
        rfl
      · rw [List.getElem?_eq_none (by omega), List.getElem?_eq_none (by omega)]
        rfl
    refine ⟨D, _, rfl, SqL.of (by rw [hD, ez]), ?_⟩
    rw [List.all_map]
    exact q _ s2
theorem scLp : FnScope nLp ["numbers", "first"] (defScope F_least_place) := ⟨rfl, rfl, rfl, by decide +kernel, rfl, by decide +kernel, by decide +kernel⟩
theorem ok_least (G : Fun K "least_place" "least_place" F_least_place f fd) (k0 : KP K o0 0 1) (me : mg "enumerate" = none) (mZ : mg "ZERO" = some (.ref o0)) : FnOk P w K mg base CX0 1 f fd ["numbers", "first"] (spLp K) := by
  refine G.ok scLp (fun vs H Q E h => ?_) (fun cdv A outer s H vs Q E hr h => ?_)
  · obtain ⟨x, qs, fi, rfl, _⟩ := h
    rfl
  obtain ⟨x, qs, fi, rfl, ⟨a, xs, rfl, ha, nx⟩, q⟩ := h
  refine ⟨_, pss_cons (ps_for PassesOwn.never rfl (pi_enum rfl me (pa_cons (pv 0) pa_nil)) (pg_tup rfl (pgs_cons (pg_name (i := 2) scLp.nd rfl (Or.inl rfl)) (pgs_cons (pg_name (i := 3) scLp.nd rfl (Or.inl rfl)) pgs_nil)))
      (pss_one (ps_if (pt_cmpR (op_neD hr.units) (pv 3) (C8.pe_gc (v := .ref o0) rfl ⟨_, mZ, rfl⟩) (nomark _)) (pss_one (ps_ret (pe_op op_add (pv 1) (pv 2)))) pss_nil)))
    (pss_one (ps_ret pe_non)), ?_⟩
  refine ⟨_, rfl, a, _, rfl, SqL.of ha, ?_⟩
  refine for_it (walk_enum (K := K) (a := a) (xs := xs)) (fun i σ H' => Same H H' ∧ (∀ r ∈ qs.take i, r = 0) ∧ ∃ v v', σ = [some (.ref a), some (.int fi), v, v']) ⟨Same.refl H, by simp, none, none, rfl⟩ (fun i σ H' _ h => SqL.of (h.1 _ _ ha)) ?_ ?_
  · rintro i x σ H2 H3 hi ⟨s2, h2, v, v', rfl⟩ ⟨T, y, z, rfl, hT, rfl, hy, hz⟩
    refine ⟨T, [_, _], rfl, SqT.of upd_same, rfl, _, [_], rfl, _, [], rfl, rfl, ?_⟩
    have s3 := s2.trans (new_same hT (.tup [y, z]))
    obtain ⟨b, eb, nb⟩ := nx.get hz
    obtain rfl : y = .int ((i : Nat) : Int) := (Option.some.inj hy).symm
    refine ⟨_, rfl, tupQ b, tupQ 0, (nb.same s3).dp, k0.dp _, rfl, rfl, _, rfl, ?_⟩
    rw [eqv_num]
    by_cases c : b = 0
    · rw [decide_eq_true c]
      refine iteF ⟨s3, fun r hr => ?_, _, _, rfl⟩
      rw [List.take_add_one, eb] at hr
      rcases List.mem_append.mp hr with hr | hr
      · exact h2 r hr
      · rw [← c]
        simpa using hr
    · rw [decide_eq_false c]
      refine iteT ⟨_, rfl, _, rfl, fi, _, rfl, rfl, ?_⟩
      have := q _ s3
      unfold hgtV at this
      rw [hgtN_hit qs i 0 b h2 eb c, Nat.zero_add] at this
      exact this
  · rintro σ H2 ⟨s2, h2, v, v', rfl⟩
    rw [nx.1, List.take_length] at h2
    have := q _ s2
    unfold hgtV at this
    rw [hgtN_none qs 0 h2] at this
    exact this
theorem scKo : FnScope nKo ["numbers"] (defScope F_kind_of) := ⟨rfl, rfl, rfl, by decide +kernel, rfl, by decide +kernel, by decide +kernel⟩
theorem ok_kind (G : Fun K "kind_of" "kind_of" F_kind_of f fd) (k1 : KP K o1 1 1) (k0 : KP K o0 0 1) (km : KP K om (-1) 1) (mZ : mg "ZERO" = some (.ref o0)) (mO : mg "ONE" = some (.ref o1)) (mM : mg "MINUS_ONE" = some (.ref om))
    (UZ : Use P w K mg base CX0 1 "is_zero" ["numbers"] (spIz K) []) : FnOk P w K mg base CX0 2 f fd ["numbers"] (spKo K) := by
  refine G.ok scKo (fun vs H Q E h => ?_) (fun cdv A outer s H vs Q E hr h => ?_)
  · obtain ⟨x, qs, rfl, _⟩ := h
    rfl
  obtain ⟨x, qs, rfl, ⟨a, xs, rfl, ha, nx⟩, h1, hn, q⟩ := h
  refine ⟨_, pss_cons (ps_set (i := 1) scKo.nd rfl (Or.inl rfl) (pe_ix ix_list (pv 0) pe_int (fun _ _ => rfl)))
    (pss_cons (ps_set (i := 2) scKo.nd rfl (Or.inl rfl) (pe_not (pe_use UZ hr rfl pass0 (pa_cons (pe_slice sl_list (pv 0) (po_some pe_int) po_none) pa_nil))))
    (pss_cons (ps_if (pt_cmpR (op_eqD hr.units) (pv 1) (C8.pe_gc (v := .ref o0) rfl ⟨_, mZ, rfl⟩) (nomark _)) (pss_one (ps_ret (pe_ifExp (pt_val (pv 2)) pe_str pe_str))) pss_nil)
    (pss_cons (ps_if (pt_cmpR (op_eqD hr.units) (pv 1) (C8.pe_gc (v := .ref o1) rfl ⟨_, mO, rfl⟩) (nomark _)) (pss_one (ps_ret (pe_ifExp (pt_val (pv 2)) pe_str pe_str))) pss_nil)
    (pss_one (ps_ret (pe_ifExp (pt_cmpR (op_eqD hr.units) (pv 1) (C8.pe_gc (v := .ref om) rfl ⟨_, mM, rfl⟩) (nomark _)) pe_str pe_str)))))), ?_⟩
  obtain ⟨x0, e0, n0⟩ := nx.get' (i := 0) (by omega)
  have g0 : qs.getD 0 0 = qs[0] := by rw [List.getD_eq_getElem?_getD, List.getElem?_eq_getElem (by omega)]; rfl
  generalize hq0 : qs[0] = q0 at n0 g0
  refine ⟨_, rfl, a, _, 0, _, rfl, rfl, SqL.of ha, at_of (j := 0) rfl e0, _, rfl, 1, rfl, a, _, rfl, SqL.of ha, fun b nb => ?_⟩
  have ec : cutV xs (some 1) none = xs.drop 1 := cut_drop xs 1
  rw [ec]
  have s1 := new_same nb (.lst (xs.drop 1))
  refine ⟨.ref b, qs.drop 1, rfl, ⟨b, _, rfl, upd_same, (nx.drop 1).same s1⟩, by rw [List.length_drop]; omega, fun H2 s2 => ?_⟩
  have s2 := s1.trans s2
  have n2 := n0.same s2
  have dp2 : ∀ {H3}, H3 = H2 → Dp K H3 x0 (tupQ q0) := fun e => by rw [e]; exact n2.dp
  have e1 : tupQ 1 = .tuple [.int 1, .int 1] := rfl
  have em : tupQ (-1) = .tuple [.int (-1), .int 1] := rfl
  have eb : ∀ b : Bool, b = (qs.drop 1).all (fun q => decide (q = 0)) → (qs.drop 1).all (fun q => decide (q = 0)) = b := fun b h => h.symm
  generalize hz : (qs.drop 1).all (fun q => decide (q = 0)) = z
  refine ⟨_, rfl, _, rfl, tupQ q0, tupQ 0, n2.dp, k0.dp _, rfl, rfl, _, rfl, ?_⟩
  rw [eqv_num]
  by_cases c0 : q0 = 0
  · rw [decide_eq_true c0]
    have qk := q _ s2
    unfold kindS at qk
    rw [g0, if_pos c0, hz] at qk
    refine iteT ⟨_, rfl, _, rfl, ?_⟩
    cases z with
    | true => exact iteF qk
    | false => exact iteT qk
  rw [decide_eq_false c0]
  refine iteF ?_
  refine ⟨_, rfl, tupQ q0, tupQ 1, n2.dp, k1.dp _, rfl, rfl, _, rfl, ?_⟩
  rw [eqv_num]
  by_cases c1 : q0 = 1
  · rw [decide_eq_true c1]
    have qk := q _ s2
    unfold kindS at qk
    rw [g0, if_neg c0, if_pos c1, hz] at qk
    refine iteT ⟨_, rfl, _, rfl, ?_⟩
    cases z with
    | true => exact iteF qk
    | false => exact iteT qk
  rw [decide_eq_false c1]
  refine iteF ?_
  have qk := q _ s2
  unfold kindS at qk
  rw [g0, if_neg c0, if_neg c1] at qk
  refine ⟨_, rfl, tupQ q0, tupQ (-1), n2.dp, km.dp _, rfl, rfl, _, rfl, ?_⟩
  rw [eqv_num]
  by_cases cm : q0 = -1
  · rw [decide_eq_true cm]
    rw [if_pos cm] at qk
    exact iteT qk
  · rw [decide_eq_false cm]
    rw [if_neg cm] at qk
    exact iteF qk
end
end Kx
end
section
set_option maxHeartbeats 4000000
namespace Kx
open PySem PySem.Spec PyProof.Rows L2 RZ
def rwF (b : Addr) (n : Int) (hv : V) : List (Str × V) := [("_numbers", .ref b), ("order", .int n), ("height", hv)]
def stF (b : Addr) (n : Int) (x0 : V) (kd : Str) (hv fv sv : V) : List (Str × V) := [("_numbers", .ref b), ("order", .int n), ("lead", x0), ("kind", .str kd), ("height", hv), ("flat", fv), ("strength", sv)]
def rwN : List Str := ["_numbers", "order", "height"]
def stN : List Str := ["_numbers", "order", "lead", "kind", "height", "flat", "strength"]
/-- a row with these numbers -/
def RwAt (K : PySem.W.Frag) (C : Addr) (H : Hp) (v : V) (qs : List Rat) : Prop := ∃ (x dx b : Addr) (xs : List V), v = .ref x ∧ H x = some (.ins C dx (rwF b ((qs.length : Int) - 1) (hgtV qs 0))) ∧ H b = some (.lst xs) ∧ Nl K H xs qs ∧ 3 ≤ qs.length ∧ qs.length ≤ 25
theorem RwAt.same {K : PySem.W.Frag} {C : Addr} {H H' : Hp} {v : V} {qs : List Rat} (h : RwAt K C H v qs) (s : Same H H') : RwAt K C H' v qs := by
  obtain ⟨x, dx, b, xs, e, h1, h2, h3, h4⟩ := h
  exact ⟨x, dx, b, xs, e, s _ _ h1, s _ _ h2, h3.same s, h4⟩
/-- a step with these numbers -/
def StAt (K : PySem.W.Frag) (S : Addr) (H : Hp) (v : V) (qs : List Rat) : Prop := ∃ (x dx b : Addr) (xs : List V) (x0 fv sv : V), v = .ref x ∧ H x = some (.ins S dx (stF b (qs.length : Int) x0 (kindS qs) (hgtV qs 1) fv sv)) ∧ H b = some (.lst xs) ∧ Nl K H xs qs ∧ xs[0]? = some x0 ∧ 2 ≤ qs.length ∧ qs.length ≤ 24
theorem StAt.same {K : PySem.W.Frag} {S : Addr} {H H' : Hp} {v : V} {qs : List Rat} (h : StAt K S H v qs) (s : Same H H') : StAt K S H' v qs := by
  obtain ⟨x, dx, b, xs, x0, fv, sv, e, h1, h2, h3, h4⟩ := h
  exact ⟨x, dx, b, xs, x0, fv, sv, e, s _ _ h1, s _ _ h2, h3.same s, h4⟩
/-- what a constructor may be given: refused, or not -/
def Giv (K : PySem.W.Frag) (CF CO : Addr) (H : Hp) (v : V) (fu : Int) (E : XK) (good : List V → List Rat → Prop) : Prop :=
  (LsV K H v false ∧ Air H CF (fs1 "InvalidFraction" "at" [.int (-1)]) E) ∨
   ∃ (a : Addr) (xs : List V), v = .ref a ∧ SqH H a xs ∧
     (((xs.length : Int) + fu < 2 ∨ 24 < (xs.length : Int) + fu) ∧ Air H CO (fs1 "InvalidOrder" "value" [.int ((xs.length : Int) + fu)]) E ∨
      2 ≤ (xs.length : Int) + fu ∧ (xs.length : Int) + fu ≤ 24 ∧
        ((∃ (rs : List Bool) (k : Nat), Its K H xs rs ∧ badAt rs 0 = some k ∧ Air H CF (fs1 "InvalidFraction" "at" [.int (k : Nat)]) E) ∨ ∃ qs : List Rat, Nl K H xs qs ∧ good xs qs))
def spRI (K : PySem.W.Frag) (C CF CO : Addr) : Sp := fun vs H Q E => ∃ (x dx : Addr) (v : V), vs = [.ref x, v] ∧ v ≠ .ref x ∧ H x = some (.ins C dx []) ∧
  Giv K CF CO H v (-1) E fun xs qs => ∀ H' b, But x H H' → H b = none → H' x = some (.ins C dx (rwF b ((qs.length : Int) - 1) (hgtV qs 0))) → H' b = some (.lst xs) → Q .non H'
def spSI (K : PySem.W.Frag) (S CF CO : Addr) : Sp := fun vs H Q E => ∃ (x dx : Addr) (v : V), vs = [.ref x, v] ∧ v ≠ .ref x ∧ H x = some (.ins S dx []) ∧
  Giv K CF CO H v 0 E fun xs qs => ∀ H' b x0 fv sv, xs[0]? = some x0 → But x H H' → H b = none → H' x = some (.ins S dx (stF b (qs.length : Int) x0 (kindS qs) (hgtV qs 1) fv sv)) → H' b = some (.lst xs) → Q .non H'
abbrev nIn : List Str := ["self", "numbers"]
theorem but_put {x : Addr} {H : Hp} {o : HO} : But x H (upd H x o) := fun b u n h => by rw [upd_ne n]; exact h
theorem Nq.but {K : PySem.W.Frag} {H H' : Hp} {x C dx : Addr} {fs : List (Str × V)} {v : V} {q : Rat} (h : Nq K H v q) (hx : H x = some (.ins C dx fs)) (s : But x H H') : Nq K H' v q := by
  obtain ⟨a, e, h⟩ := h
  refine ⟨a, e, h.imp (fun h => s _ _ (fun z => ?_) h) id⟩
  rw [z, hx] at h
  cases h
theorem Nl.but {K : PySem.W.Frag} {H H' : Hp} {x C dx : Addr} {fs : List (Str × V)} {xs : List V} {qs : List Rat} (h : Nl K H xs qs) (hx : H x = some (.ins C dx fs)) (s : But x H H') : Nl K H' xs qs := ⟨h.1, fun i y q h1 h2 => (h.2 i y q h1 h2).but hx s⟩
section
variable {P : Program} {w : World} {K : PySem.W.Frag} {mg : Str → Option Value} {base : Heap} {f fI C S CF CO o1 o0 : Addr} {fd : FuncData}
/-- from Giv to the promise of checked_numbers -/
theorem Giv.cn {H : Hp} {v : V} {fu : Int} {E : XK} {Qx : Addr → Hp → Prop} {good : List V → List Rat → Prop} (h : Giv K CF CO H v fu E good)
    (q : ∀ a xs qs H' b, v = .ref a → SqH H a xs → Nl K H xs qs → good xs qs → 2 ≤ (xs.length : Int) + fu → (xs.length : Int) + fu ≤ 24 → Same H H' → H b = none → H' b = some (.lst xs) → Qx b H') :
  ((LsV K H v false ∧ Air H CF (fs1 "InvalidFraction" "at" [.int (-1)]) E) ∨
   ∃ (a : Addr) (xs : List V) (rs : List Bool), v = .ref a ∧ SqH H a xs ∧
     (((xs.length : Int) + fu < 2 ∨ 24 < (xs.length : Int) + fu) ∧ Air H CO (fs1 "InvalidOrder" "value" [.int ((xs.length : Int) + fu)]) E ∨
      2 ≤ (xs.length : Int) + fu ∧ (xs.length : Int) + fu ≤ 24 ∧ Its K H xs rs ∧ (∀ k : Nat, badAt rs 0 = some k → Air H CF (fs1 "InvalidFraction" "at" [.int (k : Nat)]) E) ∧
        (badAt rs 0 = none → ∀ H' b, Same H H' → H b = none → H' b = some (.lst xs) → Qx b H'))) := by
  rcases h with h | ⟨a, xs, rfl, ha, h⟩
  · exact .inl h
  · rcases h with ⟨ho, air⟩ | ⟨l1, l2, h⟩
    · exact .inr ⟨a, xs, [], rfl, ha, .inl ⟨ho, air⟩⟩
    · rcases h with ⟨rs, k, hI, hb, air⟩ | ⟨qs, nx, g⟩
      · refine .inr ⟨a, xs, rs, rfl, ha, .inr ⟨l1, l2, hI, fun k' hk => ?_, fun z => ?_⟩⟩
        · rw [hb] at hk
          rw [← Option.some.inj hk]
          exact air
        · rw [hb] at z; cases z
      · refine .inr ⟨a, xs, _, rfl, ha, .inr ⟨l1, l2, nx.its, fun k' hk => ?_, fun z H' b s n e => q a xs qs H' b rfl ha nx g l1 l2 s n e⟩⟩
        rw [bad_rep] at hk
        cases hk
end
end Kx
end
section
set_option maxHeartbeats 4000000
namespace Kx
open PySem PySem.Spec PyProof.Rows L2 RZ
theorem hgtN_ex : ∀ (qs : List Rat) (f : Nat), (∃ q ∈ qs, q ≠ 0) → ∃ k, k < qs.length ∧ hgtN qs f = some (f + k)
  | [], _, h => by obtain ⟨q, hq, _⟩ := h; cases hq
  | q :: qs, f, h => by
    by_cases c : q = 0
    · obtain ⟨r, hr, nr⟩ := h
      have hr' : r ∈ qs := by
        rcases List.mem_cons.mp hr with e | e
        · exact absurd (by rw [e]; exact c) nr
        · exact e
      obtain ⟨k, hk, e⟩ := hgtN_ex qs (f + 1) ⟨r, hr', nr⟩
      refine ⟨k + 1, by rw [List.length_cons]; omega, ?_⟩
      show (if q = 0 then hgtN qs (f + 1) else some f) = _
      rw [if_pos c, e]
      congr 1
      omega
    · refine ⟨0, by rw [List.length_cons]; omega, ?_⟩
      show (if q = 0 then hgtN qs (f + 1) else some f) = _
      rw [if_neg c]
      rfl
theorem not_zero {qs : List Rat} (h : ¬ (qs.all (fun q => decide (q = 0)) = true)) : ∃ q ∈ qs, q ≠ 0 := by
  rw [List.all_eq_true] at h
  exact Classical.byContradiction fun z => h fun q hq => decide_eq_true (Classical.byContradiction fun n => z ⟨q, hq, n⟩)
theorem kind_creep {qs : List Rat} (h : kindS qs = "creep") : ∃ q ∈ qs.drop 1, q ≠ 0 := by
  unfold kindS at h
  split at h
  · split at h <;> exact absurd h (by decide)
  · split at h
    · split at h
      · exact absurd h (by decide)
      · exact not_zero (by assumption)
    · split at h <;> exact absurd h (by decide)
theorem kind_crush {qs : List Rat} (h : kindS qs = "crush") : ∃ q ∈ qs, q ≠ 0 := by
  have z : ∃ q ∈ qs.drop 1, q ≠ 0 := by
    unfold kindS at h
    split at h
    · split at h
      · exact absurd h (by decide)
      · exact not_zero (by assumption)
    · split at h
      · split at h <;> exact absurd h (by decide)
      · split at h <;> exact absurd h (by decide)
  obtain ⟨q, hq, n⟩ := z
  exact ⟨q, List.mem_of_mem_drop hq, n⟩
/-- how far an __init__ has come -/
structure Stg (K : PySem.W.Frag) (H Hk : Hp) (x S dx : Addr) (fs : List (Str × V)) (b : Addr) (xs : List V) (qs : List Rat) : Prop where
  u : But x H Hk
  hx : Hk x = some (.ins S dx fs)
  hb : Hk b = some (.lst xs)
  nx : Nl K Hk xs qs
  xb : b ≠ x
theorem Stg.put {K : PySem.W.Frag} {H Hk : Hp} {x S dx : Addr} {fs : List (Str × V)} {b : Addr} {xs : List V} {qs : List Rat} (h : Stg K H Hk x S dx fs b xs qs) (fs' : List (Str × V)) : Stg K H (upd Hk x (.ins S dx fs')) x S dx fs' b xs qs :=
  ⟨h.u.trans but_put, upd_same, by rw [upd_ne h.xb]; exact h.hb, h.nx.but h.hx but_put, h.xb⟩
theorem Stg.go {K : PySem.W.Frag} {H Hk H' : Hp} {x S dx : Addr} {fs : List (Str × V)} {b : Addr} {xs : List V} {qs : List Rat} (h : Stg K H Hk x S dx fs b xs qs) (s : Same Hk H') : Stg K H H' x S dx fs b xs qs :=
  ⟨h.u.trans (But.same s), s _ _ h.hx, s _ _ h.hb, h.nx.same s, h.xb⟩
section
variable {P : Program} {w : World} {K : PySem.W.Frag} {mg : Str → Option Value} {base : Heap} {f fI C S CF CO o1 o0 : Addr} {fd : FuncData}
theorem scSI : FnScope nIn ["self", "numbers"] (defScope C_Step_init) := ⟨rfl, rfl, rfl, by decide +kernel, rfl, by decide +kernel, by decide +kernel⟩
theorem ok_stinit (G : Fun K "__init__" "Step.__init__" C_Step_init f fd) (c : Cls K S) (nA : ∀ n ∈ stN, NoAttr K S n) (mn : mg "len" = none)
    (UN : Use P w K mg base (L2.CX P w) 5 "checked_numbers" ["numbers", "further"] (spCn K CF CO) []) (UD : Use P w K mg base CX0 2 "kind_of" ["numbers"] (spKo K) []) (UL : Use P w K mg base CX0 1 "least_place" ["numbers", "first"] (spLp K) []) :
    FnOk P w K mg base (L2.CX P w) 6 f fd ["self", "numbers"] (spSI K S CF CO) := by
  refine G.okX scSI (fun vs H Q E h => ?_) (fun cdv A outer s H vs Q E hr h => ?_)
  · obtain ⟨x, dx, v, rfl, _⟩ := h
    rfl
  obtain ⟨x, dx, v, rfl, nv, hx, hg⟩ := h
  have hr1 := hr.mono (show 1 ≤ 5 by decide)
  have hr2 := hr.mono (show 2 ≤ 5 by decide)
  have n1 := nA "_numbers" (by simp [stN])
  have n2 := nA "order" (by simp [stN])
  have n3 := nA "lead" (by simp [stN])
  have n4 := nA "kind" (by simp [stN])
  have n5 := nA "height" (by simp [stN])
  have n6 := nA "flat" (by simp [stN])
  have n7 := nA "strength" (by simp [stN])
  refine ⟨_, pss_cons (ps_fld (pv 0) (pe_use (E := E) UN hr rfl (passes_call (takes_of rfl rfl rfl rfl) (fun _ _ _ _ h => h)) (pa_cons (pv 1) (pa_cons pe_int pa_nil))) rfl)
    (pss_cons (ps_fld (pv 0) (pe_callB call_len_seq rfl mn PySem.boot_len (pa_cons (pv 1) pa_nil)) rfl)
    (pss_cons (ps_fld (pv 0) (pe_ix ix_list (pe_fld (pv 0) rfl) pe_int (fun _ _ => rfl)) rfl)
    (pss_cons (ps_fld (pv 0) (pe_use UD hr2 rfl pass0 (pa_cons (pe_fld (pv 0) rfl) pa_nil)) rfl)
    (pss_cons (ps_fld (pv 0) (pe_use UL hr1 rfl pass0 (pa_cons (pe_fld (pv 0) rfl) (pa_cons pe_int pa_nil))) rfl)
    (pss_cons (ps_fld (pv 0) pe_non rfl)
    (pss_cons (ps_fld (pv 0) pe_non rfl)
    (C8.pss_cut (ps_if (pt_cmpR op_eq (pe_fld (pv 0) rfl) pe_str (nomark _)) (pss_cons (ps_fld (pv 0) (pe_use UL hr1 rfl pass0 (pa_cons (pe_slice sl_list (pe_fld (pv 0) rfl) (po_some pe_int) po_none) (pa_cons pe_int pa_nil))) rfl)
        (pss_one (ps_fld (pv 0) (pe_ix ix_list (pe_fld (pv 0) rfl) (pe_fld (pv 0) rfl) (fun _ _ => rfl)) rfl))) pss_nil)
    (pss_one (ps_if (pt_cmpR op_eq (pe_fld (pv 0) rfl) pe_str (nomark _)) (pss_one (ps_fld (pv 0) (pe_ix ix_list (pe_fld (pv 0) rfl) (pe_op op_sub (pe_fld (pv 0) rfl) pe_int) (fun _ _ => rfl)) rfl)) pss_nil))))))))), ?_⟩
  refine ⟨_, rfl, v, 0, rfl, ?_⟩
  refine hg.cn fun a xs qs H1 b ev ha nx g l1 l2 s1 nb hb => ?_
  subst ev
  have xb : b ≠ x := fun e => by rw [e, hx] at nb; cases nb
  have xa : a ≠ x := fun e => nv (by rw [e])
  have lq : xs.length = qs.length := nx.1
  have g1 : Stg K H H1 x S dx [] b xs qs := ⟨But.same s1, s1 _ _ hx, hb, nx.same s1, xb⟩
  have ha1 := ha.same s1
  refine ⟨_, rfl, x, S, dx, _, rfl, g1.hx, c, n1, by decide, ?_⟩
  have g2 := g1.put (putF "_numbers" (.ref b) [])
  have ha2 : SqH (upd H1 x (.ins S dx (putF "_numbers" (.ref b) []))) a xs := by
    unfold SqH
    rw [upd_ne xa]
    exact ha1
  generalize upd H1 x (.ins S dx (putF "_numbers" (.ref b) [])) = H2 at g2 ha2
  refine ⟨_, rfl, a, _, rfl, ha2.imp SqL.of SqT.of, _, rfl, x, S, dx, _, rfl, g2.hx, c, n2, (by show 1 < 1000; decide), ?_⟩
  have g3 := g2.put (putF "order" (.int ((xs.length : Nat) : Int)) (putF "_numbers" (.ref b) []))
  generalize upd H2 x (.ins S dx (putF "order" (.int ((xs.length : Nat) : Int)) (putF "_numbers" (.ref b) []))) = H3 at g3
  obtain ⟨x0, e0, m0⟩ := g3.nx.get' (i := 0) (by omega)
  refine ⟨_, rfl, x, S, dx, _, _, rfl, g3.hx, c, n1, rfl, b, xs, 0, x0, rfl, rfl, SqL.of g3.hb, at_of (j := 0) rfl e0, _, rfl, x, S, dx, _, rfl, g3.hx, c, n3, (by show 2 < 1000; decide), ?_⟩
  rw [lq] at g3 ⊢
  generalize hln : (((qs.length : Nat)) : Int) = ln at g3
  have g4 := g3.put (putF "lead" x0 (putF "order" (.int ln) (putF "_numbers" (.ref b) [])))
  generalize upd H3 x (.ins S dx (putF "lead" x0 (putF "order" (.int ln) (putF "_numbers" (.ref b) [])))) = H4 at g4
  refine ⟨_, rfl, x, S, dx, _, _, rfl, g4.hx, c, n1, rfl, .ref b, qs, rfl, ⟨b, xs, rfl, g4.hb, g4.nx⟩, by omega, by omega, fun H5 s5 => ?_⟩
  have g5 := g4.go s5
  refine ⟨_, rfl, x, S, dx, _, rfl, g5.hx, c, n4, (by show 3 < 1000; decide), ?_⟩
  generalize hkd : kindS qs = kd
  have g6 := g5.put (putF "kind" (.str kd) (putF "lead" x0 (putF "order" (.int ln) (putF "_numbers" (.ref b) []))))
  generalize upd H5 x (.ins S dx (putF "kind" (.str kd) (putF "lead" x0 (putF "order" (.int ln) (putF "_numbers" (.ref b) []))))) = H6 at g6
  refine ⟨_, rfl, x, S, dx, _, _, rfl, g6.hx, c, n1, rfl, .ref b, qs, 1, rfl, ⟨b, xs, rfl, g6.hb, g6.nx⟩, fun H7 s7 => ?_⟩
  have g7 := g6.go s7
  refine ⟨_, rfl, x, S, dx, _, rfl, g7.hx, c, n5, (by show 4 < 1000; decide), ?_⟩
  generalize hhv : hgtV qs 1 = hv
  have g8 := g7.put (putF "height" hv (putF "kind" (.str kd) (putF "lead" x0 (putF "order" (.int ln) (putF "_numbers" (.ref b) [])))))
  generalize upd H7 x (.ins S dx (putF "height" hv (putF "kind" (.str kd) (putF "lead" x0 (putF "order" (.int ln) (putF "_numbers" (.ref b) [])))))) = H8 at g8
  refine ⟨_, rfl, x, S, dx, _, rfl, g8.hx, c, n6, (by show 5 < 1000; decide), ?_⟩
  have g9 := g8.put (putF "flat" .non (putF "height" hv (putF "kind" (.str kd) (putF "lead" x0 (putF "order" (.int ln) (putF "_numbers" (.ref b) []))))))
  generalize upd H8 x (.ins S dx (putF "flat" .non (putF "height" hv (putF "kind" (.str kd) (putF "lead" x0 (putF "order" (.int ln) (putF "_numbers" (.ref b) []))))))) = H9 at g9
  refine ⟨_, rfl, x, S, dx, _, rfl, g9.hx, c, n7, (by show 6 < 1000; decide), ?_⟩
  have g10 : Stg K H (upd H9 x (.ins S dx (stF b ln x0 kd hv .non .non))) x S dx (stF b ln x0 kd hv .non .non) b xs qs := g9.put _
  refine ⟨fun σ H' => σ = [some (.ref x), some (.ref a)] ∧ ∃ fv sv, Stg K H H' x S dx (stF b ln x0 kd hv fv sv) b xs qs, ?_, ?_⟩
  · change Stg K H (upd H9 x (.ins S dx (putF "strength" .non (putF "flat" .non (putF "height" hv (putF "kind" (.str kd) (putF "lead" x0 (putF "order" (.int ln) (putF "_numbers" (.ref b) [])))))))))  x S dx (stF b ln x0 kd hv .non .non) b xs qs at g10
    generalize upd H9 x (.ins S dx (putF "strength" .non (putF "flat" .non (putF "height" hv (putF "kind" (.str kd) (putF "lead" x0 (putF "order" (.int ln) (putF "_numbers" (.ref b) [])))))))) = H10 at g10
    refine ⟨_, rfl, x, S, dx, _, _, rfl, g10.hx, c, n4, rfl, rfl, _, rfl, ite2 (fun e => ?_) (fun _ => ⟨rfl, _, _, g10⟩)⟩
    have ek : kindS qs = "creep" := by rw [hkd]; exact V.str.inj (of_decide_eq_true e)
    obtain ⟨k, hk, ek2⟩ := hgtN_ex (qs.drop 1) 0 (kind_creep ek)
    rw [List.length_drop] at hk
    refine ⟨_, rfl, x, S, dx, _, _, rfl, g10.hx, c, n1, rfl, 1, rfl, b, _, rfl, SqL.of g10.hb, fun p np => ?_⟩
    have ec : cutV xs (some 1) none = xs.drop 1 := cut_drop xs 1
    rw [ec]
    have s11 := new_same np (.lst (xs.drop 1))
    have g11 := g10.go s11
    refine ⟨.ref p, qs.drop 1, 1, rfl, ⟨p, _, rfl, upd_same, g11.nx.drop 1⟩, fun H12 s12 => ?_⟩
    have g12 := g11.go s12
    have ev : hgtV (qs.drop 1) 1 = .int (1 + (k : Nat)) := by
      unfold hgtV
      rw [ek2, Nat.zero_add]
    rw [ev]
    refine ⟨_, rfl, x, S, dx, _, rfl, g12.hx, c, n6, (by show 7 < 1000; decide), ?_⟩
    have g13 : Stg K H (upd H12 x (.ins S dx (putF "flat" (.int (1 + (k : Nat))) (stF b ln x0 kd hv .non .non)))) x S dx (stF b ln x0 kd hv (.int (1 + (k : Nat))) .non) b xs qs := g12.put _
    generalize upd H12 x (.ins S dx (putF "flat" (.int (1 + (k : Nat))) (stF b ln x0 kd hv .non .non))) = H13 at g13
    have e3 := List.getElem?_eq_getElem (l := xs) (i := 1 + k) (by omega)
    refine ⟨_, rfl, x, S, dx, _, _, rfl, g13.hx, c, n1, rfl, _, rfl, x, S, dx, _, _, rfl, g13.hx, c, n6, rfl, b, xs, _, _, rfl, rfl, SqL.of g13.hb, at_of (j := 1 + k) (by omega) e3, _, rfl, x, S, dx, _, rfl, g13.hx, c, n7, (by show 7 < 1000; decide), ?_⟩
    exact ⟨rfl, _, _, g13.put _⟩
  · rintro σ H10 ⟨rfl, fv, sv, g10⟩
    have fin : ∀ H' fv sv, Stg K H H' x S dx (stF b ln x0 kd hv fv sv) b xs qs → Q .non H' := fun H' fv sv z => by
      refine g H' b x0 fv sv e0 z.u nb ?_ z.hb
      rw [hln, hkd, hhv]
      exact z.hx
    refine ⟨_, rfl, x, S, dx, _, _, rfl, g10.hx, c, n4, rfl, rfl, _, rfl, ite2 (fun e => ?_) (fun _ => fin _ _ _ g10)⟩
    have ek : kindS qs = "crush" := by rw [hkd]; exact V.str.inj (of_decide_eq_true e)
    obtain ⟨k, hk, ek2⟩ := hgtN_ex qs 0 (kind_crush ek)
    have ev : hv = .int (1 + (k : Nat)) := by
      rw [← hhv]
      unfold hgtV
      rw [ek2, Nat.zero_add]
    have e3 := List.getElem?_eq_getElem (l := xs) (i := k) (by omega)
    refine ⟨_, rfl, x, S, dx, _, _, rfl, g10.hx, c, n1, rfl, _, rfl, x, S, dx, _, _, rfl, g10.hx, c, n5, rfl, 1 + (k : Nat), 1, ev, rfl, b, xs, _, _, rfl, rfl, SqL.of g10.hb, at_of (j := k) (by omega) e3, _, rfl, x, S, dx, _, rfl, g10.hx, c, n7, (by show 7 < 1000; decide), ?_⟩
    exact fin _ fv _ (g10.put _)
end
end Kx
end
section
set_option maxHeartbeats 4000000
namespace Kx
open PySem PySem.Spec PyProof.Rows L2
/-! ### operators of own classes -/
theorem ep_cmp {X : Cx} {pins : List (Addr × Obj)} {σ : L2.St} {Q : VK} {u : Value} {s' : Shared} (h : EP X pins σ Q u s') : PySem.W.CmpBack (EP X pins σ Q) u s' := by
  obtain ⟨v, H', I, r, q⟩ := h
  have key : u ≠ .notImplemented := by
    rintro rfl
    cases v <;> first | (obtain ⟨_, z⟩ := r; cases z) | cases r
  have fin : EP X pins σ Q u s' := ⟨v, H', I, r, q⟩
  cases u <;> first | exact fin | exact absurd rfl key
/-- an operator's method of a class -/
structure OpM (P : Program) (w : World) (K : PySem.W.Frag) (mg : Str → Option Value) (base : Heap) (CX : CXT) (k : Nat) (C : Addr) (nm : Str) (sp : Sp) : Prop where
  ex : ∃ (g : Addr) (fd : FuncData) (ps : List Str), PySem.W.findIn K (.ref C) nm = some (some (.ref g)) ∧ PySem.W.isFn K (.ref g) = true ∧ FnOk P w K mg base CX k g fd ps sp ∧ Binds K fd ps []
  sf : PySem.W.selfFirst K C = true
def rBin (C : Addr) (sp : Sp) (E : XK) : R2 := fun x y H Q => ∃ (a b dx dy : Addr) (fs gs : List (Str × V)), x = .ref a ∧ y = .ref b ∧ H a = some (.ins C dx fs) ∧ H b = some (.ins C dy gs) ∧ sp [x, y] H Q E
section
variable {X : Cx} {CX : CXT} {k : Nat} {C : Addr} {sp : Sp} {E : XK}
theorem op_bin {op : Operator} {nm : Str} (O : OpM X.prog X.w X.K X.mg X.base CX k C nm sp) (hn : PySem.dunder op.info.2 = nm) (hr : Room k X.A) (hx : Passes CX X E) : OpR X (binaryOp op) (rBin C sp E) := by
  intro pins s σ H x y v u Q I rx ry h
  obtain ⟨a, b, dx, dy, fs, gs, rfl, rfl, ha, hb', hsp⟩ := h
  obtain ⟨g, fd, ps, h1, h2, F, hb⟩ := O.ex
  cases rx
  cases ry
  obtain ⟨mA, J, _⟩ := ins_get I.hok ha
  obtain ⟨mB, J', _⟩ := ins_get I.hok hb'
  obtain ⟨od, J, _⟩ := J.look
  obtain ⟨od', J', _⟩ := J'.look
  obtain ⟨m, hF⟩ := I.fr
  refine PySem.W.binop_K (op := op) hF I.ok.mod.kin J J'.type O.sf (by rw [hn]; exact h1) h2 ?_
  exact wpAny_mono (run_fn (us := [.ref a, .ref b]) (vs := [.ref a, .ref b]) F hr hb .nil hx I (.cons rfl (.cons rfl .nil)) (by rw [List.append_nil]; exact hsp)) (fun r s' hq => ep_cmp hq) fun _ _ z => z
def rUnO (C : Addr) (sp : Sp) (E : XK) : V → Hp → VK → Prop := fun x H Q => ∃ (a dx : Addr) (fs : List (Str × V)), x = .ref a ∧ H a = some (.ins C dx fs) ∧ sp [x] H Q E
theorem un_own (O : OpM X.prog X.w X.K X.mg X.base CX k C "__neg__" sp) (hr : Room k X.A) (hx : Passes CX X E) : UnR X (unaryOp .USub) (rUnO C sp E) := by
  intro pins s σ H x v Q I rx h
  obtain ⟨a, dx, fs, rfl, ha, hsp⟩ := h
  obtain ⟨g, fd, ps, h1, h2, F, hb⟩ := O.ex
  cases rx
  obtain ⟨mA, J, _⟩ := ins_get I.hok ha
  obtain ⟨od, J, _⟩ := J.look
  obtain ⟨m, hF⟩ := I.fr
  refine PySem.W.ksp_neg hF I.ok.mod.kin J h1 h2 ?_
  exact run_fn (us := [.ref a]) (vs := [.ref a]) F hr hb .nil hx I (.cons rfl .nil) (by rw [List.append_nil]; exact hsp)
/-- ==, the left one of the class -/
def rEqO (K : PySem.W.Frag) (C : Addr) (sp : Sp) (E : XK) : R2 := fun x y H Q => ∃ (a dx : Addr) (fs : List (Str × V)) (t : Value), x = .ref a ∧ H a = some (.ins C dx fs) ∧ TyX K H y t ∧ PySem.W.notFirst K C t = true ∧ sp [x, y] H Q E
theorem op_eqO (O : OpM X.prog X.w X.K X.mg X.base CX k C "__eq__" sp) (hr : Room k X.A) (hx : Passes CX X E) : OpR X (compareOp .Eq) (rEqO X.K C sp E) := by
  intro pins s σ H x y v u Q I rx ry h
  obtain ⟨a, dx, fs, t, rfl, ha, ty, nf, hsp⟩ := h
  obtain ⟨g, fd, ps, h1, h2, F, hb⟩ := O.ex
  cases rx
  obtain ⟨mA, J, _⟩ := ins_get I.hok ha
  obtain ⟨od, J, _⟩ := J.look
  obtain ⟨m, hF⟩ := I.fr
  obtain ⟨Pp, Z, pp, _⟩ := kit_of I ry ty
  show wpAny (model X.prog X.w) X.A (richCompare .Eq (.ref a) u) (EP X pins σ Q) X.xe s
  refine PySem.W.cmp_K (op := .Eq) (tb := t) hr.units0 hF I.ok.mod.kin J (Z.ty _ _ I.kIn pp) nf h1 h2 ?_
  exact wpAny_mono (run_fn (us := [.ref a, u]) (vs := [.ref a, y]) F hr hb .nil hx I (.cons rfl (.cons ry .nil)) (by rw [List.append_nil]; exact hsp)) (fun r s' hq => ep_cmp hq) fun _ _ z => z
/-- len(x), x of the class -/
def rLenO (C : Addr) (sp : Sp) (E : XK) : List V → Hp → VK → Prop := fun xs H Q => ∃ (a dx : Addr) (fs : List (Str × V)), xs = [.ref a] ∧ H a = some (.ins C dx fs) ∧ sp [.ref a] H (fun v H' => ∃ n : Nat, v = .int (n : Nat) ∧ n < 2 ^ 62 ∧ Q (.int (n : Nat)) H') E
theorem call_lenO (O : OpM X.prog X.w X.K X.mg X.base CX k C "__len__" sp) (hr : Room (k + 1) X.A) (hx : Passes CX X E) : CallR X (.builtin "len") (rLenO C sp E) := by
  intro pins s σ H xs us Q I r h
  obtain ⟨a, dx, fs, rfl, ha, hsp⟩ := h
  obtain ⟨g, fd, ps, h1, h2, F, hb⟩ := O.ex
  obtain rfl : us = [.ref a] := Vals.ref1 r
  obtain ⟨mA, J, _⟩ := ins_get I.hok ha
  obtain ⟨od, J, _⟩ := J.look
  obtain ⟨m, hF⟩ := I.fr
  refine PySem.W.len_K hF I.ok.mod.kin J h1 h2 ?_
  have hl := F.len _ _ _ _ hsp
  refine wpAny_call (codeAny_mono (F.run X.A.in1 X.stack s H ⟨[.ref a], []⟩ [.ref a] [.ref a] _ E hr.in1 I.env0.in1 (by
    have := hb s [.ref a] I.kIn (by simpa using hl)
    simpa using this) (.cons rfl .nil) hsp) fun r s' hq => ?_)
  cases r with
  | error e => exact hx pins σ H s e s' I hq
  | ok fl =>
    cases fl with
    | ret w =>
      obtain ⟨z, H', I', rz, n, ez, nb, q⟩ := I.after hq
      subst ez
      obtain ⟨t, rfl⟩ := rz
      exact ⟨⟨by omega, by omega⟩, .int _, H', I'.tok _, ⟨_, rfl⟩, q⟩
    | next => exact False.elim hq
    | brk => exact False.elim hq
    | cont => exact False.elim hq
end
/-! ### methods as they are used -/
structure MUse (P : Program) (w : World) (K : PySem.W.Frag) (mg : Str → Option Value) (base : Heap) (CX : CXT) (k : Nat) (C : Addr) (m : Str) (ps : List Str) (sp : Sp) (kws : List (List Str)) : Prop where
  ex : ∃ (g : Addr) (fd : FuncData), Meth K C m g ∧ FnOk P w K mg base CX k g fd ps sp ∧ Binds K fd ps [] ∧ ∀ ks ∈ kws, KBn K fd ps 1 ks appB appA
  c : Cls K C
section
variable {X : Cx} {CX : CXT} {k : Nat} {C : Addr} {m : Str} {ps ks : List Str} {sp : Sp} {E : XK} {kl : List (List Str)} {o e : Expr} {es : List Expr} {ta : TE} {t tk : TA} {apos pos : Pos} {kws : List Keyword} {pl : Sem Bool}
theorem pe_mu (U : MUse X.prog X.w X.K X.mg X.base CX k C m ps sp kl) (he : PE X o ta) (hr : Room k X.A) (hx : Passes CX X E) (ha : PA X (e :: es) t)
    (hst : starEach (e :: es) X.env = (false, eval e X.env) :: starEach es X.env := by rfl) (hpl : (backTo pos (starEach es X.env)).any (·.1) = false := by rfl)
    (ht : eval (.Call (.Attribute o m apos) (e :: es) [] pos) X.env = (do
      let ov ← eval o X.env
      standAt apos.atName
      let (f, first) ← holding [ov] (getMethod ov m pl)
      callWith pos f first (backTo pos (starEach (e :: es) X.env)) (backToKw pos (keywordEach [] X.env))) := by rfl) :
    PE X (.Call (.Attribute o m apos) (e :: es) [] pos) (tMeth C m sp [] E ta t) := by
  obtain ⟨g, fd, hm, F, hb, _⟩ := U.ex
  exact pe_meth (pl := pl) he U.c hm F hr hb .nil hx ha hst hpl ht
theorem pe_mu0 (U : MUse X.prog X.w X.K X.mg X.base CX k C m ps sp kl) (he : PE X o ta) (hr : Room k X.A) (hx : Passes CX X E)
    (ht : eval (.Call (.Attribute o m apos) [] [] pos) X.env = (do
      let ov ← eval o X.env
      standAt apos.atName
      let (f, first) ← holding [ov] (getMethod ov m pl)
      callWith pos f first (backTo pos (starEach [] X.env)) (backToKw pos (keywordEach [] X.env))) := by rfl) :
    PE X (.Call (.Attribute o m apos) [] [] pos) (tMeth C m sp [] E ta tNil) := by
  obtain ⟨g, fd, hm, F, hb, _⟩ := U.ex
  exact pe_meth0 (pl := pl) he U.c hm F hr hb .nil hx ht
/-- o.m(k = v, ..), keywords alone -/
def tMethR (C : Addr) (m : Str) (n : Nat) (sp : Sp) (E : XK) (ta : TE) (tk : TA) : TE := fun σ H Q => ta σ H fun x H1 => ∃ a dx fs, x = .ref a ∧ H1 a = some (.ins C dx fs) ∧ fs.lookup m = none ∧ tk σ H1 fun zs H2 => zs.length = n ∧ sp (x :: zs) H2 Q E
theorem pe_muR (U : MUse X.prog X.w X.K X.mg X.base CX k C m ps sp kl) (he : PE X o ta) (hr : Room k X.A) (hx : Passes CX X E) (hkw : PK X kws tk) (hin : ks ∈ kl)
    (hall : (backToKw pos (keywordEach kws X.env)).all (·.1.isSome) = true := by rfl) (hks : (backToKw pos (keywordEach kws X.env)).filterMap (·.1) = ks := by rfl)
    (hpl : ((backTo pos (starEach [] X.env)).any (·.1) || (backToKw pos (keywordEach kws X.env)).any (·.1.isNone)) = false := by rfl)
    (ht : eval (.Call (.Attribute o m apos) [] kws pos) X.env = (do
      let ov ← eval o X.env
      standAt apos.atName
      let (f, first) ← holding [ov] (getMethod ov m pl)
      callWith pos f first (backTo pos (starEach [] X.env)) (backToKw pos (keywordEach kws X.env))) := by rfl) :
    PE X (.Call (.Attribute o m apos) [] kws pos) (tMethR C m ks.length sp E ta tk) := by
  obtain ⟨g, fd, hm, F, _, hK⟩ := U.ex
  have hb := hK ks hin
  refine ⟨fun pins s σ H Q I h => ?_⟩
  refine PySem.W.methodCall_KW (pl := pl) (thn (he.run pins s σ H _ I h) fun u s1 ⟨x, H1, I1, rx, a, dx, fs, ex, ea, l, q⟩ => ?_) ht
  subst ex
  obtain rfl : u = Value.ref a := rx
  refine getmeth_ok I1 ea U.c hm l ?_
  refine PySem.W.callWith_KW0 (first := [.ref a]) (h₀ := X.base) I.ok.mod.kin hm.kp hall ?_ hpl
  refine thn (hkw.run pos pins s1 σ H1 _ I1 q) fun ws s2 ⟨zs, H2, I2, rz, l2, q2⟩ => ⟨I2.kIn, ?_⟩
  rw [hks]
  exact run_fnN (us := [.ref a]) (vs := [.ref a]) F hr hb hx I2 (.cons rfl .nil) rz rfl l2 q2
end
structure CSta (K : PySem.W.Frag) (C : Addr) (mc : Value) (m : Str) (p g : Addr) : Prop where
  at_ : PySem.W.findCls K (.ref C) mc m = some (.get (.builtin "staticmethod.__get__") (.ref p) .none (.ref C))
  rc : ∃ rest, PySem.W.recIn K p "staticmethod" = some (.ref g :: rest)
  kp : PySem.W.keepIn K (.ref g) = true
def tStat (C : Addr) (sp : Sp) (E : XK) (ta : TE) (t : TA) : TE := fun σ H Q => ta σ H fun x H1 => x = .ref C ∧ t σ H1 fun vs H2 => sp vs H2 Q E
section
variable {X : Cx} {CX : CXT} {k : Nat} {C p g : Addr} {mc : Value} {fd : FuncData} {ps : List Str} {sp : Sp} {E : XK} {o e : Expr} {es : List Expr} {m : Str} {pos apos : Pos} {ta : TE} {t : TA} {pl : Sem Bool}
theorem pe_static (he : PE X o ta) (r : ClX.CRead X.K C mc) (c : CSta X.K C mc m p g) (F : FnOk X.prog X.w X.K X.mg X.base CX k g fd ps sp) (hr : Room k X.A) (hb : Binds X.K fd ps []) (hx : Passes CX X E) (ha : PA X (e :: es) t)
    (hst : starEach (e :: es) X.env = (false, eval e X.env) :: starEach es X.env := by rfl) (hpl : (backTo pos (starEach es X.env)).any (·.1) = false := by rfl)
    (ht : eval (.Call (.Attribute o m apos) (e :: es) [] pos) X.env = (do
      let ov ← eval o X.env
      standAt apos.atName
      let (f, first) ← holding [ov] (getMethod ov m pl)
      callWith pos f first (backTo pos (starEach (e :: es) X.env)) (backToKw pos (keywordEach [] X.env))) := by rfl) :
    PE X (.Call (.Attribute o m apos) (e :: es) [] pos) (tStat C sp E ta t) := by
  refine ⟨fun pins s σ H Q I h => ?_⟩
  refine PySem.W.methodCall_KW (pl := pl) (thn (he.run pins s σ H _ I h) fun u s1 ⟨x, H1, I1, rx, ex, q⟩ => ?_) ht
  subst ex
  obtain rfl : u = Value.ref C := rx
  obtain ⟨rest, hp⟩ := c.rc
  refine PySem.W.method_cls I1.kIn r.ga (PySem.W.cls_bind I1.kIn r.rd c.at_ (wpAny_call (PySem.W.sm_get (s := { s1 with toks := s1.toks + 1 }) I1.kIn hp (PySem.W.handed_on rfl ?_))))
  have I2 : Inv X pins σ H1 { s1 with toks := s1.toks + 1 } := I1.tok _
  refine PySem.W.callWith_K (h₀ := X.base) I2.ok.mod.kin c.kp (thn (ha.run pos pins _ σ H1 _ I2 q) fun us s3 ⟨vs, H2, I3, rv, q2⟩ => ⟨I3.kIn, ?_⟩) hst hpl
  exact run_fn F hr hb .nil hx I3 rv (by rw [List.append_nil]; exact q2)
end
/-- C.m(k = v, ..) of a staticmethod, keywords alone -/
def tStatR (C : Addr) (n : Nat) (sp : Sp) (E : XK) (ta : TE) (t : TA) : TE := fun σ H Q => ta σ H fun x H1 => x = .ref C ∧ t σ H1 fun zs H2 => zs.length = n ∧ sp zs.reverse H2 Q E
section
variable {X : Cx} {CX : CXT} {k : Nat} {C p g : Addr} {mc : Value} {fd : FuncData} {ps ks : List Str} {sp : Sp} {E : XK} {o : Expr} {m : Str} {pos apos : Pos} {ta : TE} {tk : TA} {pl : Sem Bool} {kws : List Keyword}
theorem pe_staticR (he : PE X o ta) (r : ClX.CRead X.K C mc) (c : CSta X.K C mc m p g) (F : FnOk X.prog X.w X.K X.mg X.base CX k g fd ps sp) (hr : Room k X.A) (hb : KBn X.K fd ps 0 ks revB revA) (hx : Passes CX X E) (hkw : PK X kws tk)
    (hall : (backToKw pos (keywordEach kws X.env)).all (·.1.isSome) = true := by rfl) (hks : (backToKw pos (keywordEach kws X.env)).filterMap (·.1) = ks := by rfl)
    (hpl : ((backTo pos (starEach [] X.env)).any (·.1) || (backToKw pos (keywordEach kws X.env)).any (·.1.isNone)) = false := by rfl)
    (ht : eval (.Call (.Attribute o m apos) [] kws pos) X.env = (do
      let ov ← eval o X.env
      standAt apos.atName
      let (f, first) ← holding [ov] (getMethod ov m pl)
      callWith pos f first (backTo pos (starEach [] X.env)) (backToKw pos (keywordEach kws X.env))) := by rfl) :
    PE X (.Call (.Attribute o m apos) [] kws pos) (tStatR C ks.length sp E ta tk) := by
  refine ⟨fun pins s σ H Q I h => ?_⟩
  refine PySem.W.methodCall_KW (pl := pl) (thn (he.run pins s σ H _ I h) fun u s1 ⟨x, H1, I1, rx, ex, q⟩ => ?_) ht
  subst ex
  obtain rfl : u = Value.ref C := rx
  obtain ⟨rest, hp⟩ := c.rc
  refine PySem.W.method_cls I1.kIn r.ga (PySem.W.cls_bind I1.kIn r.rd c.at_ (wpAny_call (PySem.W.sm_get (s := { s1 with toks := s1.toks + 1 }) I1.kIn hp (PySem.W.handed_on rfl ?_))))
  have I2 : Inv X pins σ H1 { s1 with toks := s1.toks + 1 } := I1.tok _
  refine PySem.W.callWith_KW0 (h₀ := X.base) I2.ok.mod.kin c.kp hall ?_ hpl
  refine thn (hkw.run pos pins _ σ H1 _ I2 q) fun ws s3 ⟨zs, H2, I3, rz, l2, q2⟩ => ⟨I3.kIn, ?_⟩
  rw [hks]
  exact run_fnN (us := []) (vs := []) F hr hb hx I3 .nil rz rfl l2 q2
end
end Kx
end
section
set_option maxHeartbeats 4000000
namespace Kx
open PySem PySem.Spec PyProof.Rows L2 RZ
/-! ### lists of numbers as data -/
def datL (qs : List Rat) : PyData := .list (qs.map tupQ)
theorem dpAll : ∀ {K : PySem.W.Frag} {H : Hp} {xs : List V} {qs : List Rat}, Nl K H xs qs → DpAll K H xs (qs.map tupQ)
  | _, _, [], [], _ => .nil
  | _, _, [], _ :: _, h => by cases h.1
  | _, _, _ :: _, [], h => by cases h.1
  | _, _, x :: xs, q :: qs, h => .cons (h.2 0 x q rfl rfl).dp (dpAll h.tail)
theorem Nl.dp {K : PySem.W.Frag} {H : Hp} {b : Addr} {xs : List V} {qs : List Rat} (h : Nl K H xs qs) (e : H b = some (.lst xs)) : Dp K H (.ref b) (datL qs) := .lst (SqL.of e) (dpAll h)
theorem eqvA_num : ∀ qs rs : List Rat, PyData.eqvAll (qs.map tupQ) (rs.map tupQ) = decide (qs = rs)
  | [], [] => rfl
  | [], _ :: _ => by simp [PyData.eqvAll]
  | _ :: _, [] => by simp [PyData.eqvAll]
  | q :: qs, r :: rs => by
    show (PyData.eqv (tupQ q) (tupQ r) && PyData.eqvAll (qs.map tupQ) (rs.map tupQ)) = _
    rw [eqv_num, eqvA_num qs rs]
    by_cases c : q = r
    · by_cases d : qs = rs
      · simp [c, d]
      · simp [c, d]
    · simp [c]
theorem eqv_list (qs rs : List Rat) : PyData.eqv (datL qs) (datL rs) = decide (qs = rs) := by
  show PyData.eqvAll _ _ = _
  exact eqvA_num qs rs
theorem lay_num : ∀ qs : List Rat, PyData.canLayAll0 (qs.map tupQ) = true ∧ PyData.depthAll (qs.map tupQ) ≤ 1
  | [] => ⟨rfl, by decide⟩
  | q :: qs => by
    obtain ⟨h1, h2⟩ := lay_num qs
    constructor
    · show (PyData.canLay0 (tupQ q) && PyData.canLayAll0 (qs.map tupQ)) = true
      rw [h1]
      rfl
    · show max (PyData.depth (tupQ q)) (PyData.depthAll (qs.map tupQ)) ≤ 1
      have : PyData.depth (tupQ q) = 1 := rfl
      omega
theorem shaped_list (qs : List Rat) : SeqAt.shaped (datL qs) = true := by
  obtain ⟨h1, h2⟩ := lay_num qs
  unfold SeqAt.shaped
  rw [Bool.and_eq_true]
  refine ⟨h1, decide_eq_true ?_⟩
  show PyData.depthAll (qs.map tupQ) + 1 ≤ 64
  omega
/-! ### the methods of rows -/
section
variable (K : PySem.W.Frag) (C S : Addr)
/-- a new row comes back -/
def GivesR (H : Hp) (Q : VK) (rs : List Rat) : Prop := ∀ H' y, Same H H' → RwAt K C H' y rs → Q y H'
def spNu : Sp := fun vs H Q _ => ∃ (x : V) (qs : List Rat), vs = [x] ∧ RwAt K C H x qs ∧ GivesL K H Q qs
def spNm (CP : Addr) : Sp := fun vs H Q E => ∃ (x v : V) (qs : List Rat) (r : Bool), vs = [x, v] ∧ RwAt K C H x qs ∧ InR K H v 0 ((qs.length : Int) - 1) r ∧ (r = false → Air H CP (fs1 "InvalidPlace" "value" [v]) E) ∧
  (r = true → ∀ (j : Nat) (y : V) (q : Rat), v = .int (j : Nat) → qs[j]? = some q → Nq K H y q → Q y H)
def spSc (CN : Addr) : Sp := fun vs H Q E => ∃ (x v : V) (qs : List Rat) (r : Bool), vs = [x, v] ∧ RwAt K C H x qs ∧ IsG K H v r ∧ (r = false → Air H CN (fs1 "InvalidNumber" "value" [v]) E) ∧
  (r = true → ∃ t, Nq K H v t ∧ AllB 4000 qs ∧ Bq 4000 t ∧ GivesR K C H Q (qs.map (· * t)))
def spCu (CO CL : Addr) : Sp := fun vs H Q E => ∃ (x v : V) (qs : List Rat) (r : Bool), vs = [x, v] ∧ RwAt K C H x qs ∧ InR K H v 2 24 r ∧ (r = false → Air H CO (fs1 "InvalidOrder" "value" [v]) E) ∧
  (r = true → ∀ i : Int, v = .int i → ((qs.length : Int) - 1 < i → Air H CL (fs2 "OrderTooLow" "have" "wanted" [.int ((qs.length : Int) - 1), .int i]) E) ∧ (i ≤ (qs.length : Int) - 1 → GivesR K C H Q (qs.take (i.toNat + 1))))
def spCt (CN CO : Addr) : Sp := fun vs H Q E => ∃ (v u : V) (r1 r2 : Bool), vs = [v, u] ∧ IsG K H v r1 ∧ InR K H u 2 24 r2 ∧ (r1 = false → Air H CN (fs1 "InvalidNumber" "value" [v]) E) ∧ (r1 = true → r2 = false → Air H CO (fs1 "InvalidOrder" "value" [u]) E) ∧
  (r1 = true → r2 = true → ∃ (q : Rat) (n : Nat), Nq K H v q ∧ u = .int (n : Nat) ∧ 2 ≤ n ∧ n ≤ 24 ∧ GivesR K C H Q (q :: List.replicate n 0))
def spOp (CU : Addr) (n : Nat) (op : List Rat → List Rat → List Rat) : Sp := fun vs H Q E => ∃ (x y : V) (qs rs : List Rat), vs = [x, y] ∧ RwAt K C H x qs ∧ RwAt K C H y rs ∧ (qs.length ≠ rs.length → Air H CU (fs2 "UnlikeOrders" "one" "other" [.int ((qs.length : Int) - 1), .int ((rs.length : Int) - 1)]) E) ∧
  (qs.length = rs.length → AllB n qs ∧ AllB n rs ∧ GivesR K C H Q (op qs rs))
def spNe : Sp := fun vs H Q _ => ∃ (x : V) (qs : List Rat), vs = [x] ∧ RwAt K C H x qs ∧ GivesR K C H Q (qs.map (- ·))
def spEqR : Sp := fun vs H Q _ => ∃ (x y : V) (qs : List Rat), vs = [x, y] ∧ RwAt K C H x qs ∧ ((∃ rs, RwAt K C H y rs ∧ Q (.bl (decide (qs = rs))) H) ∨ (∃ T, TyX K H y T ∧ PySem.W.kitOne K T (.ref C) = some false ∧ Q (.bl false) H))
def spLe : Sp := fun vs H Q _ => ∃ (x : V) (qs : List Rat), vs = [x] ∧ RwAt K C H x qs ∧ Q (.int (qs.length : Nat)) H
end
/-- what stands of the class of the rows -/
structure RowK (P : Program) (w : World) (K : PySem.W.Frag) (mg : Str → Option Value) (base : Heap) (C CF CO : Addr) : Prop where
  c : Cls K C
  nA : ∀ n ∈ rwN, NoAttr K C n
  m : mg "Row" = some (.ref C)
  ini : ∃ (fI : Addr) (fd : FuncData), Mk K C fI ∧ FnOk P w K mg base (L2.CX P w) 6 fI fd ["self", "numbers"] (spRI K C CF CO) ∧ Binds K fd ["self", "numbers"] [] ∧ KBn K fd ["self", "numbers"] 1 ["numbers"] appB appA
  ty : ∀ H a dx fs, H a = some (.ins C dx fs) → TyX K H (.ref a) (.ref C)
  kit : PySem.W.kitOne K (.ref C) (.ref C) = some true
section
variable {P : Program} {w : World} {K : PySem.W.Frag} {mg : Str → Option Value} {base : Heap} {f C S CF CO CN CP CL CU o0 : Addr} {fd : FuncData}
theorem RwAt.num {H : Hp} {v : V} {qs : List Rat} (h : RwAt K C H v qs) (k : RowK P w K mg base C CF CO) : ∃ (x dx b : Addr) (xs : List V) (fs : List (Str × V)), v = .ref x ∧ H x = some (.ins C dx fs) ∧ H b = some (.lst xs) ∧ Nl K H xs qs ∧ fs.lookup ("_numbers" : Str) = some (.ref b) ∧ fs.lookup ("order" : Str) = some (.int ((qs.length : Int) - 1)) ∧ fs.lookup ("height" : Str) = some (hgtV qs 0) ∧ fs.lookup ("numbers" : Str) = none ∧ 3 ≤ qs.length ∧ qs.length ≤ 25 := by
  obtain ⟨x, dx, b, xs, e, h1, h2, h3, h4, h5⟩ := h
  exact ⟨x, dx, b, xs, _, e, h1, h2, h3, rfl, rfl, rfl, rfl, h4, h5⟩
theorem RwAt.ord {H : Hp} {v : V} {qs : List Rat} (h : RwAt K C H v qs) (k : RowK P w K mg base C CF CO) : At K H v "order" (.int ((qs.length : Int) - 1)) := by
  obtain ⟨x, dx, b, xs, e, h1, _⟩ := h
  exact ⟨x, C, dx, _, e, h1, k.c, k.nA _ (by simp [rwN]), rfl⟩
/-- Row(v): from the numbers that v holds -/
theorem mk_row {H : Hp} {v : V} {E : XK} {Q : VK} (h : Giv K CF CO H v (-1) E fun xs qs => ∀ H' y, Same H H' → RwAt K C H' y qs → Q y H') (hv : ∀ a, v = .ref a → H a ≠ none) :
    ∀ x dx, H x = none → H dx = none → dx ≠ x → spRI K C CF CO [.ref x, v] (upd (upd H dx (.own x)) x (.ins C dx [])) (fun z H2 => z = .non ∧ Q (.ref x) H2) E := by
  intro x dx nx ndx ne
  have hx2 : upd (upd H dx (.own x)) x (.ins C dx []) x = some (.ins C dx []) := upd_same
  have sm : Same H (upd (upd H dx (.own x)) x (.ins C dx [])) := (new_same ndx _).trans (new_same (by rw [upd_ne (Ne.symm ne)]; exact nx) _)
  refine ⟨x, dx, v, rfl, fun e => hv x e nx, hx2, ?_⟩
  rcases h with ⟨h1, h2⟩ | ⟨a, xs, ev, ha, h⟩
  · exact .inl ⟨h1.same sm, h2.same sm⟩
  refine .inr ⟨a, xs, ev, ha.same sm, ?_⟩
  rcases h with ⟨ho, air⟩ | ⟨l1, l2, h⟩
  · exact .inl ⟨ho, air.same sm⟩
  refine .inr ⟨l1, l2, ?_⟩
  rcases h with ⟨rs, k, hI, hb, air⟩ | ⟨qs, hn, q⟩
  · exact .inl ⟨rs, k, hI.same sm, hb, air.same sm⟩
  refine .inr ⟨qs, hn.same sm, fun H' b u nb hx hb => ⟨rfl, ?_⟩⟩
  have lq : xs.length = qs.length := hn.1
  have s' : Same H H' := fun e o he => u e o (fun z => by rw [z, nx] at he; cases he) (sm e o he)
  exact q H' _ s' ⟨x, dx, b, xs, rfl, hx, hb, hn.same s', by omega, by omega⟩
/-- a list of numbers that is long enough is taken -/
theorem giv_ok {H : Hp} {a : Addr} {xs : List V} {qs : List Rat} {fu : Int} {E : XK} {good : List V → List Rat → Prop} (ha : SqH H a xs) (hn : Nl K H xs qs) (l1 : 2 ≤ (qs.length : Int) + fu) (l2 : (qs.length : Int) + fu ≤ 24) (g : good xs qs) :
    Giv K CF CO H (.ref a) fu E good := .inr ⟨a, xs, rfl, ha, .inr ⟨by rw [hn.1]; exact l1, by rw [hn.1]; exact l2, .inr ⟨qs, hn, g⟩⟩⟩
theorem row_new {H H1 : Hp} {a : Addr} {xs : List V} {qs : List Rat} {E : XK} {Q : VK} (s : Same H H1) (ha : SqH H1 a xs) (hn : Nl K H1 xs qs) (l1 : 3 ≤ qs.length) (l2 : qs.length ≤ 25) (g : GivesR K C H Q qs) :
    ∀ x dx, H1 x = none → H1 dx = none → dx ≠ x → spRI K C CF CO [.ref x, .ref a] (upd (upd H1 dx (.own x)) x (.ins C dx [])) (fun z H2 => z = .non ∧ Q (.ref x) H2) E :=
  mk_row (giv_ok ha hn (by omega) (by omega) fun H' y s' r => g H' y (s.trans s') r) fun b e z => by
    obtain rfl : a = b := V.ref.inj e
    rcases ha with h | h <;> rw [h] at z <;> cases z
end
end Kx
end
section
set_option maxHeartbeats 4000000
namespace Kx
open PySem PySem.Spec PyProof.Rows L2 RZ
def spOpM (K : PySem.W.Frag) (C CU : Addr) : Sp := fun vs H Q E => ∃ (x y : V) (qs rs : List Rat), vs = [x, y] ∧ RwAt K C H x qs ∧ RwAt K C H y rs ∧ (qs.length ≠ rs.length → Air H CU (fs2 "UnlikeOrders" "one" "other" [.int ((qs.length : Int) - 1), .int ((rs.length : Int) - 1)]) E) ∧
  (qs.length = rs.length → ∃ e g : Nat, 1 ≤ e ∧ 1 ≤ g ∧ e ≤ 200 ∧ g ≤ 200 ∧ AllZ e qs ∧ AllZ g rs ∧ GivesR K C H Q (mulL qs rs))
section
variable {P : Program} {w : World} {K : PySem.W.Frag} {mg : Str → Option Value} {base : Heap} {f C S CF CO CN CP CL CU o0 : Addr} {fd : FuncData}
end
end Kx
end
section
set_option maxHeartbeats 4000000
namespace Kx
open PySem PySem.Spec PyProof.Rows L2
/-! ### the law's own lists -/
def spTimes (K : PySem.W.Frag) : Sp := fun vs H Q _ => ∃ (x y : V) (qs rs : List Rat) (e g : Nat), vs = [x, y] ∧ Ls K H x qs ∧ Ls K H y rs ∧ qs.length = rs.length ∧ qs.length ≤ 25 ∧ 1 ≤ e ∧ 1 ≤ g ∧ e + g ≤ 130 ∧ AllZ e qs ∧ AllZ g rs ∧ GivesL K H Q (mulL qs rs)
def spPlus (K : PySem.W.Frag) : Sp := fun vs H Q _ => ∃ (x y : V) (qs rs : List Rat), vs = [x, y] ∧ Ls K H x qs ∧ Ls K H y rs ∧ qs.length = rs.length ∧ qs.length ≤ 100 ∧ AllB 4000 qs ∧ AllB 4000 rs ∧ GivesL K H Q (qs.zipWith (· + ·) rs)
def spScale (K : PySem.W.Frag) : Sp := fun vs H Q _ => ∃ (x y : V) (qs : List Rat) (t : Rat), vs = [x, y] ∧ Ls K H x qs ∧ Nq K H y t ∧ qs.length ≤ 100 ∧ AllB 4000 qs ∧ Bq 4000 t ∧ GivesL K H Q (qs.map (· * t))
abbrev nTi : List Str := ["_law_u", "_law_w", "_law_some", "_law_k", "_law_total", "_law_j"]
abbrev nPl : List Str := ["_law_u", "_law_w", "_law_a", "_law_b"]
abbrev nSl : List Str := ["_law_u", "_law_c", "_law_a"]
theorem getD_at {qs : List Rat} {j : Nat} (h : j < qs.length) : qs.getD j 0 = qs[j] := by rw [List.getD_eq_getElem?_getD, List.getElem?_eq_getElem h]; rfl
section
variable {P : Program} {w : World} {K : PySem.W.Frag} {mg : Str → Option Value} {base : Heap} {f o0 : Addr} {fd : FuncData}
theorem scTi : FnScope nTi ["_law_u", "_law_w"] (defScope L_times) := ⟨rfl, rfl, rfl, by decide +kernel, rfl, by decide +kernel, by decide +kernel⟩
theorem ok_times (G : Fun K "_law_times" "_law_times" L_times f fd) (mn : mg "len" = none) (mr : mg "range" = none) (UA : Use P w K mg base CX0 2 "_law_add" ["_law_a", "_law_b"] (spAddQ K) []) (UM : Use P w K mg base CX0 2 "_law_mul" ["_law_a", "_law_b"] (spMulQ K) []) :
    FnOk P w K mg base CX0 3 f fd ["_law_u", "_law_w"] (spTimes K) := by
  refine G.ok scTi (fun vs H Q E h => ?_) (fun cdv A outer s H vs Q E hr h => ?_)
  · obtain ⟨x, y, qs, rs, e, g, rfl, _⟩ := h
    rfl
  obtain ⟨x, y, qs, rs, e, g, rfl, ⟨xa, xs, rfl, hx, nx⟩, ⟨ya, ys, rfl, hy, ny⟩, le, l1, e0, g0, eg, bq, br, q⟩ := h
  refine ⟨_, pss_cons (ps_set (i := 2) scTi.nd rfl (Or.inl rfl) (pe_lst pa_nil))
    (pss_cons (ps_for PassesOwn.never rfl (pi_range1 rfl mr (pa_cons (pe_callB call_len_seq rfl mn PySem.boot_len (pa_cons (pv 0) pa_nil)) pa_nil)) (pg_name (i := 3) scTi.nd rfl (Or.inl rfl))
      (pss_cons (ps_set (i := 4) scTi.nd rfl (Or.inl rfl) (pe_tup (pa_cons pe_int (pa_cons pe_int pa_nil))))
      (C8.pss_cut (ps_for PassesOwn.never rfl (pi_range1 rfl mr (pa_cons (pe_op op_add (pv 3) pe_int) pa_nil)) (pg_name (i := 5) scTi.nd rfl (Or.inl rfl))
        (pss_one (ps_if (PW.pt (pw_and (pt_cmpR op_ne (pe_ix ix_tup (pe_ix ix_list (pv 0) (pv 5) (fun _ _ => rfl)) pe_int (fun _ _ => rfl)) pe_int (nomark _)) (pw_and1 (pt_cmpR op_ne (pe_ix ix_tup (pe_ix ix_list (pv 1) (pe_op op_sub (pv 3) (pv 5)) (fun _ _ => rfl)) pe_int (fun _ _ => rfl)) pe_int (nomark _)))))
          (pss_one (ps_set (i := 4) scTi.nd rfl (Or.inl rfl) (pe_use UA hr rfl pass0 (pa_cons (pv 4) (pa_cons (pe_use UM hr rfl pass0 (pa_cons (pe_ix ix_list (pv 0) (pv 5) (fun _ _ => rfl)) (pa_cons (pe_ix ix_list (pv 1) (pe_op op_sub (pv 3) (pv 5)) (fun _ _ => rfl)) pa_nil))) pa_nil))))) pss_nil)))
      (pss_one (ps_expr (pe_bm PySem.F.plainAttrs_list PySem.F.slot_list_append PySem.F.type_list_append mt_append (pv 2) (pa_cons (pv 4) pa_nil)))))))
    (pss_one (ps_ret (pv 2)))), ?_⟩
  have lx : xs.length = qs.length := nx.1
  have ly : ys.length = rs.length := ny.1
  refine ⟨(by show 0 ≤ sizeLine; decide), fun fb nf => ?_⟩
  have sf := new_same nf (HO.lst [])
  refine ⟨_, rfl, xa, xs, rfl, .inl (SqL.of (sf _ _ hx)), ?_⟩
  refine ⟨_, rfl, by omega, by omega, for_range (lo := 0) (n := (((xs.length : Nat) : Int)).toNat) (fun i σ H' => Same H H' ∧ (∃ v3 v4 v5, σ = [some (.ref xa), some (.ref ya), some (.ref fb), v3, v4, v5]) ∧ ∃ zs, H' fb = some (.lst zs) ∧ Nl K H' zs ((List.range i).map (cnv qs rs))) ⟨sf, ⟨none, none, none, rfl⟩, [], upd_same, Nl.nil⟩ ?_ ?_⟩
  · rintro i σ H3 hi ⟨s3, ⟨v3, v4, v5, rfl⟩, zs, hz, nz⟩
    rw [Int.toNat_natCast] at hi
    have zl : zs.length = i := by rw [nz.1, List.length_map, List.length_range]
    refine ⟨(by show 2 ≤ sizeLine; decide), fun t nt => ?_⟩
    have s4 := new_same nt (HO.tup [.int 0, .int 1])
    have n0 : Nq K (upd H3 t (HO.tup [.int 0, .int 1])) (.ref t) 0 := .at upd_same
    generalize upd H3 t (HO.tup [.int 0, .int 1]) = H4 at s4 n0
    refine ⟨fun σ H' => Same H4 H' ∧ ∃ tv v5, σ = [some (.ref xa), some (.ref ya), some (.ref fb), some (.int (0 + (i : Int))), some tv, v5] ∧ Nq K H' tv (cnv qs rs i), ?_, ?_⟩
    · refine ⟨_, rfl, (0 + (i : Int)), 1, rfl, rfl, _, rfl, by omega, by omega, for_range (lo := 0) (n := (0 + (i : Int) + 1).toNat) (fun j σ H' => Same H4 H' ∧ ∃ tv v5, σ = [some (.ref xa), some (.ref ya), some (.ref fb), some (.int (0 + (i : Int))), some tv, v5] ∧ Nq K H' tv (cvT qs rs i j)) ⟨Same.refl _, _, _, rfl, n0⟩ ?_ ?_⟩
      · rintro j σ H5 hj ⟨s5, tv, v5, rfl, nt5⟩
        have hj' : j < i + 1 := by omega
        have s35 := s3.trans (s4.trans s5)
        obtain ⟨a, ea, na⟩ := nx.get' (i := j) (by omega)
        obtain ⟨b, eb, nb⟩ := ny.get' (i := i - j) (by omega)
        have na5 := na.same s35
        have nb5 := nb.same s35
        obtain ⟨aa, rfl, sa, _⟩ := na5.sq
        obtain ⟨ba, rfl, sb, _⟩ := nb5.sq
        have gx := getD_at (qs := qs) (j := j) (by omega)
        have gy := getD_at (qs := rs) (j := i - j) (by omega)
        have Ba := bq qs[j] (List.getElem_mem _)
        have Bb := br rs[i - j] (List.getElem_mem _)
        have nxt : cvT qs rs i (j + 1) = cvT qs rs i j + qs[j] * rs[i - j] := by
          show _ + _ * _ = _
          rw [gx, gy]
        generalize qs[j] = qa at *
        generalize rs[i - j] = rb at *
        have hx5 := s35 _ _ hx
        have hy5 := s35 _ _ hy
        refine ⟨_, rfl, _, rfl, xa, xs, _, _, rfl, rfl, SqL.of hx5, at_of (j := j) (by omega) ea, aa, _, 0, _, rfl, rfl, sa, rfl, rfl, _, rfl, ?_⟩
        by_cases ca : qa.num = 0
        · have z : qa = 0 := Rat.num_eq_zero.mp ca
          rw [decide_eq_true (congrArg V.int ca)]
          refine iteF (iteF ⟨s5, tv, _, rfl, ?_⟩)
          rw [nxt, z, Rat.zero_mul, Rat.add_zero]
          exact nt5
        rw [decide_eq_false (fun e => ca (V.int.inj e))]
        refine iteT ⟨_, rfl, _, rfl, _, rfl, (0 + (i : Int)), (0 + (j : Int)), rfl, rfl, ya, ys, _, _, rfl, rfl, SqL.of hy5, at_of (j := i - j) (by omega) eb, ba, _, 0, _, rfl, rfl, sb, rfl, rfl, _, rfl, ?_⟩
        by_cases cb : rb.num = 0
        · have z : rb = 0 := Rat.num_eq_zero.mp cb
          rw [decide_eq_true (congrArg V.int cb)]
          refine iteF ⟨s5, tv, _, rfl, ?_⟩
          rw [nxt, z, Rat.mul_zero, Rat.add_zero]
          exact nt5
        rw [decide_eq_false (fun e => cb (V.int.inj e))]
        refine iteT ⟨_, rfl, _, rfl, _, rfl, xa, xs, _, _, rfl, rfl, SqL.of hx5, at_of (j := j) (by omega) ea, _, rfl, _, rfl, _, rfl, (0 + (i : Int)), (0 + (j : Int)), rfl, rfl, ya, ys, _, _, rfl, rfl, SqL.of hy5, at_of (j := i - j) (by omega) eb, ?_⟩
        refine ⟨.ref aa, .ref ba, qa, rb, rfl, na5, nb5, (Ba.bq e0).mono (by omega), (Bb.bq g0).mono (by omega), fun p H6 s6 n6 e6 => ?_⟩
        have bt := (((cvT_z bq br i j).red (by omega)).bq (by omega)).mono (m := 4000) (by omega)
        refine ⟨tv, .ref p, cvT qs rs i j, qa * rb, rfl, nt5.same s6, .at e6, bt, ((Ba.mulq Bb).bq (by omega)).mono (by omega), fun p2 H7 s7 n7 e7 => ⟨s5.trans (s6.trans s7), .ref p2, _, rfl, ?_⟩⟩
        rw [nxt]
        exact .at e7
      · rintro σ H5 ⟨s5, tv, v5, rfl, nt5⟩
        rw [show (0 + (i : Int) + 1).toNat = i + 1 by omega] at nt5
        exact ⟨s5, tv, _, rfl, nt5⟩
    · rintro σ H5 ⟨s5, tv, v5', rfl, nt5⟩
      have hz5 := s5 _ _ (s4 _ _ hz)
      refine ⟨_, rfl, .inl ⟨rfl, _, SqL.of hz5⟩, _, rfl, fb, zs, _, rfl, rfl, hz5, small1000 (by omega), ?_, ⟨_, _, _, rfl⟩, zs ++ [tv], upd_same, ?_⟩
      · intro b o hb
        have nb : b ≠ fb := fun z => by rw [z, nf] at hb; cases hb
        rw [upd_ne nb]
        exact s5 _ _ (s4 _ _ (s3 _ _ hb))
      · have nb : Nl K H5 (zs ++ [tv]) ((List.range (i + 1)).map (cnv qs rs)) := by
          rw [List.range_succ, List.map_append]
          exact ((nz.same s4).same s5).snoc nt5
        exact ⟨nb.1, fun j x r h1 h2 => (nb.2 j x r h1 h2).butL hz5 (fun b o n h => by rw [upd_ne n]; exact h)⟩
  · rintro σ H3 ⟨s3, ⟨v3, v4, v5, rfl⟩, zs, hz, nz⟩
    rw [Int.toNat_natCast, lx] at nz
    exact ⟨_, rfl, q fb H3 zs s3 nf hz nz⟩
theorem scPl : FnScope nPl ["_law_u", "_law_w"] (defScope L_plus) := ⟨rfl, rfl, rfl, by decide +kernel, rfl, by decide +kernel, by decide +kernel⟩
theorem ok_plus (G : Fun K "_law_plus" "_law_plus" L_plus f fd) (mz : mg "zip" = none) (UA : Use P w K mg base CX0 2 "_law_add" ["_law_a", "_law_b"] (spAddQ K) []) : FnOk P w K mg base CX0 3 f fd ["_law_u", "_law_w"] (spPlus K) := by
  refine G.ok scPl (fun vs H Q E h => ?_) (fun cdv A outer s H vs Q E hr h => ?_)
  · obtain ⟨x, y, qs, rs, rfl, _⟩ := h
    rfl
  obtain ⟨x, y, qs, rs, rfl, ⟨xa, xs, rfl, hx, nx⟩, ⟨ya, ys, rfl, hy, ny⟩, le, l1, bq, br, q⟩ := h
  refine ⟨_, pss_one (ps_ret (pe_lc (own := [("_law_a", 2), ("_law_b", 3)]) (g := gTup K 2 (gCons (gName 2) (gCons (gName 3) gNil))) (tt := tYes) rfl scPl.nd (pi_zip rfl mz (pa_cons (pv 0) (pa_cons (pv 1) pa_nil))) (blkOk_by (N := nPl) (sc := defScope L_plus) (by decide +kernel))
      (fun _ _ _ _ _ => pg_tup rfl (pgs_cons (pg_name (i := 2) scPl.nd rfl (Or.inl rfl)) (pgs_cons (pg_name (i := 3) scPl.nd rfl (Or.inl rfl)) pgs_nil))) (fun _ _ _ _ _ => pts_nil)
      (fun _ _ _ _ _ => pe_use UA hr rfl pass0 (pa_cons (pv 2) (pa_cons (pv 3) pa_nil))))), ?_⟩
  refine ⟨_, rfl, _, rfl, xa, ya, xs, ys, rfl, SqL.of hx, SqL.of hy, fun D nD => ?_⟩
  have lx : xs.length = qs.length := nx.1
  have ly : ys.length = rs.length := ny.1
  refine lc_nums (K := K) (walk_zip (K := K) (a := xa) (b := ya) (xs := xs) (ys := ys) (n := xs.length) (by omega)) (qs.zipWith (· + ·) rs) (by rw [List.length_zipWith]; omega) nD (by omega) (fun H' s => ⟨SqL.of (s _ _ hx), SqL.of (s _ _ hy)⟩) ?_ (fun H' zs s h n => q D H' zs s nD h n)
  rintro i r x H2 H3 k hq s2 ⟨T, y, z, rfl, hT, rfl, hy2, hz2⟩ hk
  obtain ⟨a, b, ea, eb, rfl⟩ := zip_get hq
  have sT := new_same hT (.tup [y, z])
  refine ⟨T, _, rfl, SqT.of upd_same, rfl, _, _, rfl, _, _, rfl, rfl, rfl, _, rfl, _, rfl, _, _, a, b, rfl, (nx.2 i y a hy2 ea).same (s2.trans sT), (ny.2 i z b hz2 eb).same (s2.trans sT), bq a (List.mem_of_getElem? ea), br b (List.mem_of_getElem? eb), fun t H4 s4 n4 h4 => hk _ _ (sT.trans s4) (.at h4)⟩
theorem scSl : FnScope nSl ["_law_u", "_law_c"] (defScope L_scale) := ⟨rfl, rfl, rfl, by decide +kernel, rfl, by decide +kernel, by decide +kernel⟩
theorem ok_scale (G : Fun K "_law_scale" "_law_scale" L_scale f fd) (UM : Use P w K mg base CX0 2 "_law_mul" ["_law_a", "_law_b"] (spMulQ K) []) : FnOk P w K mg base CX0 3 f fd ["_law_u", "_law_c"] (spScale K) := by
  refine G.ok scSl (fun vs H Q E h => ?_) (fun cdv A outer s H vs Q E hr h => ?_)
  · obtain ⟨x, y, qs, t, rfl, _⟩ := h
    rfl
  obtain ⟨x, y, qs, t, rfl, ⟨xa, xs, rfl, hx, nx⟩, ht, l1, bq, bt, q⟩ := h
  refine ⟨_, pss_one (ps_ret (pe_lc (own := [("_law_a", 2)]) (g := gName 2) (tt := tYes) rfl scSl.nd (pi_list (pv 0)) (blkOk_by (N := nSl) (sc := defScope L_scale) (by decide +kernel))
      (fun _ _ _ _ _ => pg_name (i := 2) scSl.nd rfl (Or.inl rfl)) (fun _ _ _ _ _ => pts_nil) (fun _ _ _ _ _ => pe_use UM hr rfl pass0 (pa_cons (pv 2) (pa_cons (pv 1) pa_nil))))), ?_⟩
  refine ⟨_, rfl, xa, rfl, ⟨_, SqL.of hx⟩, fun D nD => ?_⟩
  have lx : xs.length = qs.length := nx.1
  refine lc_nums (K := K) (walk_list (K := K) (a := xa) (xs := xs)) (qs.map (· * t)) (by rw [List.length_map]; omega) nD (by omega) (fun H' s => SqL.of (s _ _ hx)) ?_ (fun H' zs s h n => q D H' zs s nD h n)
  rintro i r x H2 H3 k hq s2 ⟨rfl, hx2⟩ hk
  rw [List.getElem?_map] at hq
  obtain ⟨a, ea, rfl⟩ := Option.map_eq_some_iff.mp hq
  exact ⟨rfl, _, rfl, _, rfl, _, _, a, t, rfl, (nx.2 i x a hx2 ea).same s2, ht.same s2, bq a (List.mem_of_getElem? ea), bt, fun t' H4 s4 n4 h4 => hk _ _ s4 (.at h4)⟩
end
end Kx
end
section
set_option maxHeartbeats 4000000
namespace Kx
open PySem PySem.Spec PyProof.Rows L2
theorem But.free {B p a : Addr} {H H' : Hp} (u : But B H H') (b : Bag H' B p) (h : H' a = none) : H a = none := by
  obtain ⟨_, _, _, _, _, h1, _⟩ := b.ex
  cases e : H a with
  | none => rfl
  | some o =>
    have z := u a o (fun y => by rw [y, h1] at h; cases h) e
    rw [h] at z
    cases z
theorem Bag.put {H : Hp} {B p a : Addr} {o : HO} (b : Bag H B p) (h : H a = none) : Bag (upd H a o) B p := b.same (new_same h o)
theorem Bag.at {H : Hp} {B p : Addr} (b : Bag H B p) {a : Addr} (h : H a = none) : a ≠ B ∧ a ≠ p := by
  obtain ⟨_, _, _, _, _, h1, h2, _⟩ := b.ex
  refine ⟨fun e => ?_, fun e => ?_⟩
  · rw [e, h1] at h
    cases h
  · rw [e, h2] at h
    cases h
/-- all but the bag and the tables stand -/
def Go (B : Addr) (H H' : Hp) : Prop := ∀ b o, b ≠ B → (∀ ps, o ≠ .tbl ps) → H b = some o → H' b = some o
theorem Go.of {B : Addr} {H H' : Hp} (h : But B H H') : Go B H H' := fun b o n _ e => h b o n e
theorem Go.ext {B : Addr} {H H' : Hp} (h : LamX.ExtN H H') : Go B H H' := fun b o _ t e => h b o e t
theorem Go.trans {B : Addr} {H H1 H2 : Hp} (a : Go B H H1) (b : Go B H1 H2) : Go B H H2 := fun x o n t h => b x o n t (a x o n t h)
theorem Bag.ext {H H' : Hp} {B p : Addr} (b : Bag H B p) (h : LamX.ExtN H H') : Bag H' B p := by
  obtain ⟨ns, i, r, sd, c, h1, h2, h3⟩ := b.ex
  exact ⟨ns, i, r, sd, c, h _ _ h1 (fun ps z => by cases z), h _ _ h2 (fun ps z => by cases z), h3⟩
theorem tabs_but {T : List (Addr × Str)} {H H' : Hp} {B p : Addr} (t : LamX.Tabs T H) (b : Bag H B p) (u : But B H H') : LamX.Tabs T H' := by
  obtain ⟨ns, i, r, sd, c, h1, _⟩ := b.ex
  intro q hq
  obtain ⟨ps, e1, e2, e3⟩ := t q hq
  refine ⟨ps, u _ _ (fun z => ?_) e1, e2, fun pos cv hc => ?_⟩
  · rw [z, h1] at e1
    cases e1
  · obtain ⟨c0, z1, z2⟩ := e3 pos cv hc
    refine ⟨c0, z1, u _ _ (fun z => ?_) z2⟩
    rw [z, h1] at z2
    cases z2
theorem Go.same {B : Addr} {H H' : Hp} (h : Same H H') : Go B H H' := Go.of (But.same h)
theorem Go.refl {B : Addr} {H : Hp} : Go B H H := fun _ _ _ _ h => h
section
variable {K : PySem.W.Frag} {H H' : Hp} {B p : Addr}
theorem Nq.go {v : V} {q : Rat} (h : Nq K H v q) (b : Bag H B p) (s : Go B H H') : Nq K H' v q := by
  obtain ⟨a, e, h⟩ := h
  obtain ⟨ns, i, r, sd, c, hb, _⟩ := b.ex
  refine ⟨a, e, h.imp (fun h => s _ _ (fun z => ?_) (fun ps z => by cases z) h) id⟩
  rw [z, hb] at h
  cases h
theorem Nl.go {xs : List V} {qs : List Rat} (h : Nl K H xs qs) (b : Bag H B p) (s : Go B H H') : Nl K H' xs qs := ⟨h.1, fun i x q h1 h2 => (h.2 i x q h1 h2).go b s⟩
/-- a list of numbers is not the bag -/
theorem Nl.ne {xs : List V} {qs : List Rat} {a : Addr} (h : Nl K H xs qs) (l : 2 ≤ qs.length) (ha : H a = some (.lst xs)) (b : Bag H B p) : a ≠ B := by
  rintro rfl
  obtain ⟨ns, i, r, sd, c, hb, _⟩ := b.ex
  rw [ha] at hb
  have e : xs = bagL p i r sd c := by
    have := Option.some.inj hb
    exact HO.lst.inj this
  obtain ⟨x, ex, n⟩ := h.get' (i := 1) (by omega)
  rw [e] at ex
  have e2 : V.int i = x := Option.some.inj (show some (V.int i) = some x from ex)
  obtain ⟨a', e3, _⟩ := n
  rw [← e2] at e3
  cases e3
theorem Ls.go {v : V} {qs : List Rat} (h : Ls K H v qs) (l : 2 ≤ qs.length) (b : Bag H B p) (s : Go B H H') : Ls K H' v qs := by
  obtain ⟨a, xs, e, h1, h2⟩ := h
  exact ⟨a, xs, e, s _ _ (h2.ne l h1 b) (fun ps z => by cases z) h1, h2.go b s⟩
theorem ins_go {x C dx : Addr} {fs : List (Str × V)} (h : H x = some (.ins C dx fs)) (b : Bag H B p) (s : Go B H H') : H' x = some (.ins C dx fs) := by
  obtain ⟨ns, i, r, sd, c, hb, _⟩ := b.ex
  refine s _ _ (fun z => ?_) (fun ps z => by cases z) h
  rw [z, hb] at h
  cases h
theorem tup_go {x : Addr} {xs : List V} (h : H x = some (.tup xs)) (b : Bag H B p) (s : Go B H H') : H' x = some (.tup xs) := by
  obtain ⟨ns, i, r, sd, c, hb, _⟩ := b.ex
  refine s _ _ (fun z => ?_) (fun ps z => by cases z) h
  rw [z, hb] at h
  cases h
theorem lst_go {x : Addr} {xs : List V} (h : H x = some (.lst xs)) (n : xs.length ≠ 5) (b : Bag H B p) (s : Go B H H') : H' x = some (.lst xs) := by
  obtain ⟨ns, i, r, sd, c, hb, _⟩ := b.ex
  refine s _ _ (fun z => ?_) (fun ps z => by cases z) h
  rw [z, hb] at h
  have e := HO.lst.inj (Option.some.inj h)
  rw [← e] at n
  exact n rfl
theorem RwAt.go {C : Addr} {v : V} {qs : List Rat} (h : RwAt K C H v qs) (b : Bag H B p) (s : Go B H H') : RwAt K C H' v qs := by
  obtain ⟨x, dx, c, xs, e, h1, h2, h3, h4, h5⟩ := h
  exact ⟨x, dx, c, xs, e, ins_go h1 b s, s _ _ (h3.ne (by omega) h2 b) (fun ps z => by cases z) h2, h3.go b s, h4, h5⟩
theorem StAt.go {S : Addr} {v : V} {qs : List Rat} (h : StAt K S H v qs) (b : Bag H B p) (s : Go B H H') : StAt K S H' v qs := by
  obtain ⟨x, dx, c, xs, x0, fv, sv, e, h1, h2, h3, h4, h5, h6⟩ := h
  exact ⟨x, dx, c, xs, x0, fv, sv, e, ins_go h1 b s, s _ _ (h3.ne (by omega) h2 b) (fun ps z => by cases z) h2, h3.go b s, h4, h5, h6⟩
theorem RwAt.ext {C : Addr} {v : V} {qs : List Rat} (h : RwAt K C H v qs) (s : LamX.ExtN H H') : RwAt K C H' v qs := by
  obtain ⟨x, dx, c, xs, e, h1, h2, h3, h4⟩ := h
  have nq : ∀ {w : V} {q : Rat}, Nq K H w q → Nq K H' w q := fun n => by
    obtain ⟨a, e, n⟩ := n
    exact ⟨a, e, n.imp (fun n => s _ _ n (fun ps z => by cases z)) id⟩
  exact ⟨x, dx, c, xs, e, s _ _ h1 (fun ps z => by cases z), s _ _ h2 (fun ps z => by cases z), ⟨h3.1, fun i y q a b => nq (h3.2 i y q a b)⟩, h4⟩
theorem Nq.ext {v : V} {q : Rat} (h : Nq K H v q) (s : LamX.ExtN H H') : Nq K H' v q := by
  obtain ⟨a, e, n⟩ := h
  exact ⟨a, e, n.imp (fun n => s _ _ n (fun ps z => by cases z)) id⟩
theorem Nl.ext {xs : List V} {qs : List Rat} (h : Nl K H xs qs) (s : LamX.ExtN H H') : Nl K H' xs qs := ⟨h.1, fun i y q a b => (h.2 i y q a b).ext s⟩
theorem Ls.ext {v : V} {qs : List Rat} (h : Ls K H v qs) (s : LamX.ExtN H H') : Ls K H' v qs := by
  obtain ⟨a, xs, e, h1, h2⟩ := h
  exact ⟨a, xs, e, s _ _ h1 (fun ps z => by cases z), h2.ext s⟩
end
/-! ### drawn numbers -/
def spNum (K : PySem.W.Frag) : Sp := fun vs H Q _ => ∃ B p : Addr, vs = [.ref B] ∧ Bag H B p ∧ ∀ H' v q, Bag H' B p → But B H H' → Nq K H' v q → Zq 1 q → Q v H'
def spBent (K : PySem.W.Frag) : Sp := fun vs H Q _ => ∃ (B p : Addr) (v : V) (q : Rat), vs = [.ref B, v] ∧ Bag H B p ∧ Nq K H v q ∧ Zq 1 q ∧ ∀ H' u r, Bag H' B p → But B H H' → Nq K H' u r → Bq 43 r → Q u H'
abbrev nNum : List Str := ["_law_bag_here", "_law_pick", "_law_p"]
section
variable {P : Program} {w : World} {K : PySem.W.Frag} {mg : Str → Option Value} {base : Heap} {f fD fO fL fB : Addr} {fd fdD fdO fdL fdB : FuncData}
theorem scNum : FnScope nNum ["_law_bag_here"] (defScope L_number) := ⟨rfl, rfl, rfl, by decide +kernel, rfl, by decide +kernel, by decide +kernel⟩
section
variable (UD : Use P w K mg base CX0 1 "_law_draw" ["_law_bag_here", "_law_limit"] spDraw []) (UO : Use P w K mg base CX0 2 "_law_of" ["_law_bag_here", "_law_things"] spOfL []) (UL : Use P w K mg base CX0 1 "_law_low" ["_law_p", "_law_q"] spLowQ [])
include UD UO UL
theorem ok_num (F : Fun K "_law_number" "_law_number" L_number f fd) : FnOk P w K mg base CX0 3 f fd ["_law_bag_here"] (spNum K) := by
  refine F.ok scNum (fun vs H Q E h => ?_) (fun cdv A outer s H vs Q E hr h => ?_)
  · obtain ⟨B, p, rfl, _⟩ := h
    rfl
  obtain ⟨B, p, rfl, hb, q⟩ := h
  have hr1 := hr.mono (show 1 ≤ 2 by decide)
  refine ⟨_, pss_cons (ps_set (i := 1) scNum.nd rfl (Or.inl rfl) (pe_use UD hr1 rfl pass0 (pa_cons (pv 0) (pa_cons pe_int pa_nil))))
    (pss_cons (ps_if (pt_cmpR op_lt (pv 1) pe_int (nomark _)) (pss_one (ps_ret (pe_tup (pa_cons pe_int (pa_cons pe_int pa_nil))))) pss_nil)
    (pss_cons (ps_if (pt_cmpR op_lt (pv 1) pe_int (nomark _)) (pss_one (ps_ret (pe_tup (pa_cons pe_int (pa_cons pe_int pa_nil))))) pss_nil)
    (pss_cons (ps_set (i := 2) scNum.nd rfl (Or.inl rfl) (pe_op op_add pe_int (pe_use UD hr1 rfl pass0 (pa_cons (pv 0) (pa_cons pe_int pa_nil)))))
    (C8.pss_cut (ps_if (pt_cmpR op_eq (pv 1) pe_int (nomark _)) (pss_one (ps_set (i := 2) scNum.nd rfl (Or.inl rfl) (pe_op op_add (pv 2) (pe_use UD hr1 rfl pass0 (pa_cons (pv 0) (pa_cons (pe_use UO hr rfl pass0 (pa_cons (pv 0) (pa_cons (pe_lst (pa_cons pe_int (pa_cons pe_int (pa_cons pe_int pa_nil)))) pa_nil))) pa_nil)))))) pss_nil)
    (C8.pss_cut (ps_if (pt_cmpR op_eq (pe_use UD hr1 rfl pass0 (pa_cons (pv 0) (pa_cons pe_int pa_nil))) pe_int (nomark _)) (pss_one (ps_set (i := 2) scNum.nd rfl (Or.inl rfl) (pe_un un_neg (pv 2)))) pss_nil)
    (pss_one (ps_ret (pe_use UL hr1 rfl pass0 (pa_cons (pv 2) (pa_cons (pe_use UO hr rfl pass0 (pa_cons (pv 0) (pa_cons (pe_lst (pa_cons pe_int (pa_cons pe_int (pa_cons pe_int (pa_cons pe_int (pa_cons pe_int (pa_cons pe_int pa_nil))))))) pa_nil))) pa_nil)))))))))), ?_⟩
  refine ⟨_, rfl, B, p, 18, rfl, by decide, by decide, hb, fun H1 k b1 u1 k0 k1 => ?_⟩
  refine ⟨_, rfl, k, 6, rfl, rfl, _, rfl, ite2 (fun _ => ?_) (fun _ => ?_)⟩
  · exact ⟨(by show 2 ≤ sizeLine; decide), fun t nt => q _ _ 0 (b1.put nt) (u1.trans (But.new nt)) (.at upd_same) (Zq.num ⟨by decide, by decide⟩ (by decide))⟩
  refine ⟨_, rfl, k, 8, rfl, rfl, _, rfl, ite2 (fun _ => ?_) (fun _ => ?_)⟩
  · exact ⟨(by show 2 ≤ sizeLine; decide), fun t nt => q _ _ 1 (b1.put nt) (u1.trans (But.new nt)) (.at upd_same) (Zq.num ⟨by decide, by decide⟩ (by decide))⟩
  refine ⟨_, rfl, B, p, 9, rfl, by decide, by decide, b1, fun H2 d b2 u2 d0 d1 => ⟨1, d, rfl, rfl, ?_⟩⟩
  have u2 := u1.trans u2
  refine ⟨fun σ' H' => ∃ n : Int, σ' = [some (.ref B), some (.int k), some (.int n)] ∧ Bag H' B p ∧ But B H H' ∧ 0 ≤ n ∧ n < 1100000, ?_, ?_⟩
  · refine ⟨_, rfl, rfl, _, rfl, ite2 (fun _ => ?_) (fun _ => ⟨_, rfl, b2, u2, by omega, by omega⟩)⟩
    refine ⟨_, rfl, _, rfl, _, rfl, (by show 3 ≤ sizeLine; decide), fun a na => ⟨B, p, a, _, rfl, upd_same, (b2.at na).1, (by show 0 < 3; decide), (by show 3 ≤ 1000; decide), b2.put na, fun H3 x b3 u3 hx => ?_⟩⟩
    have u3 : But B H H3 := u2.trans ((But.new na).trans u3)
    obtain ⟨L, rfl, L0, L1⟩ : ∃ L : Int, x = .int L ∧ 0 < L ∧ L ≤ 1000000 := by
      simp only [List.mem_cons, List.not_mem_nil, or_false] at hx
      rcases hx with rfl | rfl | rfl <;> exact ⟨_, rfl, by decide, by decide⟩
    exact ⟨B, p, L, rfl, L0, by omega, b3, fun H4 e b4 u4 e0 e1 => ⟨_, _, rfl, rfl, _, rfl, b4, u3.trans u4, by omega, by omega⟩⟩
  rintro σ' H3 ⟨n, rfl, b3, u3, n0, n1⟩
  refine ⟨fun σ' H' => ∃ n : Int, σ' = [some (.ref B), some (.int k), some (.int n)] ∧ Bag H' B p ∧ But B H H' ∧ n.natAbs < 1100000, ?_, ?_⟩
  · refine ⟨_, rfl, B, p, 2, rfl, by decide, by decide, b3, fun H4 c b4 u4 c0 c1 => ⟨rfl, _, rfl, ite2 (fun _ => ?_) (fun _ => ⟨_, rfl, b4, u3.trans u4, by omega⟩)⟩⟩
    exact ⟨_, rfl, _, rfl, _, rfl, b4, u3.trans u4, by omega⟩
  rintro σ' H4 ⟨n, rfl, b4, u4, nn⟩
  refine ⟨_, rfl, _, rfl, (by show 6 ≤ sizeLine; decide), fun a na => ⟨B, p, a, _, rfl, upd_same, (b4.at na).1, (by show 0 < 6; decide), (by show 6 ≤ 1000; decide), b4.put na, fun H5 x b5 u5 hx => ?_⟩⟩
  have u5 : But B H H5 := u4.trans ((But.new na).trans u5)
  obtain ⟨L, rfl, L0, L1⟩ : ∃ L : Int, x = .int L ∧ 0 < L ∧ L ≤ 3 := by
    simp only [List.mem_cons, List.not_mem_nil, or_false] at hx
    rcases hx with rfl | rfl | rfl | rfl | rfl | rfl <;> exact ⟨_, rfl, by decide, by decide⟩
  have Ln : L ≠ 0 := by omega
  have dv : (Rat.divInt n L).den ∣ 6 := by
    rw [Rat.den_divInt, if_neg Ln]
    refine Nat.dvd_trans (Nat.div_dvd_of_dvd (Nat.gcd_dvd_left _ _)) ?_
    rcases (show L = 1 ∨ L = 2 ∨ L = 3 by omega) with rfl | rfl | rfl <;> decide
  have bd := div_bd (p := n) (n := 21) (m := 21) Ln (by show _ < 2097152; omega) (by show _ < 2097152; omega)
  exact ⟨n, L, rfl, Ln, Nat.lt_trans (log_bd (x := L) (n := 21) (by show _ < 2097152; omega) (by decide)) (by decide), fun t H6 s6 n6 e6 => q _ _ _ (b5.same s6) (u5.trans (But.same s6)) (.at e6) (Zq.num bd dv)⟩
omit UD UO UL in
theorem scFull : FnScope ["_law_bag_here", "_law_a"] ["_law_bag_here"] (defScope L_full) := ⟨rfl, rfl, rfl, by decide +kernel, rfl, by decide +kernel, by decide +kernel⟩
theorem ok_full (F : Fun K "_law_full" "_law_full" L_full f fd) (UN : Use P w K mg base CX0 3 "_law_number" ["_law_bag_here"] (spNum K) []) : FnOk P w K mg base CX0 4 f fd ["_law_bag_here"] (spNum K) := by
  refine F.ok scFull (fun vs H Q E h => ?_) (fun cdv A outer s H vs Q E hr h => ?_)
  · obtain ⟨B, p, rfl, _⟩ := h
    rfl
  obtain ⟨B, p, rfl, hb, q⟩ := h
  have hr2 := hr.mono (show 2 ≤ 3 by decide)
  refine ⟨_, pss_cons (ps_set (i := 1) scFull.nd rfl (Or.inl rfl) (pe_use UN hr rfl pass0 (pa_cons (pv 0) pa_nil)))
    (pss_one (ps_ret (pe_ifExp (pt_cmpR op_ne (pe_ix ix_tup (pv 1) pe_int (fun _ _ => rfl)) pe_int (nomark _)) (pv 1)
      (pe_use UO hr2 rfl pass0 (pa_cons (pv 0) (pa_cons (pe_lst (pa_cons (pe_tup (pa_cons pe_int (pa_cons pe_int pa_nil))) (pa_cons (pe_tup (pa_cons (pe_un un_neg pe_int) (pa_cons pe_int pa_nil))) (pa_cons (pe_tup (pa_cons pe_int (pa_cons pe_int pa_nil))) (pa_cons (pe_tup (pa_cons (pe_un un_neg pe_int) (pa_cons pe_int pa_nil))) (pa_cons (pe_tup (pa_cons pe_int (pa_cons pe_int pa_nil))) pa_nil)))))) pa_nil)))))), ?_⟩
  refine ⟨_, rfl, B, p, rfl, hb, fun H1 v a b1 u1 na ba => ?_⟩
  obtain ⟨va, rfl, sa, _⟩ := na.sq
  refine ⟨_, rfl, va, _, 0, _, rfl, rfl, sa, rfl, rfl, _, rfl, ?_⟩
  by_cases c : a.num = 0
  · rw [decide_eq_true (congrArg V.int c)]
    refine iteF ⟨_, rfl, ?_⟩
    refine ⟨(by show 2 ≤ sizeLine; decide), fun t1 m1 => ⟨_, rfl, (by show 2 ≤ sizeLine; decide), fun t2 m2 => ⟨(by show 2 ≤ sizeLine; decide), fun t3 m3 => ⟨_, rfl, (by show 2 ≤ sizeLine; decide), fun t4 m4 => ⟨(by show 2 ≤ sizeLine; decide), fun t5 m5 => ⟨(by show 5 ≤ sizeLine; decide), fun l nl => ?_⟩⟩⟩⟩⟩⟩
    have e1 := new_same m2 (HO.tup [.int (-1), .int 1])
    have e2 := new_same m3 (HO.tup [.int 1, .int 2])
    have e3 := new_same m4 (HO.tup [.int (-3), .int 1])
    have e4 := new_same m5 (HO.tup [.int 2, .int 1])
    have e5 := new_same nl (HO.lst [.ref t1, .ref t2, .ref t3, .ref t4, .ref t5])
    have bb := ((((b1.put (o := HO.tup [.int 1, .int 1]) m1).put (o := HO.tup [.int (-1), .int 1]) m2).put (o := HO.tup [.int 1, .int 2]) m3).put (o := HO.tup [.int (-3), .int 1]) m4).put (o := HO.tup [.int 2, .int 1]) m5
    refine ⟨B, p, l, _, rfl, upd_same, (bb.at nl).1, (by show 0 < 5; decide), (by show 5 ≤ 1000; decide), bb.put nl, fun H2 x b2 u2 hx => ?_⟩
    have uu : But B H H2 := u1.trans ((But.new m1).trans ((But.same e1).trans ((But.same e2).trans ((But.same e3).trans ((But.same e4).trans ((But.same e5).trans u2))))))
    have fin : ∀ {t : Addr} {r : Rat}, (upd (upd (upd (upd (upd (upd H1 t1 (HO.tup [.int 1, .int 1])) t2 (HO.tup [.int (-1), .int 1])) t3 (HO.tup [.int 1, .int 2])) t4 (HO.tup [.int (-3), .int 1])) t5 (HO.tup [.int 2, .int 1])) l (HO.lst [.ref t1, .ref t2, .ref t3, .ref t4, .ref t5])) t = some (rT r) → Zq 1 r → Q (.ref t) H2 := fun {t r} h br => by
      refine q H2 _ r b2 uu ?_ br
      exact (Nq.at (K := K) h).go (bb.put nl) (Go.of u2)
    simp only [List.mem_cons, List.not_mem_nil, or_false] at hx
    rcases hx with rfl | rfl | rfl | rfl | rfl
    · exact fin (r := 1) (e5 _ _ (e4 _ _ (e3 _ _ (e2 _ _ (e1 _ _ upd_same))))) (Zq.num ⟨by decide, by decide⟩ (by decide))
    · exact fin (r := -1) (e5 _ _ (e4 _ _ (e3 _ _ (e2 _ _ upd_same)))) (Zq.num ⟨by decide, by decide⟩ (by decide))
    · exact fin (r := mkRat 1 2) (e5 _ _ (e4 _ _ (e3 _ _ upd_same))) (Zq.num ⟨by decide, by decide⟩ (by decide))
    · exact fin (r := -3) (e5 _ _ (e4 _ _ upd_same)) (Zq.num ⟨by decide, by decide⟩ (by decide))
    · exact fin (r := 2) (e5 _ _ upd_same) (Zq.num ⟨by decide, by decide⟩ (by decide))
  · rw [decide_eq_false (fun e => c (V.int.inj e))]
    exact iteT ⟨_, rfl, q _ _ a b1 u1 na ba⟩
end
end
end Kx
end
section
set_option maxHeartbeats 4000000
namespace Kx
open PySem PySem.Spec PyProof.Rows L2
def spSpoilt (K : PySem.W.Frag) : Sp := fun vs H Q _ => ∃ (B p : Addr) (v : V) (qs : List Rat), vs = [.ref B, v] ∧ Bag H B p ∧ Ls K H v qs ∧ 2 ≤ qs.length ∧ qs.length ≤ 25 ∧ AllB 21 qs ∧
  ∀ H' u rs, Bag H' B p → But B H H' → Ls K H' u rs → rs.length = qs.length → AllB 43 rs → Q u H'
def spSize : Sp := fun vs H Q _ => ∃ B p : Addr, vs = [.ref B] ∧ Bag H B p ∧ ∀ H' (n : Nat), Bag H' B p → But B H H' → 2 ≤ n → n ≤ 24 → Q (.int (n : Nat)) H'
def spRow (K : PySem.W.Frag) : Sp := fun vs H Q _ => ∃ (B p : Addr) (n : Nat), vs = [.ref B, .int (n : Nat)] ∧ Bag H B p ∧ 2 ≤ n ∧ n ≤ 24 ∧
  ∀ H' u rs, Bag H' B p → But B H H' → Ls K H' u rs → rs.length = n + 1 → AllB 21 rs → Q u H'
theorem AllB.mono {n m : Nat} {qs : List Rat} (h : AllB n qs) (k : n ≤ m) : AllB m qs := fun q hq => (h q hq).mono k
abbrev nSpo : List Str := ["_law_bag_here", "_law_a", "_law_spot"]
abbrev nRow : List Str := ["_law_bag_here", "_law_size", "_law_gap", "_law_k"]
theorem yesT {σ : L2.St} {H : Hp} {t e : Hp → Prop} (h : t H) : tYes σ H (fun b H3 => if b = true then t H3 else e H3) := by
  show (if true = true then t H else e H)
  rw [if_pos rfl]
  exact h
theorem zeros {K : PySem.W.Frag} {H : Hp} {v : V} (h : Nq K H v 0) (n : Nat) : Nl K H (List.replicate n v) (List.replicate n 0) := by
  refine ⟨by rw [List.length_replicate, List.length_replicate], fun i x q h1 h2 => ?_⟩
  rw [List.getElem?_replicate] at h1 h2
  split at h1
  · rw [if_pos (by assumption)] at h2
    rw [← Option.some.inj h1, ← Option.some.inj h2]
    exact h
  · cases h1
section
variable {P : Program} {w : World} {K : PySem.W.Frag} {mg : Str → Option Value} {base : Heap} {f : Addr} {fd : FuncData}
end
end Kx
end
section
set_option maxHeartbeats 4000000
namespace Kx
open PySem PySem.Spec PyProof.Rows L2 RZ
/-- where nothing is raised -/
theorem calm {P : Program} {w : World} {K : PySem.W.Frag} {mg : Str → Option Value} {base : Heap} {k : Nat} {f : Addr} {fd : FuncData} {ps : List Str} {sp sp0 : Sp} (F : FnOk P w K mg base (L2.CX P w) k f fd ps sp) (h : ∀ vs H Q E, sp0 vs H Q E → sp vs H Q (fun _ _ _ => False)) :
    FnOk P w K mg base CX0 k f fd ps sp0 := by
  refine ⟨fun vs H Q E q => F.len vs H Q _ (h _ _ _ _ q), fun A outer s H args us vs Q E hr he hb hv hs => codeAny_mono (F.run A outer s H args us vs Q _ hr he hb hv (h _ _ _ _ hs)) fun r s' hq => ?_⟩
  cases r with
  | error e =>
    obtain ⟨_, _, _, _, _, _, _, _, _, _, _, _, z⟩ := hq
    exact z.elim
  | ok fl =>
    cases fl with
    | ret u => exact hq
    | next => exact False.elim hq
    | brk => exact False.elim hq
    | cont => exact False.elim hq
/-- what stands of the class of the steps -/
structure StepK (P : Program) (w : World) (K : PySem.W.Frag) (mg : Str → Option Value) (base : Heap) (C S CF CO : Addr) : Prop where
  c : Cls K S
  nA : ∀ n ∈ stN, NoAttr K S n
  m : mg "Step" = some (.ref S)
  ini : ∃ (fI : Addr) (fd : FuncData), Mk K S fI ∧ FnOk P w K mg base (L2.CX P w) 6 fI fd ["self", "numbers"] (spSI K S CF CO) ∧ Binds K fd ["self", "numbers"] []
  ty : ∀ H a dx fs, H a = some (.ins S dx fs) → TyX K H (.ref a) (.ref S)
  kit : PySem.W.kitOne K (.ref S) (.ref S) = some true
  kB : ∀ n ∈ ["int", "bool", "str", "tuple", "list"], PySem.W.kitOne K (.ref S) (.type n) = some false
  kR : PySem.W.kitOne K (.ref S) (.ref C) = some false
section
variable {P : Program} {w : World} {K : PySem.W.Frag} {mg : Str → Option Value} {base : Heap} {f C S CF CO CN CP CL CU o1 o0 : Addr} {fd : FuncData}
/-- Step(v): from the numbers that v holds -/
theorem mk_step {H : Hp} {v : V} {E : XK} {Q : VK} (h : Giv K CF CO H v 0 E fun xs qs => ∀ H' y, Same H H' → StAt K S H' y qs → Q y H') (hv : ∀ a, v = .ref a → H a ≠ none) :
    ∀ x dx, H x = none → H dx = none → dx ≠ x → spSI K S CF CO [.ref x, v] (upd (upd H dx (.own x)) x (.ins S dx [])) (fun z H2 => z = .non ∧ Q (.ref x) H2) E := by
  intro x dx nx ndx ne
  have hx2 : upd (upd H dx (.own x)) x (.ins S dx []) x = some (.ins S dx []) := upd_same
  have sm : Same H (upd (upd H dx (.own x)) x (.ins S dx [])) := (new_same ndx _).trans (new_same (by rw [upd_ne (Ne.symm ne)]; exact nx) _)
  refine ⟨x, dx, v, rfl, fun e => hv x e nx, hx2, ?_⟩
  rcases h with ⟨h1, h2⟩ | ⟨a, xs, ev, ha, h⟩
  · exact .inl ⟨h1.same sm, h2.same sm⟩
  refine .inr ⟨a, xs, ev, ha.same sm, ?_⟩
  rcases h with ⟨ho, air⟩ | ⟨l1, l2, h⟩
  · exact .inl ⟨ho, air.same sm⟩
  refine .inr ⟨l1, l2, ?_⟩
  rcases h with ⟨rs, k, hI, hb, air⟩ | ⟨qs, hn, q⟩
  · exact .inl ⟨rs, k, hI.same sm, hb, air.same sm⟩
  refine .inr ⟨qs, hn.same sm, fun H' b x0 fv sv e0 u nb hx hb => ⟨rfl, ?_⟩⟩
  have lq : xs.length = qs.length := hn.1
  have s' : Same H H' := fun e o he => u e o (fun z => by rw [z, nx] at he; cases he) (sm e o he)
  exact q H' _ s' ⟨x, dx, b, xs, x0, fv, sv, rfl, hx, hb, hn.same s', e0, by omega, by omega⟩
theorem step_new {H H1 : Hp} {a : Addr} {xs : List V} {qs : List Rat} {E : XK} {Q : VK} (s : Same H H1) (ha : SqH H1 a xs) (hn : Nl K H1 xs qs) (l1 : 2 ≤ qs.length) (l2 : qs.length ≤ 24) (g : ∀ H' y, Same H H' → StAt K S H' y qs → Q y H') :
    ∀ x dx, H1 x = none → H1 dx = none → dx ≠ x → spSI K S CF CO [.ref x, .ref a] (upd (upd H1 dx (.own x)) x (.ins S dx [])) (fun z H2 => z = .non ∧ Q (.ref x) H2) E :=
  mk_step (giv_ok ha hn (by omega) (by omega) fun H' y s' r => g H' y (s.trans s') r) fun b e z => by
    obtain rfl : a = b := V.ref.inj e
    rcases ha with h | h <;> rw [h] at z <;> cases z
def spSn (K : PySem.W.Frag) : Sp := fun vs H Q _ => ∃ n : Nat, vs = [.int (n : Nat)] ∧ 2 ≤ n ∧ n ≤ 24 ∧ GivesL K H Q (1 :: List.replicate (n - 1) 0)
def spStil (K : PySem.W.Frag) (S : Addr) : Sp := fun vs H Q _ => ∃ n : Nat, vs = [.int (n : Nat)] ∧ 2 ≤ n ∧ n ≤ 24 ∧ ∀ H' y, Same H H' → StAt K S H' y (1 :: List.replicate (n - 1) 0) → Q y H'
theorem scSn : FnScope ["order"] ["order"] (defScope F_still_numbers) := ⟨rfl, rfl, rfl, by decide +kernel, rfl, by decide +kernel, by decide +kernel⟩
theorem ok_stilln (G : Fun K "still_numbers" "still_numbers" F_still_numbers f fd) (k1 : KP K o1 1 1) (k0 : KP K o0 0 1) (mZ : mg "ZERO" = some (.ref o0)) (mO : mg "ONE" = some (.ref o1)) : FnOk P w K mg base CX0 1 f fd ["order"] (spSn K) := by
  refine G.ok scSn (fun vs H Q E h => ?_) (fun cdv A outer s H vs Q E hr h => ?_)
  · obtain ⟨n, rfl, _⟩ := h
    rfl
  obtain ⟨n, rfl, h2, h24, q⟩ := h
  refine ⟨_, pss_one (ps_ret (pe_op op_cat (pe_lst (pa_cons (C8.pe_gc (v := .ref o1) rfl ⟨_, mO, rfl⟩) pa_nil)) (pe_op op_rep (pe_lst (pa_cons (C8.pe_gc (v := .ref o0) rfl ⟨_, mZ, rfl⟩) pa_nil)) (pe_op op_sub (pv 0) pe_int)))), ?_⟩
  refine ⟨(by show 1 ≤ sizeLine; decide), fun a na => ⟨(by show 1 ≤ sizeLine; decide), fun b nb => ⟨_, rfl, (n : Int), 1, rfl, rfl, b, ((n : Int) - 1), [.ref o0], rfl, rfl, upd_same, by omega, by omega, (by show 1 * _ ≤ sizeLine; exact Nat.le_of_lt (small1000 (by omega))), fun c nc => ?_⟩⟩⟩
  have rep : (List.replicate ((n : Int) - 1).toNat [V.ref o0]).flatten = List.replicate (n - 1) (.ref o0) := by
    rw [List.flatten_replicate_singleton]
    congr 1
    omega
  rw [rep]
  refine ⟨a, c, _, _, rfl, rfl, new_same nc _ _ _ (new_same nb _ _ _ upd_same), upd_same, Nat.le_of_lt (small1000 (by rw [List.length_replicate]; show 1 + _ ≤ _; omega)), fun d nd => ?_⟩
  refine q d _ _ ((new_same na _).trans ((new_same nb _).trans ((new_same nc _).trans (new_same nd _)))) ?_ upd_same ?_
  · exact (new_same na (.lst [V.ref o1])).free ((new_same nb _).free ((new_same nc _).free nd))
  · exact Nl.cons ⟨o1, rfl, .inr k1⟩ (zeros ⟨o0, rfl, .inr k0⟩ _)
theorem scStl : FnScope ["order"] ["order"] (defScope C_Step_still) := ⟨rfl, rfl, rfl, by decide +kernel, rfl, by decide +kernel, by decide +kernel⟩
theorem ok_still (G : Fun K "still" "Step.still" C_Step_still f fd) (k : StepK P w K mg base C S CF CO) (UC : Use P w K mg base (L2.CX P w) 3 "check_order" ["order"] (spCo K CO) []) (UN : Use P w K mg base CX0 1 "still_numbers" ["order"] (spSn K) []) :
    FnOk P w K mg base (L2.CX P w) 8 f fd ["order"] (spStil K S) := by
  refine G.okX scStl (fun vs H Q E h => ?_) (fun cdv A outer s H vs Q E hr h => ?_)
  · obtain ⟨n, rfl, _⟩ := h
    rfl
  obtain ⟨n, rfl, h2, h24, q⟩ := h
  obtain ⟨fI, fdI, M, FI, bI⟩ := k.ini
  refine ⟨_, pss_cons (ps_expr (pe_use (E := E) UC (hr.mono (by decide)) rfl (passes_call (takes_of rfl rfl rfl rfl) (fun _ _ _ _ h => h)) (pa_cons (pv 0) pa_nil)))
    (pss_one (ps_ret (pe_make (E := E) M FI hr rfl k.m bI .nil (passes_call (takes_of rfl rfl rfl rfl) (fun _ _ _ _ h => h)) (pa_cons (pe_use UN (hr.mono (by decide)) rfl pass0 (pa_cons (pv 0) pa_nil)) pa_nil)))), ?_⟩
  refine ⟨_, rfl, .int (n : Nat), true, rfl, .yes (by omega) (by omega), fun _ => ?_, fun z => Bool.noConfusion z⟩
  refine ⟨_, rfl, n, rfl, h2, h24, fun d H1 xs s1 n1 e1 m1 => ?_⟩
  exact step_new s1 (.inl e1) m1 (by rw [List.length_cons, List.length_replicate]; omega) (by rw [List.length_cons, List.length_replicate]; omega) q
end
/-! ### any value -/
def V2 (H : Hp) (x : V) : Prop := flatV x = true ∨ ∃ a ys, x = .ref a ∧ H a = some (.tup ys) ∧ ys.length ≤ 60 ∧ ∀ y ∈ ys, flatV y = true
inductive Vx (K : PySem.W.Frag) (S : Addr) (H : Hp) : V → Prop where
  | flat {v : V} (h : flatV v = true) : Vx K S H v
  | lst {a : Addr} {xs : List V} (h : H a = some (.lst xs)) (n : xs.length ≠ 5) (l : xs.length ≤ 60) (i : ∀ x ∈ xs, V2 H x) : Vx K S H (.ref a)
  | tup {a : Addr} {xs : List V} (h : H a = some (.tup xs)) (l : xs.length ≤ 60) (i : ∀ x ∈ xs, V2 H x) : Vx K S H (.ref a)
  | st {v : V} {qs : List Rat} (h : StAt K S H v qs) : Vx K S H v
/-- no int, seen at once -/
def NI (H : Hp) (x : V) : Prop := x = .non ∨ (∃ b, x = .bl b) ∨ (∃ s, x = .str s) ∨ ∃ a ys, x = .ref a ∧ H a = some (.tup ys)
/-- no fraction, seen at once -/
inductive NF (K : PySem.W.Frag) (S : Addr) (H : Hp) : V → Prop where
  | flat {v : V} (h : flatV v = true) : NF K S H v
  | lst {a : Addr} {xs : List V} (h : H a = some (.lst xs)) (n : xs.length ≠ 5) : NF K S H (.ref a)
  | len {a : Addr} {xs : List V} (h : H a = some (.tup xs)) (n : xs.length ≠ 2) : NF K S H (.ref a)
  | one {a : Addr} {x y : V} (h : H a = some (.tup [x, y])) (n : NI H x) (m : NI H y ∨ ∃ i, y = .int i) : NF K S H (.ref a)
  | two {a : Addr} {x y : V} (h : H a = some (.tup [x, y])) (n : ∃ i, x = .int i) (m : NI H y) : NF K S H (.ref a)
  | bad {a : Addr} {u l : Int} (h : H a = some (.tup [.int u, .int l])) (n : (decide (1 ≤ l) && decide (Nat.gcd u.natAbs l.natAbs = 1)) = false) (m : l.natAbs < 100) : NF K S H (.ref a)
  | st {v : V} {qs : List Rat} (h : StAt K S H v qs) : NF K S H v
section
variable {K : PySem.W.Frag} {S : Addr} {H H' : Hp} {B p : Addr}
theorem V2.go {x : V} (h : V2 H x) (b : Bag H B p) (s : Go B H H') : V2 H' x := h.imp id fun ⟨a, ys, e, h1, h2⟩ => ⟨a, ys, e, tup_go h1 b s, h2⟩
theorem V2.same {x : V} (h : V2 H x) (s : Same H H') : V2 H' x := h.imp id fun ⟨a, ys, e, h1, h2⟩ => ⟨a, ys, e, s _ _ h1, h2⟩
theorem NI.go {x : V} (h : NI H x) (b : Bag H B p) (s : Go B H H') : NI H' x := h.imp id (Or.imp id (Or.imp id fun ⟨a, ys, e, h1⟩ => ⟨a, ys, e, tup_go h1 b s⟩))
theorem NI.same {x : V} (h : NI H x) (s : Same H H') : NI H' x := h.imp id (Or.imp id (Or.imp id fun ⟨a, ys, e, h1⟩ => ⟨a, ys, e, s _ _ h1⟩))
theorem Vx.go {v : V} (h : Vx K S H v) (b : Bag H B p) (s : Go B H H') : Vx K S H' v := by
  cases h with
  | flat h => exact .flat h
  | lst h n l i => exact .lst (lst_go h n b s) n l fun x hx => (i x hx).go b s
  | tup h l i => exact .tup (tup_go h b s) l fun x hx => (i x hx).go b s
  | st h => exact .st (h.go b s)
theorem Vx.same {v : V} (h : Vx K S H v) (s : Same H H') : Vx K S H' v := by
  cases h with
  | flat h => exact .flat h
  | lst h n l i => exact .lst (s _ _ h) n l fun x hx => (i x hx).same s
  | tup h l i => exact .tup (s _ _ h) l fun x hx => (i x hx).same s
  | st h => exact .st (h.same s)
theorem NF.go {v : V} (h : NF K S H v) (b : Bag H B p) (s : Go B H H') : NF K S H' v := by
  cases h with
  | flat h => exact .flat h
  | lst h n => exact .lst (lst_go h n b s) n
  | len h n => exact .len (tup_go h b s) n
  | one h n m => exact .one (tup_go h b s) (n.go b s) (m.imp (fun m => m.go b s) id)
  | two h n m => exact .two (tup_go h b s) n (m.go b s)
  | bad h n m => exact .bad (tup_go h b s) n m
  | st h => exact .st (h.go b s)
theorem NF.same {v : V} (h : NF K S H v) (s : Same H H') : NF K S H' v := by
  cases h with
  | flat h => exact .flat h
  | lst h n => exact .lst (s _ _ h) n
  | len h n => exact .len (s _ _ h) n
  | one h n m => exact .one (s _ _ h) (n.same s) (m.imp (fun m => m.same s) id)
  | two h n m => exact .two (s _ _ h) n (m.same s)
  | bad h n m => exact .bad (s _ _ h) n m
  | st h => exact .st (h.same s)
theorem kb_w : kitB "NoneType" "int" = some false ∧ kitB "NoneType" "bool" = some false ∧ kitB "bool" "int" = some true ∧ kitB "bool" "bool" = some true ∧ kitB "str" "int" = some false ∧ kitB "str" "bool" = some false ∧ kitB "tuple" "int" = some false ∧ kitB "tuple" "bool" = some false ∧ kitB "list" "int" = some false ∧ kitB "list" "bool" = some false := by decide +kernel
theorem kb_t : kitB "NoneType" "tuple" = some false ∧ kitB "bool" "tuple" = some false ∧ kitB "int" "tuple" = some false ∧ kitB "str" "tuple" = some false ∧ kitB "NoneType" "list" = some false ∧ kitB "bool" "list" = some false ∧ kitB "int" "list" = some false ∧ kitB "str" "list" = some false := by decide +kernel
theorem NI.wh {x : V} (h : NI H x) : WhV K H x false := fun H' s => by
  rcases h.same s with rfl | ⟨b, rfl⟩ | ⟨t, rfl⟩ | ⟨a, ys, rfl, h1⟩
  · exact ⟨_, _, _, .base .non, kit_ty kb_w.1, kit_ty kb_w.2.1, rfl⟩
  · exact ⟨_, _, _, .base (.bl b), kit_ty kb_w.2.2.1, kit_ty kb_w.2.2.2.1, rfl⟩
  · exact ⟨_, _, _, .base (.str t), kit_ty kb_w.2.2.2.2.1, kit_ty kb_w.2.2.2.2.2.1, rfl⟩
  · exact ⟨_, _, _, .base (.tup h1), kit_ty kb_w.2.2.2.2.2.2.1, kit_ty kb_w.2.2.2.2.2.2.2.1, rfl⟩
theorem flat_ty {v : V} (h : flatV v = true) : (∃ T, TyX K H v T ∧ PySem.W.kitOne K T (.type "tuple") = some false ∧ PySem.W.kitAny K T [.type "list", .type "tuple"] = some false) := by
  cases v with
  | non => exact ⟨_, .base .non, kit_ty kb_t.1, kit2 kb_t.2.2.2.2.1 kb_t.1 rfl⟩
  | bl b => exact ⟨_, .base (.bl b), kit_ty kb_t.2.1, kit2 kb_t.2.2.2.2.2.1 kb_t.2.1 rfl⟩
  | int i => exact ⟨_, .base (.int i), kit_ty kb_t.2.2.1, kit2 kb_t.2.2.2.2.2.2.1 kb_t.2.2.1 rfl⟩
  | str t => exact ⟨_, .base (.str t), kit_ty kb_t.2.2.2.1, kit2 kb_t.2.2.2.2.2.2.2 kb_t.2.2.2.1 rfl⟩
  | _ => cases h
end
section
variable {P : Program} {w : World} {K : PySem.W.Frag} {mg : Str → Option Value} {base : Heap} {C S CF CO : Addr} {H : Hp}
theorem StAt.ty {v : V} {qs : List Rat} (h : StAt K S H v qs) (k : StepK P w K mg base C S CF CO) : TyX K H v (.ref S) := by
  obtain ⟨x, dx, b, xs, x0, fv, sv, rfl, h1, _⟩ := h
  exact k.ty _ _ _ _ h1
theorem NF.isG {v : V} (h : NF K S H v) (k : StepK P w K mg base C S CF CO) : IsGs K H v false := fun H' s => by
  have z := h.same s
  clear h
  cases z with
  | flat h =>
    obtain ⟨T, t, k1, _⟩ := flat_ty (K := K) (H := H') h
    exact .inl ⟨T, t, k1, rfl⟩
  | lst h n => exact .inl ⟨_, .base (.lst h), kit_ty kb_l.2.1, rfl⟩
  | len h n => exact .inr (.inl ⟨_, _, rfl, SqT.of h, .base (.tup h), n, rfl⟩)
  | one h n m =>
    rcases m with m | ⟨i, rfl⟩
    · exact .inr (.inr ⟨_, _, _, false, false, rfl, SqT.of h, .base (.tup h), n.wh, m.wh, .inl ⟨rfl, rfl⟩⟩)
    · exact .inr (.inr ⟨_, _, _, false, true, rfl, SqT.of h, .base (.tup h), n.wh, wh_int i, .inl ⟨rfl, rfl⟩⟩)
  | two h n m =>
    obtain ⟨i, rfl⟩ := n
    exact .inr (.inr ⟨_, _, _, true, false, rfl, SqT.of h, .base (.tup h), wh_int i, m.wh, .inl ⟨rfl, rfl⟩⟩)
  | bad h n _ => exact .inr (.inr ⟨_, _, _, true, true, rfl, SqT.of h, .base (.tup h), wh_int _, wh_int _, .inr ⟨_, _, rfl, rfl, rfl, rfl, n.symm⟩⟩)
  | st h => exact .inl ⟨_, h.ty k, k.kB _ (by simp), rfl⟩
/-- no list, no tuple -/
theorem flat_lsv {v : V} (h : flatV v = true) : LsV K H v false := fun H' s => by
  obtain ⟨T, t, _, k⟩ := flat_ty (K := K) (H := H') h
  exact ⟨T, t, k⟩
theorem StAt.lsv {v : V} {qs : List Rat} (h : StAt K S H v qs) (k : StepK P w K mg base C S CF CO) : LsV K H v false := fun H' s =>
  ⟨_, (h.same s).ty k, kitAny_cons (k.kB "list" (by simp)) (fun _ => kitAny_cons (k.kB "tuple" (by simp)) (fun _ => kitAny_nil) (fun z => Bool.noConfusion z)) (fun z => Bool.noConfusion z)⟩
/-- an int from lo to hi it is not -/
theorem Vx.inR {v : V} {lo hi : Int} (h : Vx K S H v) (k : StepK P w K mg base C S CF CO) (n : ∀ i : Int, v = .int i → i < lo ∨ hi < i) : InR K H v lo hi false := by
  have no : WhV K H v false → InR K H v lo hi false := fun w => ⟨false, w, .inl ⟨rfl, rfl⟩⟩
  have ni : NI H v → InR K H v lo hi false := fun z => no z.wh
  cases h with
  | flat h =>
    cases v with
    | non => exact ni (.inl rfl)
    | bl b => exact ni (.inr (.inl ⟨b, rfl⟩))
    | int i => exact .no (n i rfl)
    | str t => exact ni (.inr (.inr (.inl ⟨t, rfl⟩)))
    | _ => cases h
  | lst h _ _ _ => exact no fun H' s => ⟨_, _, _, .base (.lst (s _ _ h)), kit_ty kb_w.2.2.2.2.2.2.2.2.1, kit_ty kb_w.2.2.2.2.2.2.2.2.2, rfl⟩
  | tup h _ _ => exact ni (.inr (.inr (.inr ⟨_, _, rfl, h⟩)))
  | st h => exact no fun H' s => ⟨_, _, _, (h.same s).ty k, k.kB "int" (by simp), k.kB "bool" (by simp), rfl⟩
end
end Kx
end
section
set_option maxHeartbeats 4000000
namespace Kx
open PySem PySem.Spec PyProof.Rows L2
def Od (K : PySem.W.Frag) (S : Addr) (H : Hp) (v : V) : Prop := Vx K S H v ∧ NF K S H v
theorem Od.same {K : PySem.W.Frag} {S : Addr} {H H' : Hp} {v : V} (h : Od K S H v) (s : Same H H') : Od K S H' v := ⟨h.1.same s, h.2.same s⟩
theorem Od.go {K : PySem.W.Frag} {S : Addr} {H H' : Hp} {B p : Addr} {v : V} (h : Od K S H v) (b : Bag H B p) (s : Go B H H') : Od K S H' v := ⟨h.1.go b s, h.2.go b s⟩
def spOdd (K : PySem.W.Frag) (S : Addr) : Sp := fun vs H Q _ => ∃ B p : Addr, vs = [.ref B] ∧ Bag H B p ∧ ∀ H' v, Bag H' B p → But B H H' → Od K S H' v → Q v H'
section
variable {P : Program} {w : World} {K : PySem.W.Frag} {mg : Str → Option Value} {base : Heap} {f C S CF CO pS gS : Addr} {mc : Value} {fd fdS : FuncData}
end
end Kx
end
section
set_option maxHeartbeats 4000000
namespace Kx
open PySem PySem.Spec PyProof.Rows L2 RZ
/-! ### no order -/
def spNo (K : PySem.W.Frag) (S : Addr) : Sp := fun vs H Q _ => ∃ B p : Addr, vs = [.ref B] ∧ Bag H B p ∧ ∀ H' v, Bag H' B p → But B H H' → Vx K S H' v → (∀ i : Int, v = .int i → i < 2 ∨ 24 < i) → Q v H'
section
variable {P : Program} {w : World} {K : PySem.W.Frag} {mg : Str → Option Value} {base : Heap} {f C S CF CO : Addr} {fd : FuncData}
end
/-! ### like -/
structure KT (K : PySem.W.Frag) (a : Addr) (xs : List V) : Prop where
  ex : ∃ (o : Obj) (its : Array Value) (n : Nat), K.lookup a = some o ∧ o.cls = .type "tuple" ∧ o.data = .seq its n ∧ its.size ≤ sizeLine ∧ Vals xs its.toList
def TupAt (K : PySem.W.Frag) (H : Hp) (a : Addr) (xs : List V) : Prop := H a = some (.tup xs) ∨ KT K a xs
theorem TupAt.t {K : PySem.W.Frag} {H : Hp} {a : Addr} {xs : List V} (h : TupAt K H a xs) : SqT K H a xs := h.elim SqT.of fun k => .inr k.ex
theorem TupAt.ty {K : PySem.W.Frag} {H : Hp} {a : Addr} {xs : List V} (h : TupAt K H a xs) : TyX K H (.ref a) (.type "tuple") := h.elim (fun h => .base (.tup h)) fun k => by
  obtain ⟨o, its, n, h1, h2, _⟩ := k.ex
  exact .kTuple h1 h2
theorem TupAt.same {K : PySem.W.Frag} {H H' : Hp} {a : Addr} {xs : List V} (h : TupAt K H a xs) (s : Same H H') : TupAt K H' a xs := h.imp (s _ _) id
def Lk (K : PySem.W.Frag) (S : Addr) : Nat → Hp → V → V → Prop
  | 0, H, v, u => u = v ∧ (flatV v = true ∨ ∃ qs, StAt K S H v qs)
  | n + 1, H, v, u => (u = v ∧ (flatV v = true ∨ ∃ qs, StAt K S H v qs)) ∨ ∃ (a b : Addr) (xs ys : List V), v = .ref a ∧ u = .ref b ∧ xs.length ≤ 60 ∧ Paired (Lk K S n H) xs ys ∧
      ((H a = some (.lst xs) ∧ H b = some (.lst ys)) ∨ (TupAt K H a xs ∧ TupAt K H b ys))
section
variable {K : PySem.W.Frag} {S : Addr} {H H' : Hp}
theorem Lk.same (s : Same H H') : ∀ {n : Nat} {v u : V}, Lk K S n H v u → Lk K S n H' v u
  | 0, _, _, h => ⟨h.1, h.2.imp id fun ⟨qs, z⟩ => ⟨qs, z.same s⟩⟩
  | n + 1, v, u, h => by
    rcases h with ⟨h1, h2⟩ | ⟨a, b, xs, ys, e1, e2, l, p, q⟩
    · exact .inl ⟨h1, h2.imp id fun ⟨qs, z⟩ => ⟨qs, z.same s⟩⟩
    · exact .inr ⟨a, b, xs, ys, e1, e2, l, L2.Paired.mapP p fun _ _ z => Lk.same s z, q.imp (fun q => ⟨s _ _ q.1, s _ _ q.2⟩) fun q => ⟨q.1.same s, q.2.same s⟩⟩
theorem Lk.flat {v : V} (h : flatV v = true) : ∀ {n : Nat}, Lk K S n H v v
  | 0 => ⟨rfl, .inl h⟩
  | _ + 1 => .inl ⟨rfl, .inl h⟩
theorem Lk.st {v : V} {qs : List Rat} (h : StAt K S H v qs) : ∀ {n : Nat}, Lk K S n H v v
  | 0 => ⟨rfl, .inr ⟨qs, h⟩⟩
  | _ + 1 => .inl ⟨rfl, .inr ⟨qs, h⟩⟩
theorem Lk.succ : ∀ {n : Nat} {v u : V}, Lk K S n H v u → Lk K S (n + 1) H v u
  | 0, _, _, h => .inl h
  | n + 1, _, _, h => by
    rcases h with h | ⟨a, b, xs, ys, e1, e2, l, p, q⟩
    · exact .inl h
    · exact .inr ⟨a, b, xs, ys, e1, e2, l, L2.Paired.mapP p fun _ _ z => Lk.succ z, q⟩
theorem Lk.lst {n : Nat} {a b : Addr} {xs ys : List V} (h1 : H a = some (.lst xs)) (h2 : H b = some (.lst ys)) (l : xs.length ≤ 60) (p : Paired (Lk K S n H) xs ys) : Lk K S (n + 1) H (.ref a) (.ref b) := .inr ⟨a, b, xs, ys, rfl, rfl, l, p, .inl ⟨h1, h2⟩⟩
theorem paired_flat {n : Nat} : ∀ {xs : List V}, (∀ x ∈ xs, flatV x = true) → Paired (Lk K S n H) xs xs
  | [], _ => .nil
  | x :: xs, h => .cons (Lk.flat (h x List.mem_cons_self)) (paired_flat fun y hy => h y (List.mem_cons_of_mem _ hy))
theorem V2.lk {n : Nat} {x : V} (h : V2 H x) : Lk K S (n + 1) H x x := by
  rcases h with h | ⟨a, ys, rfl, h1, l, fl⟩
  · exact Lk.flat h
  · exact .inr ⟨a, a, ys, ys, rfl, rfl, l, paired_flat fl, .inr ⟨.inl h1, .inl h1⟩⟩
theorem paired_v2 {n : Nat} : ∀ {xs : List V}, (∀ x ∈ xs, V2 H x) → Paired (Lk K S (n + 1) H) xs xs
  | [], _ => .nil
  | x :: xs, h => .cons (h x List.mem_cons_self).lk (paired_v2 fun y hy => h y (List.mem_cons_of_mem _ hy))
theorem Vx.lk {n : Nat} {v : V} (h : Vx K S H v) : Lk K S (n + 2) H v v := by
  cases h with
  | flat h => exact Lk.flat h
  | lst h _ l i => exact .inr ⟨_, _, _, _, rfl, rfl, l, paired_v2 i, .inl ⟨h, h⟩⟩
  | tup h l i => exact .inr ⟨_, _, _, _, rfl, rfl, l, paired_v2 i, .inr ⟨.inl h, .inl h⟩⟩
  | st h => exact Lk.st h
theorem Nq.tup {v : V} {q : Rat} (h : Nq K H v q) : ∃ a, v = .ref a ∧ TupAt K H a [.int q.num, .int (q.den : Nat)] := by
  obtain ⟨a, e, h⟩ := h
  exact ⟨a, e, h.imp id fun k => ⟨k.ex⟩⟩
theorem Nq.lk {n : Nat} {v u : V} {q : Rat} (h : Nq K H v q) (h' : Nq K H u q) : Lk K S (n + 1) H v u := by
  obtain ⟨a, rfl, h1⟩ := h.tup
  obtain ⟨b, rfl, h2⟩ := h'.tup
  exact .inr ⟨a, b, _, _, rfl, rfl, (by show 2 ≤ 60; decide), .cons (Lk.flat rfl) (.cons (Lk.flat rfl) .nil), .inr ⟨h1, h2⟩⟩
theorem Nl.pair {n : Nat} : ∀ {xs ys : List V} {qs : List Rat}, Nl K H xs qs → Nl K H ys qs → Paired (Lk K S (n + 1) H) xs ys
  | [], [], [], _, _ => .nil
  | x :: xs, y :: ys, q :: qs, h, h' => .cons ((h.2 0 x q rfl rfl).lk (h'.2 0 y q rfl rfl)) (Nl.pair h.tail h'.tail)
  | [], _ :: _, [], _, h' => by cases h'.1
  | _ :: _, [], _, h, h' => by have e := h.1.trans h'.1.symm; cases e
  | [], _, _ :: _, h, _ => by cases h.1
  | _ :: _, _, [], h, _ => by cases h.1
theorem Ls.lk {n : Nat} {v u : V} {qs : List Rat} (h : Ls K H v qs) (h' : Ls K H u qs) (l : qs.length ≤ 60) : Lk K S (n + 2) H v u := by
  obtain ⟨a, xs, rfl, h1, n1⟩ := h
  obtain ⟨b, ys, rfl, h2, n2⟩ := h'
  exact Lk.lst h1 h2 (by rw [n1.1]; exact l) (n1.pair n2)
end
theorem Pr_get {α β : Type} {F : α → β → Prop} : ∀ {l1 : List α} {l2 : List β} {i : Nat} {x : α}, Paired F l1 l2 → l1[i]? = some x → ∃ y, l2[i]? = some y ∧ F x y
  | _, _, _, _, .nil, h => by simp at h
  | _, _, 0, x, .cons (b := b) r _, h => ⟨b, rfl, by
    have e := Option.some.inj (show some _ = some x from by simpa using h)
    rw [← e]
    exact r⟩
  | _, _, i + 1, x, .cons _ t, h => by
    obtain ⟨y, h1, h2⟩ := Pr_get (i := i) (x := x) t (by simpa using h)
    exact ⟨y, by simpa using h1, h2⟩
theorem walk_zipT {K : PySem.W.Frag} {a b : Addr} {xs ys : List V} {n : Nat} (hn : n = min xs.length ys.length) : Walk (ItzT K a b) n (fun H => SqT K H a xs ∧ SqT K H b ys) (YPair (fun i => xs[i]?) (fun i => ys[i]?)) := by
  subst hn
  refine ⟨fun i H hi q => ⟨xs, ys, xs[i]'(by omega), ys[i]'(by omega), q.1, q.2, by simp [show i < xs.length by omega], by simp [show i < ys.length by omega]⟩, fun H q => ⟨xs, ys, q.1, q.2, by omega⟩, fun i H v H' hi q y => ?_⟩
  obtain ⟨T, x, z, h1, h2, h3, h4, h5⟩ := y
  exact ⟨T, x, z, h1, h2, h3, h4 xs q.1, h5 ys q.2⟩
def tyS : V → String
  | .non => "NoneType"
  | .bl _ => "bool"
  | .int _ => "int"
  | _ => "str"
theorem ty_flat {K : PySem.W.Frag} {H : Hp} {v : V} (h : flatV v = true) : TyX K H v (.type (tyS v)) := by
  cases v with
  | non => exact .base .non
  | bl b => exact .base (.bl b)
  | int i => exact .base (.int i)
  | str x => exact .base (.str x)
  | _ => cases h
theorem tyS_in : ∀ {v : V}, flatV v = true → tyS v ∈ ["NoneType", "bool", "int", "str"]
  | .non, _ => by simp [tyS]
  | .bl _, _ => by simp [tyS]
  | .int _, _ => by simp [tyS]
  | .str _, _ => by simp [tyS]
  | .byt _, h => by cases h
  | .flt _, h => by cases h
  | .ref _, h => by cases h
  | .ty _, h => by cases h
theorem kb_seq : ∀ s ∈ ["NoneType", "bool", "int", "str"], kitB s "list" = some false ∧ kitB s "tuple" = some false := by decide +kernel
theorem kb_flat : ∀ s ∈ ["NoneType", "bool", "int", "str"], (kitB s "bool").isSome ∧ (kitB s "str").isSome ∧ (kitB s "int").isSome := by decide +kernel
def spLike (K : PySem.W.Frag) (S : Addr) (n : Nat) : Sp := fun vs H Q _ => ∃ (v u : V), vs = [v, u] ∧ Lk K S n H v u ∧ ∀ H', Same H H' → Q (.bl true) H'
/-- the == of the steps: a step and itself -/
def spEqS (K : PySem.W.Frag) (S : Addr) : Sp := fun vs H Q _ => ∃ (x y : V) (qs : List Rat), vs = [x, y] ∧ StAt K S H x qs ∧ ((y = x ∧ Q (.bl true) H) ∨ (∃ T, TyX K H y T ∧ PySem.W.kitOne K T (.ref S) = some false ∧ Q (.bl false) H))
abbrev nLike : List Str := ["_law_told", "_law_due", "_law_a", "_law_b"]
section
variable {P : Program} {w : World} {K : PySem.W.Frag} {mg : Str → Option Value} {base : Heap} {f C S CF CO : Addr} {fd : FuncData}
theorem scSE : FnScope ["self", "other"] ["self", "other"] (defScope C_Step_eq) := ⟨rfl, rfl, rfl, by decide +kernel, rfl, by decide +kernel, by decide +kernel⟩
theorem ok_seq (G : Fun K "__eq__" "Step.__eq__" C_Step_eq f fd) (k : StepK P w K mg base C S CF CO) (mI : mg "isinstance" = none) : FnOk P w K mg base CX0 1 f fd ["self", "other"] (spEqS K S) := by
  refine G.ok scSE (fun vs H Q E h => ?_) (fun cdv A outer s H vs Q E hr h => ?_)
  · obtain ⟨x, y, qs, rfl, _⟩ := h
    rfl
  obtain ⟨v, u, qs, rfl, hS, hh⟩ := h
  obtain ⟨x, dx, b, xs, x0, fv, sv, rfl, hx, hb, nx, _⟩ := hS
  refine ⟨_, pss_one (ps_ret (pe_and (pe_callB call_isi rfl mI (by decide +kernel) (pa_cons (pv 1) (pa_cons (C8.pe_gc (v := .ref S) rfl ⟨_, k.m, rfl⟩) pa_nil))) (pe_one (pe_cmpR (op_eqD hr.units) (pe_fld (pv 0) rfl) (pe_fld (pv 1) rfl) (nomark _))))), ?_⟩
  rcases hh with ⟨rfl, q⟩ | ⟨T, ty, kt, q⟩
  · refine ⟨_, rfl, .ref x, .ref S, .ref S, .ref S, true, rfl, .own S, k.ty _ _ _ _ hx, k.kit, _, rfl, iteT ?_⟩
    refine ⟨_, rfl, x, S, dx, _, _, rfl, hx, k.c, k.nA _ (by simp [stN]), rfl, _, rfl, x, S, dx, _, _, rfl, hx, k.c, k.nA _ (by simp [stN]), rfl, datL qs, datL qs, nx.dp hb, nx.dp hb, shaped_list _, shaped_list _, ?_⟩
    rw [eqv_list, decide_eq_true rfl]
    exact q
  · exact ⟨_, rfl, u, .ref S, T, .ref S, false, rfl, .own S, ty, kt, _, rfl, iteF q⟩
theorem scLike : FnScope nLike ["_law_told", "_law_due"] (defScope L_like) := ⟨rfl, rfl, rfl, by decide +kernel, rfl, by decide +kernel, by decide +kernel⟩
theorem ok_like {n : Nat} (F : Fun K "_law_like" "_law_like" L_like f fd) (k : StepK P w K mg base C S CF CO) (OE : OpM P w K mg base CX0 1 S "__eq__" (spEqS K S)) (bL : Binds K fd ["_law_told", "_law_due"] []) (mL : mg "_law_like" = some (.ref f)) (G : ∀ n', n = n' + 1 → FnOk P w K mg base CX0 (n + 1) f fd ["_law_told", "_law_due"] (spLike K S n'))
    (mI : mg "isinstance" = none) (ml : mg "list" = none) (mt : mg "tuple" = none) (mb : mg "bool" = none) (ms : mg "str" = none) (mi : mg "int" = none) (mn : mg "len" = none) (mz : mg "zip" = none) (ma : mg "all" = none) :
    FnOk P w K mg base CX0 (n + 2) f fd ["_law_told", "_law_due"] (spLike K S n) := by
  refine F.ok scLike (fun vs H Q E h => ?_) (fun cdv A outer s H vs Q E hr h => ?_)
  · obtain ⟨v, u, rfl, _⟩ := h
    rfl
  obtain ⟨v, u, rfl, tv, q⟩ := h
  have flat : flatV v = true → u = v → ∃ t, PSs (cxOf CX0 P w K mg base nLike "_law_like" (defScope L_like) f cdv A outer s H E).nox (defBody L_like) t ∧ t { nx := fun _ H' => Q .non H', rt := Q } (L2.start nLike [v, u]) H := fun hv hu => by
    subst hu
    obtain ⟨k1, k2⟩ := kb_seq _ (tyS_in hv)
    obtain ⟨k3, k4, k5⟩ := kb_flat _ (tyS_in hv)
    obtain ⟨x3, k3⟩ := Option.isSome_iff_exists.mp k3
    obtain ⟨x4, k4⟩ := Option.isSome_iff_exists.mp k4
    obtain ⟨x5, k5⟩ := Option.isSome_iff_exists.mp k5
    refine ⟨_, pss_cons (ps_if (pt_val (pe_callB call_isiT rfl mI (by decide +kernel) (pa_cons (pv 1) (pa_cons (pe_tup (pa_cons (pe_bltn rfl ml boot_list (rel_ty _)) (pa_cons (pe_bltn rfl mt boot_tuple (rel_ty _)) pa_nil))) pa_nil)))) (pss_cons ps_never (pss_one ps_never)) pss_nil)
      (pss_cons (ps_if (PW.pt (pw_or (pt_cmpR op_isN (pv 1) pe_non (nomark _)) (pw_or1 (pt_cmpR op_isN (pv 0) pe_non (nomark _))))) (pss_one (ps_ret (pe_and (pe_cmpR op_isN (pv 1) pe_non (nomark _)) (pe_one (pe_cmpR op_isN (pv 0) pe_non (nomark _)))))) pss_nil)
      (pss_cons (ps_if (PW.pt (pw_or (pt_val (pe_callB call_isiT rfl mI (by decide +kernel) (pa_cons (pv 0) (pa_cons (pe_tup (pa_cons (pe_bltn rfl ml boot_list (rel_ty _)) (pa_cons (pe_bltn rfl mt boot_tuple (rel_ty _)) pa_nil))) pa_nil)))) (pw_or1 (pt_cmpR op_ne (pe_callB call_isi rfl mI (by decide +kernel) (pa_cons (pv 0) (pa_cons (pe_bltn rfl mb boot_bool (rel_ty _)) pa_nil))) (pe_callB call_isi rfl mI (by decide +kernel) (pa_cons (pv 1) (pa_cons (pe_bltn rfl mb boot_bool (rel_ty _)) pa_nil))) (nomark _))))) (pss_one ps_never) pss_nil)
      (pss_cons (ps_if (PW.pt (pw_or (pt_cmpR op_ne (pe_callB call_isi rfl mI (by decide +kernel) (pa_cons (pv 0) (pa_cons (pe_bltn rfl ms boot_str (rel_ty _)) pa_nil))) (pe_callB call_isi rfl mI (by decide +kernel) (pa_cons (pv 1) (pa_cons (pe_bltn rfl ms boot_str (rel_ty _)) pa_nil))) (nomark _)) (pw_or1 (pt_cmpR op_ne (pe_callB call_isi rfl mI (by decide +kernel) (pa_cons (pv 0) (pa_cons (pe_bltn rfl mi boot_int (rel_ty _)) pa_nil))) (pe_callB call_isi rfl mI (by decide +kernel) (pa_cons (pv 1) (pa_cons (pe_bltn rfl mi boot_int (rel_ty _)) pa_nil))) (nomark _))))) (pss_one ps_never) pss_nil)
      (pss_one (ps_ret (pe_cmpR op_eq (pv 0) (pv 1) (nomark _))))))), ?_⟩
    refine ⟨_, rfl, (by show 2 ≤ sizeLine; decide), fun p np => ?_⟩
    have g1 := new_same np (.tup [.ty "list", .ty "tuple"])
    refine ⟨u, p, _, .type (tyS u), _, false, rfl, upd_same, .cons (.ty _) (.cons (.ty _) .nil), ty_flat hv, kit2 k1 k2 rfl, _, rfl, iteF ?_⟩
    generalize upd H p (.tup [.ty "list", .ty "tuple"]) = H1 at g1
    by_cases e : u = .non
    · subst e
      refine ⟨_, rfl, rfl, _, rfl, iteT ?_⟩
      refine iteT ⟨_, rfl, rfl, _, rfl, iteT ⟨_, rfl, rfl, q H1 g1⟩⟩
    · refine ⟨_, rfl, rfl, _, rfl, ?_⟩
      rw [decide_eq_false e]
      refine iteF ⟨_, rfl, rfl, _, rfl, ?_⟩
      rw [decide_eq_false e]
      refine iteF ?_
      refine ⟨_, rfl, (by show 2 ≤ sizeLine; decide), fun p2 np2 => ?_⟩
      have g2 := g1.trans (new_same np2 (.tup [.ty "list", .ty "tuple"]))
      refine ⟨u, p2, _, .type (tyS u), _, false, rfl, upd_same, .cons (.ty _) (.cons (.ty _) .nil), ty_flat hv, kit2 k1 k2 rfl, _, rfl, iteF ?_⟩
      generalize upd H1 p2 (.tup [.ty "list", .ty "tuple"]) = H2 at g2
      refine ⟨_, rfl, u, _, _, _, x3, rfl, .ty _, ty_flat hv, kit_ty k3, _, rfl, u, _, _, _, x3, rfl, .ty _, ty_flat hv, kit_ty k3, rfl, _, rfl, ?_⟩
      refine iteNS rfl ?_
      refine ⟨_, rfl, u, _, _, _, x4, rfl, .ty _, ty_flat hv, kit_ty k4, _, rfl, u, _, _, _, x4, rfl, .ty _, ty_flat hv, kit_ty k4, rfl, _, rfl, ?_⟩
      refine iteNS rfl ?_
      refine ⟨_, rfl, u, _, _, _, x5, rfl, .ty _, ty_flat hv, kit_ty k5, _, rfl, u, _, _, _, x5, rfl, .ty _, ty_flat hv, kit_ty k5, rfl, _, rfl, ?_⟩
      refine iteNS rfl ?_
      have hs : scal u u = true := by
        cases u <;> first | rfl | cases hv
      refine ⟨_, rfl, _, rfl, hs, ?_⟩
      rw [decide_eq_true rfl]
      exact q H2 g2
  have step : (∃ qs, StAt K S H v qs) → u = v → ∃ t, PSs (cxOf CX0 P w K mg base nLike "_law_like" (defScope L_like) f cdv A outer s H E).nox (defBody L_like) t ∧ t { nx := fun _ H' => Q .non H', rt := Q } (L2.start nLike [v, u]) H := fun hv hu => by
    subst hu
    obtain ⟨qs, hv⟩ := hv
    obtain ⟨a, ea⟩ : ∃ a, u = .ref a := by
      obtain ⟨x, dx, b, xs, x0, fv, sv, e, _⟩ := hv
      exact ⟨x, e⟩
    have nn : u ≠ .non := by rw [ea]; intro z; cases z
    have kA : PySem.W.kitAny K (.ref S) [.type "list", .type "tuple"] = some false := kitAny_cons (k.kB "list" (by simp)) (fun _ => kitAny_cons (k.kB "tuple" (by simp)) (fun _ => kitAny_nil) (fun z => Bool.noConfusion z)) (fun z => Bool.noConfusion z)
    refine ⟨_, pss_cons (ps_if (pt_val (pe_callB call_isiT rfl mI (by decide +kernel) (pa_cons (pv 1) (pa_cons (pe_tup (pa_cons (pe_bltn rfl ml boot_list (rel_ty _)) (pa_cons (pe_bltn rfl mt boot_tuple (rel_ty _)) pa_nil))) pa_nil)))) (pss_cons ps_never (pss_one ps_never)) pss_nil)
      (pss_cons (ps_if (PW.pt (pw_or (pt_cmpR op_isN (pv 1) pe_non (nomark _)) (pw_or1 (pt_cmpR op_isN (pv 0) pe_non (nomark _))))) (pss_one (ps_ret (pe_and (pe_cmpR op_isN (pv 1) pe_non (nomark _)) (pe_one (pe_cmpR op_isN (pv 0) pe_non (nomark _)))))) pss_nil)
      (pss_cons (ps_if (PW.pt (pw_or (pt_val (pe_callB call_isiT rfl mI (by decide +kernel) (pa_cons (pv 0) (pa_cons (pe_tup (pa_cons (pe_bltn rfl ml boot_list (rel_ty _)) (pa_cons (pe_bltn rfl mt boot_tuple (rel_ty _)) pa_nil))) pa_nil)))) (pw_or1 (pt_cmpR op_ne (pe_callB call_isi rfl mI (by decide +kernel) (pa_cons (pv 0) (pa_cons (pe_bltn rfl mb boot_bool (rel_ty _)) pa_nil))) (pe_callB call_isi rfl mI (by decide +kernel) (pa_cons (pv 1) (pa_cons (pe_bltn rfl mb boot_bool (rel_ty _)) pa_nil))) (nomark _))))) (pss_one ps_never) pss_nil)
      (pss_cons (ps_if (PW.pt (pw_or (pt_cmpR op_ne (pe_callB call_isi rfl mI (by decide +kernel) (pa_cons (pv 0) (pa_cons (pe_bltn rfl ms boot_str (rel_ty _)) pa_nil))) (pe_callB call_isi rfl mI (by decide +kernel) (pa_cons (pv 1) (pa_cons (pe_bltn rfl ms boot_str (rel_ty _)) pa_nil))) (nomark _)) (pw_or1 (pt_cmpR op_ne (pe_callB call_isi rfl mI (by decide +kernel) (pa_cons (pv 0) (pa_cons (pe_bltn rfl mi boot_int (rel_ty _)) pa_nil))) (pe_callB call_isi rfl mI (by decide +kernel) (pa_cons (pv 1) (pa_cons (pe_bltn rfl mi boot_int (rel_ty _)) pa_nil))) (nomark _))))) (pss_one ps_never) pss_nil)
      (pss_one (ps_ret (pe_cmpR (op_eqO OE (hr.mono (by omega)) pass0) (pv 0) (pv 1) (nomark _))))))), ?_⟩
    refine ⟨_, rfl, (by show 2 ≤ sizeLine; decide), fun p np => ?_⟩
    have g1 := new_same np (.tup [.ty "list", .ty "tuple"])
    have st1 := hv.same g1
    refine ⟨u, p, _, .ref S, _, false, rfl, upd_same, .cons (.ty _) (.cons (.ty _) .nil), st1.ty k, kA, _, rfl, iteF ?_⟩
    generalize upd H p (.tup [.ty "list", .ty "tuple"]) = H1 at g1 st1
    refine ⟨_, rfl, rfl, _, rfl, ?_⟩
    rw [decide_eq_false nn]
    refine iteF ⟨_, rfl, rfl, _, rfl, ?_⟩
    rw [decide_eq_false nn]
    refine iteF ?_
    refine ⟨_, rfl, (by show 2 ≤ sizeLine; decide), fun p2 np2 => ?_⟩
    have g2' := new_same np2 (.tup [.ty "list", .ty "tuple"])
    have g2 := g1.trans g2'
    have st2 := st1.same g2'
    refine ⟨u, p2, _, .ref S, _, false, rfl, upd_same, .cons (.ty _) (.cons (.ty _) .nil), st2.ty k, kA, _, rfl, iteF ?_⟩
    generalize upd H1 p2 (.tup [.ty "list", .ty "tuple"]) = H2 at g2 st2
    have ty := st2.ty k
    refine ⟨_, rfl, u, _, _, _, false, rfl, .ty _, ty, k.kB "bool" (by simp), _, rfl, u, _, _, _, false, rfl, .ty _, ty, k.kB "bool" (by simp), rfl, _, rfl, ?_⟩
    refine iteNS rfl ?_
    refine ⟨_, rfl, u, _, _, _, false, rfl, .ty _, ty, k.kB "str" (by simp), _, rfl, u, _, _, _, false, rfl, .ty _, ty, k.kB "str" (by simp), rfl, _, rfl, ?_⟩
    refine iteNS rfl ?_
    refine ⟨_, rfl, u, _, _, _, false, rfl, .ty _, ty, k.kB "int" (by simp), _, rfl, u, _, _, _, false, rfl, .ty _, ty, k.kB "int" (by simp), rfl, _, rfl, ?_⟩
    refine iteNS rfl ?_
    have st3 := st2
    obtain ⟨x, dx, b, xs, x0, fv, sv, rfl, hx, _⟩ := st2
    have nf : PySem.W.notFirst K S (.ref S) = true := by
      unfold PySem.W.notFirst
      rw [beq_self_eq_true]
      rfl
    exact ⟨_, rfl, _, rfl, x, dx, _, .ref S, rfl, hx, ty, nf, _, _, qs, rfl, st3, .inl ⟨rfl, q H2 g2⟩⟩
  have base0 : (u = v ∧ (flatV v = true ∨ ∃ qs, StAt K S H v qs)) → ∃ t, PSs (cxOf CX0 P w K mg base nLike "_law_like" (defScope L_like) f cdv A outer s H E).nox (defBody L_like) t ∧ t { nx := fun _ H' => Q .non H', rt := Q } (L2.start nLike [v, u]) H := fun h => h.2.elim (fun z => flat z h.1) fun z => step z h.1
  cases n with
  | zero => exact base0 tv
  | succ n =>
    rcases tv with h0 | ⟨a, b, xs, ys, rfl, rfl, l, pr, hh⟩
    · exact base0 h0
    have GL := G n rfl
    have le : xs.length = ys.length := pr.length
    have el : ∀ (i : Nat) (y z : V), xs[i]? = some y → ys[i]? = some z → ∀ H', Same H H' → Lk K S n H' y z := fun i y z hy hz H' g => by
      obtain ⟨z', h1, h2⟩ := Pr_get pr hy
      rw [hz] at h1
      rw [← Option.some.inj h1] at h2
      exact Lk.same g h2
    rcases hh with ⟨h1, h2⟩ | ⟨h1, h2⟩
    · refine ⟨_, pss_cons (ps_if (pt_val (pe_callB call_isiT rfl mI (by decide +kernel) (pa_cons (pv 1) (pa_cons (pe_tup (pa_cons (pe_bltn rfl ml boot_list (rel_ty _)) (pa_cons (pe_bltn rfl mt boot_tuple (rel_ty _)) pa_nil))) pa_nil))))
          (pss_cons (ps_if (PW.pt (pw_or (pt_cmpR op_ne (pe_callB call_isi rfl mI (by decide +kernel) (pa_cons (pv 0) (pa_cons (pe_bltn rfl ml boot_list (rel_ty _)) pa_nil))) (pe_callB call_isi rfl mI (by decide +kernel) (pa_cons (pv 1) (pa_cons (pe_bltn rfl ml boot_list (rel_ty _)) pa_nil))) (nomark _)) (pw_or1 (pt_cmpR op_ne (pe_callB call_isi rfl mI (by decide +kernel) (pa_cons (pv 0) (pa_cons (pe_bltn rfl mt boot_tuple (rel_ty _)) pa_nil))) (pe_callB call_isi rfl mI (by decide +kernel) (pa_cons (pv 1) (pa_cons (pe_bltn rfl mt boot_tuple (rel_ty _)) pa_nil))) (nomark _))))) (pss_one ps_never) pss_nil)
          (pss_one (ps_ret (pe_and (pe_cmpR op_eq (pe_callB call_len_seq rfl mn PySem.boot_len (pa_cons (pv 0) pa_nil)) (pe_callB call_len_seq rfl mn PySem.boot_len (pa_cons (pv 1) pa_nil)) (nomark _))
            (pe_one (pe_callB (cr_all rfl) rfl ma (by decide +kernel) (pa_cons (pe_lc (own := [("_law_a", 2), ("_law_b", 3)]) (g := gTup K 2 (gCons (gName 2) (gCons (gName 3) gNil))) (tt := tYes) rfl scLike.nd (pi_zipA rfl mz (pa_cons (pv 0) (pa_cons (pv 1) pa_nil))) (blkOk_by (N := nLike) (sc := defScope L_like) (by decide +kernel))
              (fun _ _ _ _ _ => pg_tup rfl (pgs_cons (pg_name (i := 2) scLike.nd rfl (Or.inl rfl)) (pgs_cons (pg_name (i := 3) scLike.nd rfl (Or.inl rfl)) pgs_nil))) (fun _ _ _ _ _ => pts_nil) (fun _ _ _ _ _ => pe_call GL hr rfl mL F.kp bL .nil pass0 (pa_cons (pv 2) (pa_cons (pv 3) pa_nil)))) pa_nil))))))) pss_nil)
        (pss_cons ps_never (pss_cons ps_never (pss_cons ps_never (pss_one ps_never)))), ?_⟩
      refine ⟨_, rfl, (by show 2 ≤ sizeLine; decide), fun p np => ?_⟩
      have g1 := new_same np (.tup [.ty "list", .ty "tuple"])
      refine ⟨.ref b, p, _, .type "list", _, true, rfl, upd_same, .cons (.ty _) (.cons (.ty _) .nil), .base (.lst (g1 _ _ h2)), kit2 kb_l.1 kb_l.2.1 rfl, _, rfl, ?_⟩
      refine iteT ?_
      generalize upd H p (.tup [.ty "list", .ty "tuple"]) = H1 at g1
      have ta : TyX K H1 (.ref a) (.type "list") := .base (.lst (g1 _ _ h1))
      have tb : TyX K H1 (.ref b) (.type "list") := .base (.lst (g1 _ _ h2))
      refine ⟨_, rfl, .ref a, _, _, _, _, rfl, .ty _, ta, kit_ty kb_l.1, _, rfl, .ref b, _, _, _, _, rfl, .ty _, tb, kit_ty kb_l.1, rfl, _, rfl, iteNS rfl ?_⟩
      refine ⟨_, rfl, .ref a, _, _, _, _, rfl, .ty _, ta, kit_ty kb_l.2.1, _, rfl, .ref b, _, _, _, _, rfl, .ty _, tb, kit_ty kb_l.2.1, rfl, _, rfl, iteNS rfl ?_⟩
      refine ⟨_, rfl, a, xs, rfl, .inl (SqL.of (g1 _ _ h1)), _, rfl, b, ys, rfl, .inl (SqL.of (g1 _ _ h2)), rfl, _, rfl, ?_⟩
      rw [decide_eq_true (show V.int (xs.length : Nat) = V.int (ys.length : Nat) by rw [le])]
      refine iteT ⟨_, rfl, _, rfl, a, b, xs, ys, rfl, .inl ⟨SqL.of (g1 _ _ h1), SqL.of (g1 _ _ h2), fun D nD => ?_⟩⟩
      refine lc_it (walk_zip (K := K) (a := a) (b := b) (xs := xs) (ys := ys) (n := xs.length) (by omega)) (fun i H' => Same H1 H' ∧ H' D = some (.lst ((List.replicate i true).map V.bl))) ⟨new_same nD _, upd_same⟩ (fun i H' _ h => ⟨SqL.of (h.1 _ _ (g1 _ _ h1)), SqL.of (h.1 _ _ (g1 _ _ h2))⟩) ?_ ?_
      · rintro i x H' H5 hi ⟨g, hD⟩ ⟨T, y, z, rfl, hT, rfl, hy, hz⟩
        refine ⟨T, [y, z], rfl, SqT.of upd_same, rfl, y, [z], rfl, z, [], rfl, rfl, ?_⟩
        refine ⟨rfl, ?_⟩
        refine yesT ?_
        have g5 : Same H1 (upd H' T (.tup [y, z])) := g.trans (new_same hT _)
        have tyz := el i y z hy hz _ (g1.trans g5)
        refine ⟨_, rfl, _, rfl, y, z, rfl, tyz, fun H6 g6 => ⟨(List.replicate i true).map V.bl, ?_, ?_, ?_, ?_⟩⟩
        · refine g6 _ _ ?_
          rw [upd_ne (ne_of_none hD hT)]
          exact hD
        · rw [List.length_map, List.length_replicate]
          exact small1000 (by omega)
        · exact fun c o h => by rw [upd_ne (ne_of_none h nD)]; exact g6 _ _ (g5 _ _ h)
        · rw [upd_same, List.replicate_succ', List.map_append]
          rfl
      · rintro H' ⟨g, hD⟩
        refine ⟨D, List.replicate xs.length true, rfl, SqL.of hD, ?_⟩
        have e : (List.replicate xs.length true).all id = true := by simp
        rw [e]
        exact q H' (g1.trans g)
    · refine ⟨_, pss_cons (ps_if (pt_val (pe_callB call_isiT rfl mI (by decide +kernel) (pa_cons (pv 1) (pa_cons (pe_tup (pa_cons (pe_bltn rfl ml boot_list (rel_ty _)) (pa_cons (pe_bltn rfl mt boot_tuple (rel_ty _)) pa_nil))) pa_nil))))
          (pss_cons (ps_if (PW.pt (pw_or (pt_cmpR op_ne (pe_callB call_isi rfl mI (by decide +kernel) (pa_cons (pv 0) (pa_cons (pe_bltn rfl ml boot_list (rel_ty _)) pa_nil))) (pe_callB call_isi rfl mI (by decide +kernel) (pa_cons (pv 1) (pa_cons (pe_bltn rfl ml boot_list (rel_ty _)) pa_nil))) (nomark _)) (pw_or1 (pt_cmpR op_ne (pe_callB call_isi rfl mI (by decide +kernel) (pa_cons (pv 0) (pa_cons (pe_bltn rfl mt boot_tuple (rel_ty _)) pa_nil))) (pe_callB call_isi rfl mI (by decide +kernel) (pa_cons (pv 1) (pa_cons (pe_bltn rfl mt boot_tuple (rel_ty _)) pa_nil))) (nomark _))))) (pss_one ps_never) pss_nil)
          (pss_one (ps_ret (pe_and (pe_cmpR op_eq (pe_callB call_len_seq rfl mn PySem.boot_len (pa_cons (pv 0) pa_nil)) (pe_callB call_len_seq rfl mn PySem.boot_len (pa_cons (pv 1) pa_nil)) (nomark _))
            (pe_one (pe_callB (cr_all rfl) rfl ma (by decide +kernel) (pa_cons (pe_lc (own := [("_law_a", 2), ("_law_b", 3)]) (g := gTup K 2 (gCons (gName 2) (gCons (gName 3) gNil))) (tt := tYes) rfl scLike.nd (pi_zipA rfl mz (pa_cons (pv 0) (pa_cons (pv 1) pa_nil))) (blkOk_by (N := nLike) (sc := defScope L_like) (by decide +kernel))
              (fun _ _ _ _ _ => pg_tup rfl (pgs_cons (pg_name (i := 2) scLike.nd rfl (Or.inl rfl)) (pgs_cons (pg_name (i := 3) scLike.nd rfl (Or.inl rfl)) pgs_nil))) (fun _ _ _ _ _ => pts_nil) (fun _ _ _ _ _ => pe_call GL hr rfl mL F.kp bL .nil pass0 (pa_cons (pv 2) (pa_cons (pv 3) pa_nil)))) pa_nil))))))) pss_nil)
        (pss_cons ps_never (pss_cons ps_never (pss_cons ps_never (pss_one ps_never)))), ?_⟩
      refine ⟨_, rfl, (by show 2 ≤ sizeLine; decide), fun p np => ?_⟩
      have g1 := new_same np (.tup [.ty "list", .ty "tuple"])
      refine ⟨.ref b, p, _, .type "tuple", _, true, rfl, upd_same, .cons (.ty _) (.cons (.ty _) .nil), (h2.same g1).ty, kit2 kb_l.2.2.1 kb_l.2.2.2 rfl, _, rfl, ?_⟩
      refine iteT ?_
      generalize upd H p (.tup [.ty "list", .ty "tuple"]) = H1 at g1
      have ta : TyX K H1 (.ref a) (.type "tuple") := (h1.same g1).ty
      have tb : TyX K H1 (.ref b) (.type "tuple") := (h2.same g1).ty
      refine ⟨_, rfl, .ref a, _, _, _, _, rfl, .ty _, ta, kit_ty kb_l.2.2.1, _, rfl, .ref b, _, _, _, _, rfl, .ty _, tb, kit_ty kb_l.2.2.1, rfl, _, rfl, iteNS rfl ?_⟩
      refine ⟨_, rfl, .ref a, _, _, _, _, rfl, .ty _, ta, kit_ty kb_l.2.2.2, _, rfl, .ref b, _, _, _, _, rfl, .ty _, tb, kit_ty kb_l.2.2.2, rfl, _, rfl, iteNS rfl ?_⟩
      refine ⟨_, rfl, a, xs, rfl, .inr ((h1.same g1).t), _, rfl, b, ys, rfl, .inr ((h2.same g1).t), rfl, _, rfl, ?_⟩
      rw [decide_eq_true (show V.int (xs.length : Nat) = V.int (ys.length : Nat) by rw [le])]
      refine iteT ⟨_, rfl, _, rfl, a, b, xs, ys, rfl, .inr ⟨(h1.same g1).t, (h2.same g1).t, fun D nD => ?_⟩⟩
      refine lc_it (walk_zipT (K := K) (a := a) (b := b) (xs := xs) (ys := ys) (n := xs.length) (by omega)) (fun i H' => Same H1 H' ∧ H' D = some (.lst ((List.replicate i true).map V.bl))) ⟨new_same nD _, upd_same⟩ (fun i H' _ h => ⟨((h1.same g1).same h.1).t, ((h2.same g1).same h.1).t⟩) ?_ ?_
      · rintro i x H' H5 hi ⟨g, hD⟩ ⟨T, y, z, rfl, hT, rfl, hy, hz⟩
        refine ⟨T, [y, z], rfl, SqT.of upd_same, rfl, y, [z], rfl, z, [], rfl, rfl, ?_⟩
        refine ⟨rfl, ?_⟩
        refine yesT ?_
        have g5 : Same H1 (upd H' T (.tup [y, z])) := g.trans (new_same hT _)
        have tyz := el i y z hy hz _ (g1.trans g5)
        refine ⟨_, rfl, _, rfl, y, z, rfl, tyz, fun H6 g6 => ⟨(List.replicate i true).map V.bl, ?_, ?_, ?_, ?_⟩⟩
        · refine g6 _ _ ?_
          rw [upd_ne (ne_of_none hD hT)]
          exact hD
        · rw [List.length_map, List.length_replicate]
          exact small1000 (by omega)
        · exact fun c o h => by rw [upd_ne (ne_of_none h nD)]; exact g6 _ _ (g5 _ _ h)
        · rw [upd_same, List.replicate_succ', List.map_append]
          rfl
      · rintro H' ⟨g, hD⟩
        refine ⟨D, List.replicate xs.length true, rfl, SqL.of hD, ?_⟩
        have e : (List.replicate xs.length true).all id = true := by simp
        rw [e]
        exact q H' (g1.trans g)
end
end Kx
end
section
set_option maxHeartbeats 4000000
namespace Kx
open PySem PySem.Spec PyProof.Rows L2 RZ
theorem low_fix {u l : Int} (hl : 1 ≤ l) : (decide ((Rat.divInt u l).num = u) && decide ((((Rat.divInt u l).den : Nat) : Int) = l)) = decide (Nat.gcd u.natAbs l.natAbs = 1) := by
  have l0 : l ≠ 0 := by omega
  by_cases g : Nat.gcd u.natAbs l.natAbs = 1
  · have e : Rat.divInt u l = ⟨u, l.toNat, by omega, by
      show Nat.gcd _ _ = 1
      rw [show l.toNat = l.natAbs by omega]
      exact g⟩ := by
      rw [Rat.mk_eq_divInt]
      congr 1
      omega
    rw [e, decide_eq_true g, Bool.and_eq_true]
    exact ⟨decide_eq_true rfl, decide_eq_true (by show ((l.toNat : Nat) : Int) = l; omega)⟩
  · rw [decide_eq_false g, Bool.and_eq_false_iff]
    by_cases e1 : (Rat.divInt u l).num = u
    · by_cases e2 : (((Rat.divInt u l).den : Nat) : Int) = l
      · have r := (Rat.divInt u l).reduced
        rw [e1] at r
        have e3 : (Rat.divInt u l).den = l.natAbs := by omega
        rw [e3] at r
        exact absurd r g
      · exact .inr (decide_eq_false e2)
    · exact .inl (decide_eq_false e1)
theorem sqt_same {K : PySem.W.Frag} {H H' : Hp} {a : Addr} {xs : List V} (h : SqT K H a xs) (s : Same H H') : SqT K H' a xs := by
  rcases h with (h | ⟨o, h⟩) | h
  · exact .inl (.inl (s _ _ h))
  · exact .inl (.inr ⟨o, s _ _ h⟩)
  · exact .inr h
/-- is v a fraction: r; what stands below is no great number -/
def IsB (K : PySem.W.Frag) (H : Hp) (v : V) (r : Bool) : Prop :=
  (∃ T, TyX K H v T ∧ PySem.W.kitOne K T (.type "tuple") = some false ∧ r = false) ∨
  (∃ a xs, v = .ref a ∧ SqT K H a xs ∧ TyX K H (.ref a) (.type "tuple") ∧ xs.length ≠ 2 ∧ r = false) ∨
  (∃ a x y b1 b2, v = .ref a ∧ SqT K H a [x, y] ∧ TyX K H (.ref a) (.type "tuple") ∧ WhV K H x b1 ∧ WhV K H y b2 ∧ (((b1 && b2) = false ∧ r = false) ∨ ∃ u l : Int, b1 = true ∧ b2 = true ∧ x = .int u ∧ y = .int l ∧ r = (decide (1 ≤ l) && decide (Nat.gcd u.natAbs l.natAbs = 1)) ∧ l.natAbs.log2 < 9000))
theorem IsB.isG {K : PySem.W.Frag} {H : Hp} {v : V} {r : Bool} (h : IsB K H v r) : IsG K H v r := by
  rcases h with h | h | ⟨a, x, y, b1, b2, e, h1, h2, h3, h4, h5 | ⟨u, l, h5, h6, h7, h8, h9, _⟩⟩
  · exact .inl h
  · exact .inr (.inl h)
  · exact .inr (.inr ⟨a, x, y, b1, b2, e, h1, h2, h3, h4, .inl h5⟩)
  · exact .inr (.inr ⟨a, x, y, b1, b2, e, h1, h2, h3, h4, .inr ⟨u, l, h5, h6, h7, h8, h9⟩⟩)
def spIs (K : PySem.W.Frag) : Sp := fun vs H Q _ => ∃ (v : V) (r : Bool), vs = [v] ∧ IsB K H v r ∧ ∀ H', Same H H' → Q (.bl r) H'
/-- what law_is takes -/
def LwI (K : PySem.W.Frag) (H : Hp) (v : V) (r : Bool) : Prop := ∀ H', Same H H' → IsB K H' v r
/-- the indexes of the false ones -/
def badL : List Bool → Nat → List Nat
  | [], _ => []
  | r :: rs, i => if r = true then badL rs (i + 1) else i :: badL rs (i + 1)
theorem bad_head : ∀ (rs : List Bool) (i : Nat), badAt rs i = (badL rs i).head?
  | [], _ => rfl
  | true :: rs, i => bad_head rs (i + 1)
  | false :: _, _ => rfl
theorem badL_snoc : ∀ (rs : List Bool) (i : Nat) (r : Bool), badL (rs ++ [r]) i = if r = true then badL rs i else badL rs i ++ [i + rs.length]
  | [], i, r => by cases r <;> rfl
  | true :: rs, i, r => by
    show badL (rs ++ [r]) (i + 1) = if r = true then badL rs (i + 1) else badL rs (i + 1) ++ [i + (rs.length + 1)]
    rw [badL_snoc rs (i + 1) r, show i + 1 + rs.length = i + (rs.length + 1) by omega]
  | false :: rs, i, r => by
    show i :: badL (rs ++ [r]) (i + 1) = if r = true then i :: badL rs (i + 1) else i :: badL rs (i + 1) ++ [i + (rs.length + 1)]
    rw [badL_snoc rs (i + 1) r, show i + 1 + rs.length = i + (rs.length + 1) by omega]
    cases r <;> rfl
theorem badL_len : ∀ (rs : List Bool) (i : Nat), (badL rs i).length ≤ rs.length
  | [], _ => Nat.le_refl _
  | true :: rs, i => Nat.le_succ_of_le (badL_len rs (i + 1))
  | false :: rs, i => Nat.succ_le_succ (badL_len rs (i + 1))
def datI (ns : List Nat) : PyData := .list (ns.map fun n => .int (n : Nat))
theorem lay_int : ∀ ns : List Nat, PyData.canLayAll0 (ns.map fun n => .int (n : Nat)) = true ∧ PyData.depthAll (ns.map fun n => .int (n : Nat)) = 0
  | [] => ⟨rfl, rfl⟩
  | n :: ns => by
    obtain ⟨h1, h2⟩ := lay_int ns
    refine ⟨?_, ?_⟩
    · show (true && _) = true
      rw [h1]
      rfl
    · show max 0 _ = 0
      rw [h2]
      rfl
theorem shaped_int (ns : List Nat) : SeqAt.shaped (datI ns) = true := by
  obtain ⟨h1, h2⟩ := lay_int ns
  unfold SeqAt.shaped
  rw [Bool.and_eq_true]
  refine ⟨h1, decide_eq_true ?_⟩
  show PyData.depthAll _ + 1 ≤ 64
  rw [h2]
  decide
theorem dp_int {K : PySem.W.Frag} {H : Hp} : ∀ ns : List Nat, DpAll K H (ns.map fun n => V.int (n : Nat)) (ns.map fun n => .int (n : Nat))
  | [] => .nil
  | n :: ns => .cons (.int _) (dp_int ns)
/-- what refused tells -/
def spRf (K : PySem.W.Frag) : Sp := fun vs H Q _ => ∃ (v : V) (le : Int), vs = [v, .int le] ∧
  ((LsV K H v false ∧ ∀ H' t, Same H H' → H' t = some (.lst [.str "InvalidFraction", .int (-1)]) → Q (.ref t) H') ∨
   ∃ (a : Addr) (xs : List V), v = .ref a ∧ SqH H a xs ∧ xs.length ≤ 60 ∧
     (((xs.length : Int) - le < 2 ∨ 24 < (xs.length : Int) - le) ∧ (∀ H' t, Same H H' → H' t = some (.lst [.str "InvalidOrder", .int ((xs.length : Int) - le)]) → Q (.ref t) H') ∨
      2 ≤ (xs.length : Int) - le ∧ (xs.length : Int) - le ≤ 24 ∧ ∃ rs : List Bool, xs.length = rs.length ∧ (∀ (i : Nat) (x : V) (r : Bool), xs[i]? = some x → rs[i]? = some r → LwI K H x r) ∧
        (badAt rs 0 = none → ∀ H', Same H H' → Q .non H') ∧ (∀ k : Nat, badAt rs 0 = some k → ∀ H' t, Same H H' → H' t = some (.lst [.str "InvalidFraction", .int (k : Nat)]) → Q (.ref t) H')))
abbrev nIs : List Str := ["_law_thing", "_law_part"]
abbrev nRf : List Str := ["_law_some", "_law_less", "_law_bad", "_law_k"]
section
variable {P : Program} {w : World} {K : PySem.W.Frag} {mg : Str → Option Value} {base : Heap} {f fL : Addr} {fd fdL : FuncData}
end
end Kx
end
section
set_option maxHeartbeats 4000000
namespace Kx
open PySem PySem.Spec PyProof.Rows L2
/-- the six errors' classes -/
structure Errs (P : Program) (w : World) (K : PySem.W.Frag) (mg : Str → Option Value) (base : Heap) (cs : Fin 6 → Addr) : Prop where
  e0 : ErrC P w K mg base "InvalidNumber" 1 (fs1 "InvalidNumber" "value") (cs 0)
  e1 : ErrC P w K mg base "InvalidFraction" 1 (fs1 "InvalidFraction" "at") (cs 1)
  e2 : ErrC P w K mg base "InvalidOrder" 1 (fs1 "InvalidOrder" "value") (cs 2)
  e3 : ErrC P w K mg base "OrderTooLow" 2 (fs2 "OrderTooLow" "have" "wanted") (cs 3)
  e4 : ErrC P w K mg base "UnlikeOrders" 2 (fs2 "UnlikeOrders" "one" "other") (cs 4)
  e5 : ErrC P w K mg base "InvalidPlace" 1 (fs1 "InvalidPlace" "value") (cs 5)
  co : ∀ i, PySem.W.findIn K (.ref (cs i)) "code" = some none
  f00 : PySem.W.findIn K (.ref (cs 0)) "value" = some none
  f10 : PySem.W.findIn K (.ref (cs 1)) "at" = some none
  f20 : PySem.W.findIn K (.ref (cs 2)) "value" = some none
  f30 : PySem.W.findIn K (.ref (cs 3)) "have" = some none
  f31 : PySem.W.findIn K (.ref (cs 3)) "wanted" = some none
  f40 : PySem.W.findIn K (.ref (cs 4)) "one" = some none
  f41 : PySem.W.findIn K (.ref (cs 4)) "other" = some none
  f50 : PySem.W.findIn K (.ref (cs 5)) "value" = some none
  kt : ∀ i j : Fin 6, PySem.W.kitOne K (.ref (cs i)) (.ref (cs j)) = some (decide (i = j))
/-- which of the errors is caught, and what fault makes of it -/
def Flt (H : Hp) (cs : Fin 6 → Addr) (cls : Value) (d : Option Addr) (Q : VK) : Prop :=
  (cls = .ref (cs 0) ∧ ∃ (dd : Addr) (v : V), d = some dd ∧ H dd = some (.xd (fs1 "InvalidNumber" "value" [v])) ∧ ∀ t H', Same H H' → H t = none → H' t = some (.lst [.str "InvalidNumber", v]) → Q (.ref t) H') ∨
  (cls = .ref (cs 1) ∧ ∃ (dd : Addr) (v : V), d = some dd ∧ H dd = some (.xd (fs1 "InvalidFraction" "at" [v])) ∧ ∀ t H', Same H H' → H t = none → H' t = some (.lst [.str "InvalidFraction", v]) → Q (.ref t) H') ∨
  (cls = .ref (cs 2) ∧ ∃ (dd : Addr) (v : V), d = some dd ∧ H dd = some (.xd (fs1 "InvalidOrder" "value" [v])) ∧ ∀ t H', Same H H' → H t = none → H' t = some (.lst [.str "InvalidOrder", v]) → Q (.ref t) H') ∨
  (cls = .ref (cs 3) ∧ ∃ (dd : Addr) (v u : V), d = some dd ∧ H dd = some (.xd (fs2 "OrderTooLow" "have" "wanted" [v, u])) ∧ ∀ t H', Same H H' → H t = none → H' t = some (.lst [.str "OrderTooLow", v, u]) → Q (.ref t) H') ∨
  (cls = .ref (cs 4) ∧ ∃ (dd : Addr) (v u : V), d = some dd ∧ H dd = some (.xd (fs2 "UnlikeOrders" "one" "other" [v, u])) ∧ ∀ t H', Same H H' → H t = none → H' t = some (.lst [.str "UnlikeOrders", v, u]) → Q (.ref t) H') ∨
  (cls = .ref (cs 5) ∧ ∃ (dd : Addr) (v : V), d = some dd ∧ H dd = some (.xd (fs1 "InvalidPlace" "value" [v])) ∧ ∀ t H', Same H H' → H t = none → H' t = some (.lst [.str "InvalidPlace", v]) → Q (.ref t) H')
def spFlt (cs : Fin 6 → Addr) : Addr → Value → Option Addr → Sp := fun a cls d vs H Q _ => vs = [.ref a] ∧ Flt H cs cls d Q
section
variable {P : Program} {w : World} {K : PySem.W.Frag} {mg : Str → Option Value} {base : Heap} {f : Addr} {cs : Fin 6 → Addr} {fd : FuncData}
end
theorem takes_len {X : Cx} {W : WX} (tk : Takes X W) : Takes X (fun cls d σ H => σ.length = X.N.length → W cls d σ H) := fun u s' ⟨a, B, sI, pins, σ, H, cls, d, e, I, nb, up, sky, na, os, ag, w⟩ =>
  tk u s' ⟨a, B, sI, pins, σ, H, cls, d, e, I, nb, up, sky, na, os, ag, w I.len⟩
abbrev nAsk : List Str := ["_law_deed", "_law_error"]
/-- what ask makes of the lambda's reading -/
def TAsk (cs : Fin 6 → Addr) : (XK → Hp → VK → Prop) → Hp → VK → Prop := fun tl H Q =>
  tl (fun cls d H' => Flt H' cs cls d Q) H (fun v H1 => 2 ≤ sizeLine ∧ ∀ t, H1 t = none → Q (.ref t) (upd H1 t (.lst [.str "told", v])))
def askT (cs : Fin 6 → Addr) : Addr → Value → Option Addr → TS := fun a cls d => tRet (tCallP a cls d (spFlt cs) (tCons (tVar 1) tNil))
def askL (CE : Addr) (cs : Fin 6 → Addr) : List Hd3 := [(.ref CE, 1, askT cs)]
section
variable {X : Cx} {q : Str} {g fF CE : Addr} {cs : Fin 6 → Addr} {cdg : Value} {fdF : FuncData}
theorem scAsk : FnScope nAsk ["_law_deed"] (defScope L_ask) := ⟨rfl, rfl, rfl, by decide +kernel, rfl, by decide +kernel, by decide +kernel⟩
theorem ask_gives (hr : Room 2 X.A) (F : FnP X.prog X.w X.K X.mg X.base C8.CX0 1 fF fdF ["_law_error"] (spFlt cs)) (bF : Binds X.K fdF ["_law_error"] []) (kF : PySem.W.keepIn X.K (.ref fF) = true) (mF : X.mg "_law_fault" = some (.ref fF))
    (mC : X.mg "CreepError" = some (.ref CE)) (e1 : ∀ i, PySem.W.exmOne X.K (.ref (cs i)) (.ref CE) = some true) :
    LamX.GivesTo X nAsk "_law_ask" (defScope L_ask) g cdg (defBody L_ask) "_law_deed" q (TAsk cs) := by
  intro f c' s H Q tl act hc h
  let XX := (cxOf C8.CX0 X.prog X.w X.K X.mg X.base nAsk "_law_ask" (defScope L_ask) g cdg X.A X.stack s H C8.E0).nox
  refine ⟨_, pss_one (ps_try_manyAs (X := XX) (l := askL CE cs) (tb := fun W D σ H => ∃ Ech : XK, (∀ cls d σ' H', Ech cls d H' → σ'.length = 2 → W cls d σ' H') ∧ σ[0]? = some (some (.ref f)) ∧ H c' = some (LamX.CodeO c' q) ∧
      tl Ech H (fun v H1 => 2 ≤ sizeLine ∧ ∀ t, H1 t = none → D.rt (.ref t) (upd H1 t (.lst [.str "told", v]))))
      rfl rfl scAsk.nd LamX.takes0 (fun W pn xe tk _ => ?_) ?_), ?_⟩
  · refine ⟨fun pins s' σ H' D I h' => ?_⟩
    obtain ⟨Ech, hW, h1, h2, h3⟩ := h'
    have hp := act (fun cls d σ H => σ.length = 2 → W cls d σ H) pn xe Ech
    have hq : ∀ (j : Nat) (p1 p2 p3 p4 p5 : Pos), PSs (XX.tr pn xe) [.Return (some (.List [.Constant (.str "told") j p3, .Call (.Name "_law_deed" p1) [] [] p2] p4)) p5] (tRet (tLst (tCons (tC (.str "told")) (tCons (fun σZ HZ Q => σZ[0]? = some (some (V.ref f)) ∧ HZ c' = some (LamX.CodeO c' q) ∧ tl Ech HZ Q) tNil)))) :=
      fun j p1 p2 p3 p4 p5 => pss_one (ps_ret (pe_lst (pa_cons pe_str (pa_cons (hp p1 p2 (takes_len tk) hW) pa_nil))))
    exact (hq _ _ _ _ _ _).run pins s' σ H' D I ⟨h1, h2, h3⟩
  · have cl : ∀ (a : Addr) (oe : Obj) (cls : Value) (d : Option Addr) (pn : List (Addr × Obj)) (p1 p2 p3 p4 : Pos), Zc cls d oe → (∃ vs, oe.data = .fields vs) → PSs (XX.suite a ((a, oe) :: pn)) [.Return (some (.Call (.Name "_law_fault" p1) [.Name "_law_error" p2] [] p3)) p4] (askT cs a cls d) :=
      fun a oe cls d pn p1 p2 p3 p4 hz hf => pss_one (ps_ret (pe_callP List.mem_cons_self hz hf F (L2H.roomH_mark (hr.deeper _) _) rfl mF kF bF (pa_cons (pv 1) pa_nil)))
    exact .cons rfl rfl ⟨rfl, by decide, .inl mC⟩ (fun a oe cls d pn hz hf => cl a oe cls d pn _ _ _ _ hz hf) .nil
  · refine ⟨fun cls d H' => Flt H' cs cls d Q, fun cls d σ' H' hf hl => ?_, rfl, hc, ?_⟩
    · have g1 : ∀ a : Addr, (σ'.set 1 (some (V.ref a)))[1]? = some (some (V.ref a)) := fun a => List.getElem?_set_self (by omega)
      rcases hf with ⟨rfl, r⟩ | ⟨rfl, r⟩ | ⟨rfl, r⟩ | ⟨rfl, r⟩ | ⟨rfl, r⟩ | ⟨rfl, r⟩
      · exact ⟨true, e1 0, fun _ a na => ⟨_, g1 a, rfl, .inl ⟨rfl, r⟩⟩, fun z => Bool.noConfusion z⟩
      · exact ⟨true, e1 1, fun _ a na => ⟨_, g1 a, rfl, .inr (.inl ⟨rfl, r⟩)⟩, fun z => Bool.noConfusion z⟩
      · exact ⟨true, e1 2, fun _ a na => ⟨_, g1 a, rfl, .inr (.inr (.inl ⟨rfl, r⟩))⟩, fun z => Bool.noConfusion z⟩
      · exact ⟨true, e1 3, fun _ a na => ⟨_, g1 a, rfl, .inr (.inr (.inr (.inl ⟨rfl, r⟩)))⟩, fun z => Bool.noConfusion z⟩
      · exact ⟨true, e1 4, fun _ a na => ⟨_, g1 a, rfl, .inr (.inr (.inr (.inr (.inl ⟨rfl, r⟩))))⟩, fun z => Bool.noConfusion z⟩
      · exact ⟨true, e1 5, fun _ a na => ⟨_, g1 a, rfl, .inr (.inr (.inr (.inr (.inr (⟨rfl, r⟩)))))⟩, fun z => Bool.noConfusion z⟩
    · exact h
end
end Kx
end
section
set_option maxHeartbeats 4000000
namespace Kx
open PySem PySem.Spec PyProof.Rows L2 RZ
theorem passF {P : Program} {w : World} {X : Cx} : Passes (L2.CX P w) X (fun _ _ _ => False) := fun _ _ _ _ _ _ _ h => by
  obtain ⟨_, _, _, _, _, _, _, _, _, _, _, _, z⟩ := h
  exact z.elim
/-- what the law's later defs stand on -/
structure Kit (P : Program) (w : World) (K : PySem.W.Frag) (mg : Str → Option Value) (base : Heap) (C S : Addr) (cs : Fin 6 → Addr) (CE : Addr) : Prop where
  rk : RowK P w K mg base C (cs 1) (cs 2)
  sk : StepK P w K mg base C S (cs 1) (cs 2)
  sR : PySem.W.kitOne K (.ref C) (.ref S) = some false
  numbers : MUse P w K mg base CX0 1 C "numbers" ["self"] (spNu K C) []
  number : MUse P w K mg base (L2.CX P w) 4 C "number" ["self", "place"] (spNm K C (cs 5)) [["place"]]
  scaled : MUse P w K mg base (L2.CX P w) 8 C "scaled" ["self", "t"] (spSc K C (cs 0)) [["t"]]
  cut : MUse P w K mg base (L2.CX P w) 8 C "cut" ["self", "order"] (spCu K C (cs 2) (cs 3)) [["order"]]
  oadd : OpM P w K mg base (L2.CX P w) 8 C "__add__" (spOp K C (cs 4) 4000 (List.zipWith (· + ·)))
  osub : OpM P w K mg base (L2.CX P w) 8 C "__sub__" (spOp K C (cs 4) 4000 (List.zipWith (· - ·)))
  omul : OpM P w K mg base (L2.CX P w) 8 C "__mul__" (spOp K C (cs 4) 140 mulL)
  oneg : OpM P w K mg base (L2.CX P w) 8 C "__neg__" (spNe K C)
  oeq : OpM P w K mg base CX0 1 C "__eq__" (spEqR K C)
  olen : OpM P w K mg base CX0 1 C "__len__" (spLe K C)
  seq : OpM P w K mg base CX0 1 S "__eq__" (spEqS K S)
  const : ∃ (mc : Value) (p g : Addr) (fd : FuncData), ClX.CRead K C mc ∧ CSta K C mc "constant" p g ∧ FnOk P w K mg base (L2.CX P w) 8 g fd ["value", "order"] (spCt K C (cs 0) (cs 2)) ∧ Binds K fd ["value", "order"] [] ∧ KBn K fd ["value", "order"] 0 ["order", "value"] revB revA
  bag : Use P w K mg base CX0 1 "_law_bag" ["_law_script"] (spBag K) []
  draw : Use P w K mg base CX0 1 "_law_draw" ["_law_bag_here", "_law_limit"] spDraw []
  ofL : Use P w K mg base CX0 2 "_law_of" ["_law_bag_here", "_law_things"] spOfL []
  neg : Use P w K mg base CX0 1 "_law_neg" ["_law_a"] (spNegQ K) []
  times : Use P w K mg base CX0 3 "_law_times" ["_law_u", "_law_w"] (spTimes K) []
  plus : Use P w K mg base CX0 3 "_law_plus" ["_law_u", "_law_w"] (spPlus K) []
  scale : Use P w K mg base CX0 3 "_law_scale" ["_law_u", "_law_c"] (spScale K) []
  num : Use P w K mg base CX0 3 "_law_number" ["_law_bag_here"] (spNum K) []
  full : Use P w K mg base CX0 4 "_law_full" ["_law_bag_here"] (spNum K) []
  odd : Use P w K mg base CX0 9 "_law_odd" ["_law_bag_here"] (spOdd K S) []
  spoilt : Use P w K mg base CX0 6 "_law_spoilt" ["_law_bag_here", "_law_a"] (spSpoilt K) []
  lis : Use P w K mg base CX0 2 "_law_is" ["_law_thing"] (spIs K) []
  size : Use P w K mg base CX0 3 "_law_any_size" ["_law_bag_here"] spSize []
  no : Use P w K mg base CX0 3 "_law_not_order" ["_law_bag_here"] (spNo K S) []
  refused : Use P w K mg base CX0 3 "_law_refused" ["_law_some", "_law_less"] (spRf K) []
  row : Use P w K mg base CX0 4 "_law_row" ["_law_bag_here", "_law_size"] (spRow K) []
  lik : Use P w K mg base CX0 6 "_law_like" ["_law_told", "_law_due"] (spLike K S 4) []
  flt : ∃ (fF : Addr) (fdF : FuncData), FnP P w K mg base C8.CX0 1 fF fdF ["_law_error"] (spFlt cs) ∧ Binds K fdF ["_law_error"] [] ∧ PySem.W.keepIn K (.ref fF) = true ∧ mg "_law_fault" = some (.ref fF)
  ask : ∃ (g : Addr) (fd : FuncData), Fun K "_law_ask" "_law_ask" L_ask g fd ∧ Binds K fd ["_law_deed"] [] ∧ mg "_law_ask" = some (.ref g)
  mC : mg "CreepError" = some (.ref CE)
  e1 : ∀ i, PySem.W.exmOne K (.ref (cs i)) (.ref CE) = some true
  mn : mg "len" = none
  mI : mg "isinstance" = none
  ml : mg "list" = none
  mt : mg "tuple" = none
  mi : mg "int" = none
  mb : mg "bool" = none
  mr : mg "range" = none
def spRs (K : PySem.W.Frag) (C : Addr) : Sp := fun vs H Q _ => ∃ (x y : V) (qs : List Rat), vs = [x, y] ∧ RwAt K C H x qs ∧ Ls K H y qs ∧ ∀ H', Same H H' → Q (.bl true) H'
def zrs (qs : List Rat) : List Bool := qs.map fun q => decide (q = 0)
theorem hgt_bad : ∀ (qs : List Rat) (f : Nat), hgtN qs f = badAt (zrs qs) f
  | [], _ => rfl
  | q :: qs, f => by
    show (if q = 0 then hgtN qs (f + 1) else some f) = if decide (q = 0) = true then badAt (zrs qs) (f + 1) else some f
    by_cases c : q = 0
    · rw [if_pos c, if_pos (decide_eq_true c), hgt_bad qs (f + 1)]
    · rw [if_neg c, if_neg (by rw [decide_eq_false c]; decide)]
theorem hgt_opt (qs : List Rat) : hgtV qs 0 = optV (badAt (zrs qs) 0) := by
  unfold hgtV
  rw [← hgt_bad]
  cases hgtN qs 0 with
  | none => rfl
  | some k => exact congrArg V.int (by omega)
theorem ixN0 {n : Nat} (h : 0 < n) : ixN n 0 = some 0 := by
  unfold ixN
  rw [if_pos (by decide), if_pos (by omega)]
  rfl
abbrev nRs : List Str := ["_law_u", "_law_a", "_law_spots", "_law_told", "_law_k"]
section
variable {P : Program} {w : World} {K : PySem.W.Frag} {mg : Str → Option Value} {base : Heap} {f C S CE : Addr} {cs : Fin 6 → Addr} {fd : FuncData}
end
end Kx
end
section
set_option maxHeartbeats 4000000
namespace Kx
open PySem PySem.Spec PyProof.Rows L2 RZ
/-- all stands but what lists hold, and the tables -/
def Wk (H H' : Hp) : Prop := ∀ b o, H b = some o → H' b = some o ∨ (∃ xs ys, o = .lst xs ∧ H' b = some (.lst ys)) ∨ ∃ ps, o = .tbl ps
theorem Wk.of {H H' : Hp} (s : Same H H') : Wk H H' := fun b o h => .inl (s b o h)
theorem Wk.trans {H H1 H2 : Hp} (a : Wk H H1) (c : Wk H1 H2) : Wk H H2 := fun b o h => by
  rcases a b o h with h1 | ⟨xs, ys, rfl, h1⟩ | h1
  · exact c b o h1
  · rcases c b _ h1 with h2 | ⟨zs, us, e, h2⟩ | ⟨ps, e⟩
    · exact .inr (.inl ⟨xs, ys, rfl, h2⟩)
    · exact .inr (.inl ⟨xs, us, rfl, h2⟩)
    · cases e
  · exact .inr (.inr h1)
theorem Wk.but {H H' : Hp} {B p : Addr} (b : Bag H B p) (b' : Bag H' B p) (u : But B H H') : Wk H H' := fun c o h => by
  by_cases e : c = B
  · subst e
    obtain ⟨_, _, _, _, _, h1, _⟩ := b.ex
    obtain ⟨_, _, _, _, _, h2, _⟩ := b'.ex
    rw [h1] at h
    exact .inr (.inl ⟨_, _, (Option.some.inj h).symm, h2⟩)
  · exact .inl (u c o e h)
theorem Wk.set {H : Hp} {a : Addr} {xs ys : List V} (h : H a = some (.lst xs)) : Wk H (upd H a (.lst ys)) := fun c o hc => by
  by_cases e : c = a
  · subst e
    rw [h] at hc
    exact .inr (.inl ⟨_, _, (Option.some.inj hc).symm, upd_same⟩)
  · exact .inl (by rw [upd_ne e]; exact hc)
theorem Wk.ext {H H' : Hp} (s : LamX.ExtN H H') : Wk H H' := fun c o h => by
  by_cases e : ∃ ps, o = .tbl ps
  · exact .inr (.inr e)
  · exact .inl (s c o h fun ps z => e ⟨ps, z⟩)
section
variable {K : PySem.W.Frag} {S : Addr} {H H' : Hp}
theorem Wk.tup {a : Addr} {xs : List V} (h : H a = some (.tup xs)) (s : Wk H H') : H' a = some (.tup xs) := by
  rcases s _ _ h with h1 | ⟨_, _, e, _⟩ | ⟨_, e⟩
  · exact h1
  · cases e
  · cases e
theorem Wk.ins {a C dx : Addr} {fs : List (Str × V)} (h : H a = some (.ins C dx fs)) (s : Wk H H') : H' a = some (.ins C dx fs) := by
  rcases s _ _ h with h1 | ⟨_, _, e, _⟩ | ⟨_, e⟩
  · exact h1
  · cases e
  · cases e
theorem Wk.lst {a : Addr} {xs : List V} (h : H a = some (.lst xs)) (s : Wk H H') : ∃ ys, H' a = some (.lst ys) := by
  rcases s _ _ h with h1 | ⟨_, _, e, h1⟩ | ⟨_, e⟩
  · exact ⟨_, h1⟩
  · exact ⟨_, h1⟩
  · cases e
theorem Nq.wk {v : V} {q : Rat} (h : Nq K H v q) (s : Wk H H') : Nq K H' v q := by
  obtain ⟨a, e, h⟩ := h
  exact ⟨a, e, h.imp (fun h => s.tup h) id⟩
theorem Nl.wk {xs : List V} {qs : List Rat} (h : Nl K H xs qs) (s : Wk H H') : Nl K H' xs qs := ⟨h.1, fun i x q h1 h2 => (h.2 i x q h1 h2).wk s⟩
theorem NI.wk {x : V} (h : NI H x) (s : Wk H H') : NI H' x := h.imp id (Or.imp id (Or.imp id fun ⟨a, ys, e, h1⟩ => ⟨a, ys, e, s.tup h1⟩))
/-- no fraction: what is seen of it whatever lists hold -/
inductive Fx (K : PySem.W.Frag) (S : Addr) (H : Hp) : V → Prop where
  | flat {v : V} (h : flatV v = true) : Fx K S H v
  | lst {a : Addr} {xs : List V} (h : H a = some (.lst xs)) : Fx K S H (.ref a)
  | len {a : Addr} {xs : List V} (h : H a = some (.tup xs)) (n : xs.length ≠ 2) : Fx K S H (.ref a)
  | one {a : Addr} {x y : V} (h : H a = some (.tup [x, y])) (n : NI H x) (m : NI H y ∨ ∃ i, y = .int i) : Fx K S H (.ref a)
  | two {a : Addr} {x y : V} (h : H a = some (.tup [x, y])) (n : ∃ i, x = .int i) (m : NI H y) : Fx K S H (.ref a)
  | bad {a : Addr} {u l : Int} (h : H a = some (.tup [.int u, .int l])) (n : (decide (1 ≤ l) && decide (Nat.gcd u.natAbs l.natAbs = 1)) = false) (m : l.natAbs < 100) : Fx K S H (.ref a)
  | st {x dx : Addr} {fs : List (Str × V)} (h : H x = some (.ins S dx fs)) : Fx K S H (.ref x)
theorem Fx.wk {v : V} (h : Fx K S H v) (s : Wk H H') : Fx K S H' v := by
  cases h with
  | flat h => exact .flat h
  | lst h => exact .lst (s.lst h).choose_spec
  | len h n => exact .len (s.tup h) n
  | one h n m => exact .one (s.tup h) (n.wk s) (m.imp (fun m => m.wk s) id)
  | two h n m => exact .two (s.tup h) n (m.wk s)
  | bad h n m => exact .bad (s.tup h) n m
  | st h => exact .st (s.ins h)
theorem NF.fx {v : V} (h : NF K S H v) : Fx K S H v := by
  cases h with
  | flat h => exact .flat h
  | lst h _ => exact .lst h
  | len h n => exact .len h n
  | one h n m => exact .one h n m
  | two h n m => exact .two h n m
  | bad h n m => exact .bad h n m
  | st h =>
    obtain ⟨x, dx, b, xs, x0, fv, sv, rfl, h1, _⟩ := h
    exact .st h1
theorem Nq.isB {v : V} {q : Rat} (h : Nq K H v q) (b : Bq 8000 q) : IsB K H v true := by
  obtain ⟨a, rfl, s, t⟩ := h.sq
  refine .inr (.inr ⟨a, _, _, true, true, rfl, s, t, wh_int _, wh_int _, .inr ⟨_, _, rfl, rfl, rfl, rfl, ?_, Nat.lt_trans (log_bd (n := 8000) b.2 (by decide)) (by decide)⟩⟩)
  have h1 : (1 : Int) ≤ ((q.den : Nat) : Int) := by have := q.den_nz; omega
  rw [decide_eq_true h1, Bool.true_and]
  symm
  exact decide_eq_true q.reduced
end
section
variable {P : Program} {w : World} {K : PySem.W.Frag} {mg : Str → Option Value} {base : Heap} {C S CF CO : Addr} {H H' : Hp}
theorem Fx.isB {v : V} (h : Fx K S H v) (k : StepK P w K mg base C S CF CO) : IsB K H v false := by
  cases h with
  | flat h =>
    obtain ⟨T, t, k1, _⟩ := flat_ty (K := K) (H := H) h
    exact .inl ⟨T, t, k1, rfl⟩
  | lst h => exact .inl ⟨_, .base (.lst h), kit_ty kb_l.2.1, rfl⟩
  | len h n => exact .inr (.inl ⟨_, _, rfl, SqT.of h, .base (.tup h), n, rfl⟩)
  | one h n m =>
    rcases m with m | ⟨i, rfl⟩
    · exact .inr (.inr ⟨_, _, _, false, false, rfl, SqT.of h, .base (.tup h), n.wh, m.wh, .inl ⟨rfl, rfl⟩⟩)
    · exact .inr (.inr ⟨_, _, _, false, true, rfl, SqT.of h, .base (.tup h), n.wh, wh_int i, .inl ⟨rfl, rfl⟩⟩)
  | two h n m =>
    obtain ⟨i, rfl⟩ := n
    exact .inr (.inr ⟨_, _, _, true, false, rfl, SqT.of h, .base (.tup h), wh_int i, m.wh, .inl ⟨rfl, rfl⟩⟩)
  | bad h n m => exact .inr (.inr ⟨_, _, _, true, true, rfl, SqT.of h, .base (.tup h), wh_int _, wh_int _, .inr ⟨_, _, rfl, rfl, rfl, rfl, n.symm, Nat.lt_trans (log_bd (n := 7) (by omega) (by decide)) (by decide)⟩⟩)
  | st h => exact .inl ⟨_, k.ty _ _ _ _ h, k.kB _ (by simp), rfl⟩
/-- an item of a drawn list: a fraction or not -/
def Im (K : PySem.W.Frag) (S : Addr) (H : Hp) (v : V) (r : Bool) : Prop := (r = true ∧ ∃ q, Nq K H v q ∧ Bq 21 q) ∨ (r = false ∧ Fx K S H v)
theorem Im.wk {v : V} {r : Bool} (h : Im K S H v r) (s : Wk H H') : Im K S H' v r := h.imp (fun ⟨e, q, n, b⟩ => ⟨e, q, n.wk s, b⟩) fun ⟨e, n⟩ => ⟨e, n.wk s⟩
theorem Im.isB {v : V} {r : Bool} (h : Im K S H v r) (k : StepK P w K mg base C S CF CO) : IsB K H v r := by
  rcases h with ⟨rfl, q, n, b⟩ | ⟨rfl, n⟩
  · exact n.isB (b.mono (by decide))
  · exact n.isB k
theorem Im.lw {v : V} {r : Bool} (h : Im K S H v r) (k : StepK P w K mg base C S CF CO) : LwI K H v r := fun H' s => (h.wk (.of s)).isB k
theorem Im.gs {v : V} {r : Bool} (h : Im K S H v r) (k : StepK P w K mg base C S CF CO) : IsGs K H v r := fun H' s => ((h.wk (.of s)).isB k).isG
/-- the items of a list -/
def Ims (K : PySem.W.Frag) (S : Addr) (H : Hp) (xs : List V) (rs : List Bool) : Prop := xs.length = rs.length ∧ ∀ (i : Nat) (x : V) (r : Bool), xs[i]? = some x → rs[i]? = some r → Im K S H x r
theorem Ims.wk {xs : List V} {rs : List Bool} (h : Ims K S H xs rs) (s : Wk H H') : Ims K S H' xs rs := ⟨h.1, fun i x r h1 h2 => (h.2 i x r h1 h2).wk s⟩
theorem Ims.its {xs : List V} {rs : List Bool} (h : Ims K S H xs rs) (k : StepK P w K mg base C S CF CO) : Its K H xs rs := ⟨h.1, fun i x r h1 h2 => (h.2 i x r h1 h2).gs k⟩
theorem Ims.set {xs : List V} {rs : List Bool} {v : V} {r : Bool} {j : Nat} (h : Ims K S H xs rs) (hv : Im K S H v r) : Ims K S H (xs.set j v) (rs.set j r) := by
  refine ⟨by rw [List.length_set, List.length_set]; exact h.1, fun i x b h1 h2 => ?_⟩
  by_cases e : j = i
  · subst e
    by_cases l : j < xs.length
    · rw [List.getElem?_set_self l] at h1
      rw [List.getElem?_set_self (by have := h.1; omega)] at h2
      rw [← Option.some.inj h1, ← Option.some.inj h2]
      exact hv
    · rw [List.getElem?_eq_none (by rw [List.length_set]; omega)] at h1
      cases h1
  · rw [List.getElem?_set_ne e] at h1 h2
    exact h.2 i x b h1 h2
theorem Nl.ims {xs : List V} {qs : List Rat} (h : Nl K H xs qs) (b : AllB 21 qs) : Ims K S H xs (List.replicate qs.length true) := by
  refine ⟨by rw [h.1, List.length_replicate], fun i x r h1 h2 => ?_⟩
  obtain ⟨q, hq, n⟩ := h.get h1
  rw [List.getElem?_replicate] at h2
  split at h2
  · rw [← Option.some.inj h2]
    exact .inl ⟨rfl, q, n, b q (List.mem_of_getElem? hq)⟩
  · cases h2
theorem Ims.nl : ∀ {xs : List V} {rs : List Bool} {i : Nat}, Ims K S H xs rs → badAt rs i = none → ∃ qs, Nl K H xs qs
  | [], _, _, _, _ => ⟨[], Nl.nil⟩
  | x :: xs, [], _, h, _ => by cases h.1
  | x :: xs, false :: rs, i, _, hb => by cases hb
  | x :: xs, true :: rs, i, h, hb => by
    obtain ⟨qs, n⟩ := Ims.nl (xs := xs) (rs := rs) (i := i + 1) ⟨Nat.succ.inj h.1, fun j y r h1 h2 => h.2 (j + 1) y r h1 h2⟩ hb
    rcases h.2 0 x true rfl rfl with ⟨_, q, nq, _⟩ | ⟨e, _⟩
    · exact ⟨q :: qs, Nl.cons nq n⟩
    · cases e
/-- what list gives -/
def LiD (K : PySem.W.Frag) (S : Addr) (H0 H : Hp) (v : V) : Prop := (flatV v = true ∨ ∃ x dx fs, v = .ref x ∧ H x = some (.ins S dx fs)) ∨
  ∃ (a : Addr) (xs : List V), v = .ref a ∧ SqH H a xs ∧ xs.length ≤ 60 ∧ ((xs.length < 3 ∨ 25 < xs.length) ∨ (3 ≤ xs.length ∧ xs.length ≤ 25 ∧ H0 a = none ∧ ∃ rs, Ims K S H xs rs))
def spLi (K : PySem.W.Frag) (S : Addr) : Sp := fun vs H Q _ => ∃ B p : Addr, vs = [.ref B] ∧ Bag H B p ∧ ∀ H' v, Bag H' B p → But B H H' → LiD K S H H' v → Q v H'
end
end Kx
end
section
set_option maxHeartbeats 4000000
namespace Kx
open PySem PySem.Spec PyProof.Rows L2 RZ
theorem Bag.upd {H : Hp} {B p a : Addr} {o : HO} (b : Bag H B p) (h1 : a ≠ B) (h2 : a ≠ p) : Bag (upd H a o) B p := by
  obtain ⟨ns, i, r, sd, c, e1, e2, e3⟩ := b.ex
  exact ⟨ns, i, r, sd, c, by rw [upd_ne (Ne.symm h1)]; exact e1, by rw [upd_ne (Ne.symm h2)]; exact e2, e3⟩
/-- a short value -/
def Sm (K : PySem.W.Frag) (S : Addr) (H : Hp) (v : V) : Prop := flatV v = true ∨ (∃ qs, StAt K S H v qs) ∨ (∃ a xs, v = .ref a ∧ H a = some (.lst xs) ∧ xs.length ≤ 2) ∨ ∃ a xs, v = .ref a ∧ H a = some (.tup xs) ∧ xs.length ≤ 2
theorem Sm.go {K : PySem.W.Frag} {S B p : Addr} {H H' : Hp} {v : V} (h : Sm K S H v) (b : Bag H B p) (s : Go B H H') : Sm K S H' v := by
  rcases h with h | ⟨qs, h⟩ | ⟨a, xs, e, h, l⟩ | ⟨a, xs, e, h, l⟩
  · exact .inl h
  · exact .inr (.inl ⟨qs, h.go b s⟩)
  · exact .inr (.inr (.inl ⟨a, xs, e, lst_go h (by omega) b s, l⟩))
  · exact .inr (.inr (.inr ⟨a, xs, e, tup_go h b s, l⟩))
theorem Sm.same {K : PySem.W.Frag} {S : Addr} {H H' : Hp} {v : V} (h : Sm K S H v) (s : Same H H') : Sm K S H' v := by
  rcases h with h | ⟨qs, h⟩ | ⟨a, xs, e, h, l⟩ | ⟨a, xs, e, h, l⟩
  · exact .inl h
  · exact .inr (.inl ⟨qs, h.same s⟩)
  · exact .inr (.inr (.inl ⟨a, xs, e, s _ _ h, l⟩))
  · exact .inr (.inr (.inr ⟨a, xs, e, s _ _ h, l⟩))
theorem Sm.li {K : PySem.W.Frag} {S : Addr} {H0 H : Hp} {v : V} (h : Sm K S H v) : LiD K S H0 H v := by
  rcases h with h | ⟨qs, x, dx, b, xs, x0, fv, sv, e, h, _⟩ | ⟨a, xs, e, h, l⟩ | ⟨a, xs, e, h, l⟩
  · exact .inl (.inl h)
  · exact .inl (.inr ⟨x, dx, _, e, h⟩)
  · exact .inr ⟨a, xs, e, .inl h, by omega, .inl (.inl (by omega))⟩
  · exact .inr ⟨a, xs, e, .inr h, by omega, .inl (.inl (by omega))⟩
abbrev nLi : List Str := ["_law_bag_here", "_law_pick", "_law_size", "_law_some", "_law_k"]
section
variable {P : Program} {w : World} {K : PySem.W.Frag} {mg : Str → Option Value} {base : Heap} {f C S CF CO pS gS : Addr} {mc : Value} {fd fdS : FuncData}
end
end Kx
end
section
set_option maxHeartbeats 4000000
namespace Kx
open PySem PySem.Spec PyProof.Rows L2 RZ
section
variable {P : Program} {w : World} {K : PySem.W.Frag} {mg : Str → Option Value} {base : Heap} {f C CF CO CN o0 : Addr} {fd : FuncData}
end
end Kx
end
section
set_option maxHeartbeats 4000000
namespace Kx
open PySem PySem.Spec PyProof.Rows L2 RZ
/-! ### the methods of steps -/
section
variable (K : PySem.W.Frag) (C S : Addr)
/-- a new step comes back -/
def GivesS (H : Hp) (Q : VK) (rs : List Rat) : Prop := ∀ H' y, Same H H' → StAt K S H' y rs → Q y H'
def spNuS : Sp := fun vs H Q _ => ∃ (x : V) (qs : List Rat), vs = [x] ∧ StAt K S H x qs ∧ GivesL K H Q qs
def spNmS (CP : Addr) : Sp := fun vs H Q E => ∃ (x v : V) (qs : List Rat) (r : Bool), vs = [x, v] ∧ StAt K S H x qs ∧ InR K H v 1 (qs.length : Int) r ∧ (r = false → Air H CP (fs1 "InvalidPlace" "value" [v]) E) ∧
  (r = true → ∀ (j : Nat) (y : V) (q : Rat), v = .int ((j : Nat) + 1) → qs[j]? = some q → Nq K H y q → Q y H)
def spCuS (CO CL : Addr) : Sp := fun vs H Q E => ∃ (x v : V) (qs : List Rat) (r : Bool), vs = [x, v] ∧ StAt K S H x qs ∧ InR K H v 2 24 r ∧ (r = false → Air H CO (fs1 "InvalidOrder" "value" [v]) E) ∧
  (r = true → ∀ i : Int, v = .int i → ((qs.length : Int) < i → Air H CL (fs2 "OrderTooLow" "have" "wanted" [.int (qs.length : Int), .int i]) E) ∧ (i ≤ (qs.length : Int) → GivesS K S H Q (qs.take i.toNat)))
def spArS : Sp := fun vs H Q _ => ∃ (x : V) (qs : List Rat), vs = [x] ∧ StAt K S H x qs ∧ GivesR K C H Q (0 :: qs)
def spLeS : Sp := fun vs H Q _ => ∃ (x : V) (qs : List Rat), vs = [x] ∧ StAt K S H x qs ∧ Q (.int (qs.length : Nat)) H
end
section
variable {P : Program} {w : World} {K : PySem.W.Frag} {mg : Str → Option Value} {base : Heap} {f C S CF CO CN CP CL CU o0 : Addr} {fd : FuncData}
theorem StAt.num {H : Hp} {v : V} {qs : List Rat} (h : StAt K S H v qs) : ∃ (x dx b : Addr) (xs : List V) (fs : List (Str × V)), v = .ref x ∧ H x = some (.ins S dx fs) ∧ H b = some (.lst xs) ∧ Nl K H xs qs ∧ fs.lookup ("_numbers" : Str) = some (.ref b) ∧ fs.lookup ("order" : Str) = some (.int (qs.length : Int)) ∧ 2 ≤ qs.length ∧ qs.length ≤ 24 := by
  obtain ⟨x, dx, b, xs, x0, fv, sv, e, h1, h2, h3, _, h5, h6⟩ := h
  exact ⟨x, dx, b, xs, _, e, h1, h2, h3, rfl, rfl, h5, h6⟩
theorem scSNu : FnScope ["self"] ["self"] (defScope C_Step_numbers) := ⟨rfl, rfl, rfl, by decide +kernel, rfl, by decide +kernel, by decide +kernel⟩
theorem ok_snumbers (G : Fun K "numbers" "Step.numbers" C_Step_numbers f fd) (k : StepK P w K mg base C S CF CO) (ml : mg "list" = none) : FnOk P w K mg base CX0 1 f fd ["self"] (spNuS K S) := by
  refine G.ok scSNu (fun vs H Q E h => ?_) (fun cdv A outer s H vs Q E hr h => ?_)
  · obtain ⟨x, qs, rfl, _⟩ := h
    rfl
  obtain ⟨v, qs, rfl, hR, q⟩ := h
  obtain ⟨x, dx, b, xs, fs, rfl, hx, hb, nx, f1, f2, _⟩ := hR.num
  refine ⟨_, pss_one (ps_ret (pe_callTy call_list_of rfl ml (by decide +kernel) (pa_cons (pe_fld (pv 0) rfl) pa_nil))), ?_⟩
  exact ⟨_, rfl, x, S, dx, _, _, rfl, hx, k.c, k.nA _ (by simp [stN]), f1, b, xs, rfl, .inl (SqL.of hb), fun l nl => q l _ xs (new_same nl _) nl upd_same (nx.same (new_same nl _))⟩
theorem scSLe : FnScope ["self"] ["self"] (defScope C_Step_len) := ⟨rfl, rfl, rfl, by decide +kernel, rfl, by decide +kernel, by decide +kernel⟩
theorem ok_slen (G : Fun K "__len__" "Step.__len__" C_Step_len f fd) (k : StepK P w K mg base C S CF CO) (mn : mg "len" = none) : FnOk P w K mg base CX0 1 f fd ["self"] (spLeS K S) := by
  refine G.ok scSLe (fun vs H Q E h => ?_) (fun cdv A outer s H vs Q E hr h => ?_)
  · obtain ⟨x, qs, rfl, _⟩ := h
    rfl
  obtain ⟨v, qs, rfl, hR, q⟩ := h
  obtain ⟨x, dx, b, xs, fs, rfl, hx, hb, nx, f1, f2, _⟩ := hR.num
  refine ⟨_, pss_one (ps_ret (pe_callB call_len_seq rfl mn PySem.boot_len (pa_cons (pe_fld (pv 0) rfl) pa_nil))), ?_⟩
  refine ⟨_, rfl, x, S, dx, _, _, rfl, hx, k.c, k.nA _ (by simp [stN]), f1, b, xs, rfl, .inl (SqL.of hb), ?_⟩
  rw [nx.1]
  exact q
theorem scSNm : FnScope ["self", "place"] ["self", "place"] (defScope C_Step_number) := ⟨rfl, rfl, rfl, by decide +kernel, rfl, by decide +kernel, by decide +kernel⟩
theorem ok_snumber (G : Fun K "number" "Step.number" C_Step_number f fd) (k : StepK P w K mg base C S CF CO) (UP : Use P w K mg base (L2.CX P w) 3 "check_place" ["place", "first", "last"] (spCp K CP) []) : FnOk P w K mg base (L2.CX P w) 4 f fd ["self", "place"] (spNmS K S CP) := by
  refine G.okX scSNm (fun vs H Q E h => ?_) (fun cdv A outer s H vs Q E hr h => ?_)
  · obtain ⟨x, v, qs, r, rfl, _⟩ := h
    rfl
  obtain ⟨y, v, qs, r, rfl, hR, hin, h1, h2⟩ := h
  obtain ⟨x, dx, b, xs, fs, rfl, hx, hb, nx, f1, f2, _⟩ := hR.num
  refine ⟨_, pss_cons (ps_expr (pe_use (E := E) UP hr rfl (passes_call (takes_of rfl rfl rfl rfl) (fun _ _ _ _ h => h)) (pa_cons (pv 1) (pa_cons pe_int (pa_cons (pe_fld (pv 0) rfl) pa_nil)))))
    (pss_one (ps_ret (pe_ix ix_list (pe_fld (pv 0) rfl) (pe_op op_sub (pv 1) pe_int) (fun _ _ => rfl)))), ?_⟩
  refine ⟨_, rfl, _, rfl, x, S, dx, _, _, rfl, hx, k.c, k.nA _ (by simp [stN]), f2, v, 1, (qs.length : Int), r, rfl, hin, fun hr' => ?_, h1⟩
  obtain ⟨b0, hw, hh⟩ := hin
  rcases hh with ⟨_, e⟩ | ⟨i, _, rfl, e⟩
  · rw [hr'] at e; cases e
  rw [hr'] at e
  have e2 := e.symm
  rw [Bool.and_eq_true, decide_eq_true_eq, decide_eq_true_eq] at e2
  obtain ⟨i0, i1⟩ := e2
  have hj : (i - 1).toNat < qs.length := by omega
  obtain ⟨y, ey, ny⟩ := nx.get' hj
  have ei : i = (((i - 1).toNat : Nat) : Int) + 1 := by omega
  exact ⟨_, rfl, x, S, dx, _, _, rfl, hx, k.c, k.nA _ (by simp [stN]), f1, _, rfl, i, 1, rfl, rfl, b, xs, i - 1, y, rfl, rfl, SqL.of hb, at_of (j := (i - 1).toNat) (by omega) ey, h2 hr' (i - 1).toNat y _ (congrArg V.int ei) (List.getElem?_eq_getElem hj) ny⟩
theorem scSCu : FnScope ["self", "order"] ["self", "order"] (defScope C_Step_cut) := ⟨rfl, rfl, rfl, by decide +kernel, rfl, by decide +kernel, by decide +kernel⟩
theorem ok_scut (G : Fun K "cut" "Step.cut" C_Step_cut f fd) (k : StepK P w K mg base C S CF CO) (UC : Use P w K mg base (L2.CX P w) 4 "check_cut" ["have", "wanted"] (spCc K CO CL) []) : FnOk P w K mg base (L2.CX P w) 8 f fd ["self", "order"] (spCuS K S CO CL) := by
  refine G.okX scSCu (fun vs H Q E h => ?_) (fun cdv A outer s H vs Q E hr h => ?_)
  · obtain ⟨x, v, qs, r, rfl, _⟩ := h
    rfl
  obtain ⟨y, v, qs, r, rfl, hR, hin, h1, h2⟩ := h
  obtain ⟨x, dx, b, xs, fs, rfl, hx, hb, nx, f1, f2, l3, l25⟩ := hR.num
  obtain ⟨fI, fdI, M, FI, bI⟩ := k.ini
  refine ⟨_, pss_cons (ps_expr (pe_use (E := E) UC (hr.mono (by decide)) rfl (passes_call (takes_of rfl rfl rfl rfl) (fun _ _ _ _ h => h)) (pa_cons (pe_fld (pv 0) rfl) (pa_cons (pv 1) pa_nil))))
    (pss_one (ps_ret (pe_make (E := E) M FI hr rfl k.m bI .nil (passes_call (takes_of rfl rfl rfl rfl) (fun _ _ _ _ h => h)) (pa_cons (pe_slice sl_list (pe_fld (pv 0) rfl) po_none (po_some (pv 1))) pa_nil)))), ?_⟩
  refine ⟨_, rfl, x, S, dx, _, _, rfl, hx, k.c, k.nA _ (by simp [stN]), f2, _, rfl, (qs.length : Int), v, r, rfl, hin, h1, fun hr' i ev => ⟨fun le => ?_, fun lt => (h2 hr' i ev).1 lt⟩⟩
  subst ev
  obtain ⟨b0, hw, hh⟩ := hin
  have i2 : 2 ≤ i := by
    rcases hh with ⟨_, e⟩ | ⟨j, _, ej, e⟩
    · rw [hr'] at e; cases e
    obtain rfl := V.int.inj ej
    rw [hr'] at e
    have e2 := e.symm
    rw [Bool.and_eq_true, decide_eq_true_eq, decide_eq_true_eq] at e2
    exact e2.1
  have g := (h2 hr' i rfl).2 le
  refine ⟨_, rfl, x, S, dx, _, _, rfl, hx, k.c, k.nA _ (by simp [stN]), f1, _, rfl, i, rfl, b, xs, rfl, SqL.of hb, fun p np => ?_⟩
  have ec : cutV xs none (some i) = xs.take i.toNat := by
    have := cut_take xs i.toNat
    rw [← this]
    congr 2
    omega
  rw [ec]
  have s1 := new_same np (.lst (xs.take i.toNat))
  exact step_new s1 (.inl upd_same) ((nx.take _).same s1) (by rw [List.length_take]; omega) (by rw [List.length_take]; omega) g
end
end Kx
end
section
set_option maxHeartbeats 4000000
namespace Kx
open PySem PySem.Spec PyProof.Rows L2 RZ
/-! ### drawn steps -/
/-- a lead that is 0 or has an inverse of a small weight -/
def Ld (q : Rat) : Prop := q = 0 ∨ ∃ (d : Rat) (z : Int), q * d = 1 ∧ d * 6 = (z : Rat) ∧ z.natAbs ≤ 2 ^ 30
theorem Ld.zero : Ld 0 := .inl rfl
theorem Ld.of {q : Rat} (d : Rat) (z : Int) (h : q * d = 1 ∧ d * 6 = (z : Rat) ∧ z.natAbs ≤ 2 ^ 30) : Ld q := .inr ⟨d, z, h⟩
theorem Ld.one : Ld 1 := .of 1 6 (by decide +kernel)
theorem Ld.mone : Ld (-1) := .of (-1) (-6) (by decide +kernel)
/-- a drawn step -/
def Dr (rs : List Rat) : Prop := AllZ 1 rs ∧ Ld (rs.getD 0 0)
def spLd (K : PySem.W.Frag) : Sp := fun vs H Q _ => ∃ B p : Addr, vs = [.ref B] ∧ Bag H B p ∧ ∀ H' v q, Bag H' B p → But B H H' → Nq K H' v q → Zq 1 q → Ld q → Q v H'
def spLst (K : PySem.W.Frag) : Sp := fun vs H Q _ => ∃ n : Nat, vs = [.int (n : Nat)] ∧ 2 ≤ n ∧ n ≤ 24 ∧ GivesL K H Q (1 :: List.replicate (n - 1) 0)
def spSpr (K : PySem.W.Frag) : Sp := fun vs H Q _ => ∃ (B p : Addr) (n : Nat) (v : V) (q : Rat), vs = [.ref B, .int (n : Nat), v] ∧ Bag H B p ∧ 2 ≤ n ∧ n ≤ 24 ∧ Nq K H v q ∧ Zq 1 q ∧ Ld q ∧
  ∀ H' u rs, Bag H' B p → But B H H' → Ls K H' u rs → rs.length = n → Dr rs → rs.getD 0 0 = q → Q u H'
def spStp (K : PySem.W.Frag) : Sp := fun vs H Q _ => ∃ (B p : Addr) (n : Nat), vs = [.ref B, .int (n : Nat)] ∧ Bag H B p ∧ 2 ≤ n ∧ n ≤ 24 ∧
  ∀ H' u rs, Bag H' B p → But B H H' → Ls K H' u rs → rs.length = n → Dr rs → Q u H'
theorem rep_nl {K : PySem.W.Frag} {H : Hp} {t : Addr} {q : Rat} (h : Nq K H (.ref t) q) (n : Nat) : Nl K H (List.replicate n (.ref t)) (List.replicate n q) := by
  refine ⟨by rw [List.length_replicate, List.length_replicate], fun i x r h1 h2 => ?_⟩
  rw [List.getElem?_replicate] at h1 h2
  split at h1
  · rw [if_pos (by assumption)] at h2
    rw [← Option.some.inj h1, ← Option.some.inj h2]
    exact h
  · cases h1
abbrev nSp : List Str := ["_law_bag_here", "_law_size_here", "_law_first", "_law_gap", "_law_some", "_law_k"]
section
variable {P : Program} {w : World} {K : PySem.W.Frag} {mg : Str → Option Value} {base : Heap} {f : Addr} {fd : FuncData}
theorem scLst : FnScope ["_law_size_here"] ["_law_size_here"] (defScope L_still) := ⟨rfl, rfl, rfl, by decide +kernel, rfl, by decide +kernel, by decide +kernel⟩
theorem ok_lstill (F : Fun K "_law_still" "_law_still" L_still f fd) : FnOk P w K mg base CX0 1 f fd ["_law_size_here"] (spLst K) := by
  refine F.ok scLst (fun vs H Q E h => ?_) (fun cdv A outer s H vs Q E hr h => ?_)
  · obtain ⟨n, rfl, _⟩ := h
    rfl
  obtain ⟨n, rfl, n2, n24, q⟩ := h
  refine ⟨_, pss_one (ps_ret (pe_op op_cat (pe_lst (pa_cons (pe_tup (pa_cons pe_int (pa_cons pe_int pa_nil))) pa_nil)) (pe_op op_rep (pe_lst (pa_cons (pe_tup (pa_cons pe_int (pa_cons pe_int pa_nil))) pa_nil)) (pe_op op_sub (pv 0) pe_int)))), ?_⟩
  refine ⟨(by show 2 ≤ sizeLine; decide), fun t1 m1 => ⟨(by show 1 ≤ sizeLine; decide), fun a na => ⟨(by show 2 ≤ sizeLine; decide), fun t2 m2 => ⟨(by show 1 ≤ sizeLine; decide), fun b nb => ⟨_, rfl, (n : Int), 1, rfl, rfl, b, (n : Int) - 1, [.ref t2], rfl, rfl, upd_same, by omega, by omega, (by show 1 * _ ≤ sizeLine; exact Nat.le_of_lt (small1000 (by omega))), fun c nc => ?_⟩⟩⟩⟩⟩
  have rep : (List.replicate ((n : Int) - 1).toNat [V.ref t2]).flatten = List.replicate (n - 1) (.ref t2) := by
    rw [List.flatten_replicate_singleton]
    congr 1
    omega
  rw [rep]
  have s1 := new_same m1 (HO.tup [.int 1, .int 1])
  have s2 := new_same na (HO.lst [V.ref t1])
  have s3 := new_same m2 (HO.tup [.int 0, .int 1])
  have s4 := new_same nb (HO.lst [V.ref t2])
  have s5 := new_same nc (HO.lst (List.replicate (n - 1) (V.ref t2)))
  refine ⟨a, c, _, _, rfl, rfl, s5 _ _ (s4 _ _ (s3 _ _ upd_same)), upd_same, Nat.le_of_lt (small1000 (by rw [List.length_replicate]; show 1 + _ ≤ _; omega)), fun d nd => ?_⟩
  have s6 := new_same nd (HO.lst ([V.ref t1] ++ List.replicate (n - 1) (V.ref t2)))
  have z1 : Nq K _ (.ref t1) 1 := .at (K := K) ((s2.trans (s3.trans (s4.trans (s5.trans s6)))) _ _ (show upd H t1 (HO.tup [.int 1, .int 1]) t1 = some (rT 1) from upd_same))
  have z0 : Nq K _ (.ref t2) 0 := .at (K := K) ((s4.trans (s5.trans s6)) _ _ (show _ = some (rT 0) from upd_same))
  have sA := s1.trans (s2.trans (s3.trans (s4.trans (s5.trans s6))))
  exact q d _ _ sA (((s1.trans (s2.trans (s3.trans (s4.trans s5)))).free nd)) upd_same (Nl.cons z1 (rep_nl z0 _))
theorem scLead : FnScope ["_law_bag_here"] ["_law_bag_here"] (defScope L_lead) := ⟨rfl, rfl, rfl, by decide +kernel, rfl, by decide +kernel, by decide +kernel⟩
theorem ok_lead (F : Fun K "_law_lead" "_law_lead" L_lead f fd) (UO : Use P w K mg base CX0 2 "_law_of" ["_law_bag_here", "_law_things"] spOfL []) : FnOk P w K mg base CX0 3 f fd ["_law_bag_here"] (spLd K) := by
  refine F.ok scLead (fun vs H Q E h => ?_) (fun cdv A outer s H vs Q E hr h => ?_)
  · obtain ⟨B, p, rfl, _⟩ := h
    rfl
  obtain ⟨B, p, rfl, hb, q⟩ := h
  refine ⟨_, pss_one (ps_ret (pe_use UO hr rfl pass0 (pa_cons (pv 0) (pa_cons (pe_lst (pa_cons (pe_tup (pa_cons pe_int (pa_cons pe_int pa_nil))) (pa_cons (pe_tup (pa_cons pe_int (pa_cons pe_int pa_nil))) (pa_cons (pe_tup (pa_cons (pe_un un_neg pe_int) (pa_cons pe_int pa_nil))) (pa_cons (pe_tup (pa_cons pe_int (pa_cons pe_int pa_nil)))
    (pa_cons (pe_tup (pa_cons (pe_un un_neg pe_int) (pa_cons pe_int pa_nil))) (pa_cons (pe_tup (pa_cons pe_int (pa_cons pe_int pa_nil))) (pa_cons (pe_tup (pa_cons pe_int (pa_cons pe_int pa_nil))) pa_nil)))))))) pa_nil)))), ?_⟩
  refine ⟨_, rfl, (by show 2 ≤ sizeLine; decide), fun t1 m1 => ⟨(by show 2 ≤ sizeLine; decide), fun t2 m2 => ⟨_, rfl, (by show 2 ≤ sizeLine; decide), fun t3 m3 => ⟨(by show 2 ≤ sizeLine; decide), fun t4 m4 => ⟨_, rfl, (by show 2 ≤ sizeLine; decide), fun t5 m5 => ⟨(by show 2 ≤ sizeLine; decide), fun t6 m6 => ⟨(by show 2 ≤ sizeLine; decide), fun t7 m7 => ⟨(by show 7 ≤ sizeLine; decide), fun l nl => ?_⟩⟩⟩⟩⟩⟩⟩⟩
  have e1 := new_same m1 (HO.tup [.int 2, .int 1])
  have e2 := new_same m2 (HO.tup [.int 1, .int 2])
  have e3 := new_same m3 (HO.tup [.int (-1), .int 2])
  have e4 := new_same m4 (HO.tup [.int 3, .int 1])
  have e5 := new_same m5 (HO.tup [.int (-2), .int 1])
  have e6 := new_same m6 (HO.tup [.int 1, .int 3])
  have e7 := new_same m7 (HO.tup [.int 3, .int 2])
  have e8 := new_same nl (HO.lst [V.ref t1, V.ref t2, V.ref t3, V.ref t4, V.ref t5, V.ref t6, V.ref t7])
  have r7 := e8
  have r6 := e7.trans r7
  have r5 := e6.trans r6
  have r4 := e5.trans r5
  have r3 := e4.trans r4
  have r2 := e3.trans r3
  have r1 := e2.trans r2
  have sA := e1.trans r1
  have bb := hb.same (e1.trans (e2.trans (e3.trans (e4.trans (e5.trans (e6.trans e7))))))
  refine ⟨B, p, l, _, rfl, upd_same, (bb.at nl).1, (by show 0 < 7; decide), (by show 7 ≤ 1000; decide), hb.same sA, fun H2 x b2 u2 hx => ?_⟩
  have uu : But B H H2 := (But.same sA).trans u2
  simp only [List.mem_cons, List.not_mem_nil, or_false] at hx
  rcases hx with rfl | rfl | rfl | rfl | rfl | rfl | rfl
  · exact q H2 _ 2 b2 uu ((Nq.at (K := K) (r1 _ _ (show _ = some (rT 2) from upd_same))).go (hb.same sA) (Go.of u2)) (Zq.num ⟨by decide, by decide⟩ (by decide)) (.of (mkRat 1 2) (3) (by decide +kernel))
  · exact q H2 _ (mkRat 1 2) b2 uu ((Nq.at (K := K) (r2 _ _ (show _ = some (rT (mkRat 1 2)) from upd_same))).go (hb.same sA) (Go.of u2)) (Zq.num ⟨by decide, by decide⟩ (by decide)) (.of (2) (12) (by decide +kernel))
  · exact q H2 _ (mkRat (-1) 2) b2 uu ((Nq.at (K := K) (r3 _ _ (show _ = some (rT (mkRat (-1) 2)) from upd_same))).go (hb.same sA) (Go.of u2)) (Zq.num ⟨by decide, by decide⟩ (by decide)) (.of (-2) (-12) (by decide +kernel))
  · exact q H2 _ 3 b2 uu ((Nq.at (K := K) (r4 _ _ (show _ = some (rT 3) from upd_same))).go (hb.same sA) (Go.of u2)) (Zq.num ⟨by decide, by decide⟩ (by decide)) (.of (mkRat 1 3) (2) (by decide +kernel))
  · exact q H2 _ (-2) b2 uu ((Nq.at (K := K) (r5 _ _ (show _ = some (rT (-2)) from upd_same))).go (hb.same sA) (Go.of u2)) (Zq.num ⟨by decide, by decide⟩ (by decide)) (.of (mkRat (-1) 2) (-3) (by decide +kernel))
  · exact q H2 _ (mkRat 1 3) b2 uu ((Nq.at (K := K) (r6 _ _ (show _ = some (rT (mkRat 1 3)) from upd_same))).go (hb.same sA) (Go.of u2)) (Zq.num ⟨by decide, by decide⟩ (by decide)) (.of (3) (18) (by decide +kernel))
  · exact q H2 _ (mkRat 3 2) b2 uu ((Nq.at (K := K) (r7 _ _ (show _ = some (rT (mkRat 3 2)) from upd_same))).go (hb.same sA) (Go.of u2)) (Zq.num ⟨by decide, by decide⟩ (by decide)) (.of (mkRat 2 3) (4) (by decide +kernel))
theorem scSpr : FnScope nSp ["_law_bag_here", "_law_size_here", "_law_first"] (defScope L_spread) := ⟨rfl, rfl, rfl, by decide +kernel, rfl, by decide +kernel, by decide +kernel⟩
theorem ok_spread (F : Fun K "_law_spread" "_law_spread" L_spread f fd) (mr : mg "range" = none) (UO : Use P w K mg base CX0 2 "_law_of" ["_law_bag_here", "_law_things"] spOfL []) (UF : Use P w K mg base CX0 4 "_law_full" ["_law_bag_here"] (spNum K) []) (UN : Use P w K mg base CX0 3 "_law_number" ["_law_bag_here"] (spNum K) []) :
    FnOk P w K mg base CX0 5 f fd ["_law_bag_here", "_law_size_here", "_law_first"] (spSpr K) := by
  refine F.ok scSpr (fun vs H Q E h => ?_) (fun cdv A outer s H vs Q E hr h => ?_)
  · obtain ⟨B, p, n, v, q, rfl, _⟩ := h
    rfl
  obtain ⟨B, p, n, v, q0, rfl, hb, n2, n24, nv, bv, ld0, q⟩ := h
  have hr2 := hr.mono (show 2 ≤ 4 by decide)
  have hr3 := hr.mono (show 3 ≤ 4 by decide)
  refine ⟨_, C8.pss_cut (ps_set (i := 3) scSpr.nd rfl (Or.inl rfl) (pe_use UO hr2 rfl pass0 (pa_cons (pv 0) (pa_cons (pe_lst (pa_cons pe_int (pa_cons pe_int (pa_cons pe_int (pa_cons pe_int (pa_cons pe_int (pa_cons pe_int (pa_cons pe_int pa_nil)))))))) pa_nil))))
    (C8.pss_cut (ps_set (i := 4) scSpr.nd rfl (Or.inl rfl) (pe_op op_cat (pe_op op_cat (pe_lst (pa_cons (pv 2) pa_nil)) (pe_op op_rep (pe_lst (pa_cons (pe_tup (pa_cons pe_int (pa_cons pe_int pa_nil))) pa_nil)) (pv 3))) (pe_lst (pa_cons (pe_use UF hr rfl pass0 (pa_cons (pv 0) pa_nil)) pa_nil))))
    (pss_one (ps_ret (pe_slice sl_list (pe_op op_cat (pv 4) (pe_lc (own := [("_law_k", 5)]) (g := gName 5) (tt := tYes) rfl scSpr.nd (pi_range1 rfl mr (pa_cons (pv 1) pa_nil)) (blkOk_by (N := nSp) (sc := defScope L_spread) (by decide +kernel)) (fun _ _ _ _ _ => pg_name (i := 5) scSpr.nd rfl (Or.inl rfl)) (fun _ _ _ _ _ => pts_nil) (fun _ _ _ _ _ => pe_use UN hr3 rfl pass0 (pa_cons (pv 0) pa_nil))))
      po_none (po_some (pv 1)))))), ?_⟩
  refine ⟨fun σ H1 => ∃ g : Nat, σ = [some (.ref B), some (.int (n : Nat)), some v, some (.int (g : Nat)), none, none] ∧ g ≤ 3 ∧ Bag H1 B p ∧ But B H H1, ?_, ?_⟩
  · refine ⟨_, rfl, (by show 7 ≤ sizeLine; decide), fun l nl => ⟨B, p, l, _, rfl, upd_same, (hb.at nl).1, (by show 0 < 7; decide), (by show 7 ≤ 1000; decide), hb.put nl, fun H1 x b1 u1 hx => ?_⟩⟩
    have u1 : But B H H1 := (But.new nl).trans u1
    obtain ⟨g, rfl, g3⟩ : ∃ g : Nat, x = .int (g : Nat) ∧ g ≤ 3 := by
      simp only [List.mem_cons, List.not_mem_nil, or_false] at hx
      rcases hx with rfl | rfl | rfl | rfl | rfl | rfl | rfl
      · exact ⟨0, rfl, by decide⟩
      · exact ⟨1, rfl, by decide⟩
      · exact ⟨0, rfl, by decide⟩
      · exact ⟨2, rfl, by decide⟩
      · exact ⟨0, rfl, by decide⟩
      · exact ⟨1, rfl, by decide⟩
      · exact ⟨3, rfl, by decide⟩
    exact ⟨g, rfl, g3, b1, u1⟩
  rintro σ H1 ⟨g, rfl, g3, b1, u1⟩
  have nv1 := nv.go hb (Go.of u1)
  refine ⟨fun σ H2 => ∃ (e : Addr) (xs : List V) (qs : List Rat), σ = [some (.ref B), some (.int (n : Nat)), some v, some (.int (g : Nat)), some (.ref e), none] ∧ Bag H2 B p ∧ But B H H2 ∧ e ≠ B ∧ H2 e = some (.lst xs) ∧ Nl K H2 xs qs ∧ AllZ 1 qs ∧ qs.length ≤ 5 ∧ qs[0]? = some q0, ?_, ?_⟩
  · refine ⟨_, rfl, (by show 1 ≤ sizeLine; decide), fun a na => ⟨(by show 2 ≤ sizeLine; decide), fun t nt => ⟨(by show 1 ≤ sizeLine; decide), fun c nc => ⟨_, rfl, c, (g : Int), [.ref t], rfl, rfl, upd_same, by omega, by omega, (by show 1 * _ ≤ sizeLine; exact Nat.le_of_lt (small1000 (by omega))), fun d nd => ?_⟩⟩⟩⟩
    have rep : (List.replicate ((g : Nat) : Int).toNat [V.ref t]).flatten = List.replicate g (.ref t) := by
      rw [Int.toNat_natCast, List.flatten_replicate_singleton]
    rw [rep]
    have s1 := new_same na (HO.lst [v])
    have s2 := new_same nt (HO.tup [.int 0, .int 1])
    have s3 := new_same nc (HO.lst [V.ref t])
    have s4 := new_same nd (HO.lst (List.replicate g (V.ref t)))
    refine ⟨a, d, _, _, rfl, rfl, s4 _ _ (s3 _ _ (s2 _ _ upd_same)), upd_same, Nat.le_of_lt (small1000 (by rw [List.length_replicate]; show 1 + _ ≤ _; omega)), fun e ne => ?_⟩
    have s5 := new_same ne (HO.lst ([v] ++ List.replicate g (V.ref t)))
    have sA := s1.trans (s2.trans (s3.trans (s4.trans s5)))
    have z0 : Nq K _ (.ref t) 0 := .at (K := K) ((s3.trans (s4.trans s5)) _ _ (show _ = some (rT 0) from upd_same))
    have nE := Nl.cons (nv1.same sA) (rep_nl z0 g)
    have eE : upd (upd (upd (upd (upd H1 a (HO.lst [v])) t (HO.tup [.int 0, .int 1])) c (HO.lst [V.ref t])) d (HO.lst (List.replicate g (V.ref t)))) e (HO.lst ([v] ++ List.replicate g (V.ref t))) e = some (HO.lst (v :: List.replicate g (V.ref t))) := upd_same
    have bE := b1.same sA
    have eB : e ≠ B := ((b1.same (s1.trans (s2.trans (s3.trans s4)))).at ne).1
    generalize upd (upd (upd (upd (upd H1 a (HO.lst [v])) t (HO.tup [.int 0, .int 1])) c (HO.lst [V.ref t])) d (HO.lst (List.replicate g (V.ref t)))) e (HO.lst ([v] ++ List.replicate g (V.ref t))) = HE at sA nE eE bE
    refine ⟨_, rfl, B, p, rfl, bE, fun H2 y r b2 u2 ny br => ⟨(by show 1 ≤ sizeLine; decide), fun l nl => ?_⟩⟩
    have s6 := new_same nl (HO.lst [y])
    refine ⟨e, l, _, _, rfl, rfl, s6 _ _ (u2 _ _ eB eE), upd_same, Nat.le_of_lt (small1000 (by rw [List.length_cons, List.length_replicate]; show _ + 1 ≤ _; omega)), fun k nk => ?_⟩
    have s7 := new_same nk (HO.lst ((v :: List.replicate g (V.ref t)) ++ [y]))
    have s67 := s6.trans s7
    refine ⟨k, _, (q0 :: List.replicate g 0) ++ [r], rfl, b2.same s67, ((u1.trans (But.same sA)).trans u2).trans (But.same s67), ((b2.same s6).at nk).1, upd_same, ((nE.go bE (Go.of u2)).snoc ny).same s67, fun r' hr' => ?_, by rw [List.length_append, List.length_cons, List.length_replicate]; show _ + 1 + 1 ≤ 5; omega, rfl⟩
    rcases List.mem_append.mp hr' with h | h
    · rcases List.mem_cons.mp h with h | h
      · rw [h]; exact bv
      · rw [List.eq_of_mem_replicate h]; exact (Zq.num ⟨by decide, by decide⟩ (by decide))
    · rw [List.mem_singleton.mp h]; exact br
  clear nv1 b1 u1
  rintro σ H2 ⟨e, xs, qs, rfl, b2, u2, eB, he, nx, bq, l5, q00⟩
  have lx : xs.length = qs.length := nx.1
  refine ⟨_, rfl, _, rfl, _, rfl, by omega, by omega, fun D nD => ?_⟩
  have DB := b2.at nD
  refine lc_range (lo := 0) (n := ((n : Nat) : Int).toNat) (fun i H' => Bag H' B p ∧ But B H2 H' ∧ ∃ ys rs, H' D = some (.lst ys) ∧ Nl K H' ys rs ∧ rs.length = i ∧ AllZ 1 rs) ⟨b2.put nD, But.new nD, [], [], upd_same, Nl.nil, rfl, fun _ h => nomatch h⟩ ?_ ?_
  · rintro i H' hi ⟨b', u', ys, rs, hD, ny, rl, br⟩
    have yl : ys.length = i := by rw [ny.1, rl]
    refine ⟨rfl, yesT ⟨_, rfl, B, p, rfl, b', fun H5 y r b5 u5 nr brr => ?_⟩⟩
    have hD5 := u5 _ _ DB.1 hD
    refine ⟨ys, hD5, small1000 (by omega), ?_, ?_, ys ++ [y], rs ++ [r], upd_same, ?_, by rw [List.length_append, rl]; rfl, ?_⟩
    · exact b5.upd DB.1 DB.2
    · intro b o hb he
      rw [upd_ne (fun z => by rw [z, nD] at he; cases he)]
      exact u5 _ _ hb (u' _ _ hb he)
    · exact ((ny.go b' (Go.of u5)).snoc nr).wk (.set hD5)
    · intro t ht
      rcases List.mem_append.mp ht with ht | ht
      · exact br t ht
      · rw [List.mem_singleton.mp ht]; exact brr
  · rintro H3 ⟨b3, u3, ys, rs, hD, ny, rl, br⟩
    rw [Int.toNat_natCast] at rl
    have he3 := u3 _ _ eB he
    have nx3 := nx.go b2 (Go.of u3)
    have yl : ys.length = n := by rw [ny.1, rl]
    refine ⟨e, D, _, _, rfl, rfl, he3, hD, Nat.le_of_lt (small1000 (by omega)), fun k nk => ?_⟩
    have s4 := new_same nk (HO.lst (xs ++ ys))
    refine ⟨_, rfl, (n : Int), rfl, k, _, rfl, SqL.of upd_same, fun m nm => ?_⟩
    have ec : cutV (xs ++ ys) none (some (n : Int)) = (xs ++ ys).take n := cut_take _ n
    rw [ec]
    have s5 := new_same nm (HO.lst ((xs ++ ys).take n))
    have s45 := s4.trans s5
    have first : ((qs ++ rs).take n).getD 0 0 = q0 := by
      obtain ⟨qa, rfl⟩ : ∃ qa, qs = q0 :: qa := by
        cases qs with
        | nil => cases q00
        | cons x qa => exact ⟨qa, by rw [Option.some.inj q00]⟩
      obtain ⟨n', rfl⟩ : ∃ n', n = n' + 1 := ⟨n - 1, by omega⟩
      rfl
    refine q _ _ ((qs ++ rs).take n) (b3.same s45) ((u2.trans u3).trans (But.same s45)) ⟨m, _, rfl, upd_same, ((nx3.app ny).take n).same s45⟩ (by rw [List.length_take, List.length_append]; omega) ⟨fun t ht => ?_, by rw [first]; exact ld0⟩ first
    rcases List.mem_append.mp (List.mem_of_mem_take ht) with h | h
    · exact bq t h
    · exact br t h
end
end Kx
end
section
set_option maxHeartbeats 4000000
namespace Kx
open PySem PySem.Spec PyProof.Rows L2 RZ
def spKd (K : PySem.W.Frag) : Sp := fun vs H Q _ => ∃ (x : V) (qs : List Rat), vs = [x] ∧ Ls K H x qs ∧ 2 ≤ qs.length ∧ qs.length ≤ 25 ∧ ∀ H', Same H H' → Q (.str (kindS qs)) H'
theorem bad_all : ∀ (l : List Rat) (i : Nat), badL (zrs l) i = [] ↔ l.all (fun q => decide (q = 0)) = true
  | [], _ => ⟨fun _ => rfl, fun _ => rfl⟩
  | q :: l, i => by
    show (if decide (q = 0) = true then badL (zrs l) (i + 1) else i :: badL (zrs l) (i + 1)) = [] ↔ _
    rw [List.all_cons]
    by_cases c : q = 0
    · rw [if_pos (decide_eq_true c), decide_eq_true c, Bool.true_and]
      exact bad_all l (i + 1)
    · rw [if_neg (by rw [decide_eq_false c]; decide), decide_eq_false c, Bool.false_and]
      exact ⟨fun h => (nomatch h), fun h => (nomatch h)⟩
abbrev nStp : List Str := ["_law_bag_here", "_law_size_here", "_law_pick"]
abbrev nKd : List Str := ["_law_a", "_law_rest", "_law_k"]
section
variable {P : Program} {w : World} {K : PySem.W.Frag} {mg : Str → Option Value} {base : Heap} {f : Addr} {fd : FuncData}
theorem scStp : FnScope nStp ["_law_bag_here", "_law_size_here"] (defScope L_step) := ⟨rfl, rfl, rfl, by decide +kernel, rfl, by decide +kernel, by decide +kernel⟩
theorem ok_step (F : Fun K "_law_step" "_law_step" L_step f fd) (UD : Use P w K mg base CX0 1 "_law_draw" ["_law_bag_here", "_law_limit"] spDraw []) (UL : Use P w K mg base CX0 3 "_law_lead" ["_law_bag_here"] (spLd K) []) (US : Use P w K mg base CX0 5 "_law_spread" ["_law_bag_here", "_law_size_here", "_law_first"] (spSpr K) []) :
    FnOk P w K mg base CX0 6 f fd ["_law_bag_here", "_law_size_here"] (spStp K) := by
  refine F.ok scStp (fun vs H Q E h => ?_) (fun cdv A outer s H vs Q E hr h => ?_)
  · obtain ⟨B, p, n, rfl, _⟩ := h
    rfl
  obtain ⟨B, p, n, rfl, hb, n2, n24, q⟩ := h
  have hr1 := hr.mono (show 1 ≤ 5 by decide)
  have hr3 := hr.mono (show 3 ≤ 5 by decide)
  refine ⟨_, pss_cons (ps_set (i := 2) scStp.nd rfl (Or.inl rfl) (pe_use UD hr1 rfl pass0 (pa_cons (pv 0) (pa_cons pe_int pa_nil))))
    (pss_cons (ps_if (pt_cmpR op_lt (pv 2) pe_int (nomark _)) (pss_one (ps_ret (pe_op op_cat (pe_lst (pa_cons (pe_tup (pa_cons (pv 2) (pa_cons pe_int pa_nil))) pa_nil)) (pe_op op_rep (pe_lst (pa_cons (pe_tup (pa_cons pe_int (pa_cons pe_int pa_nil))) pa_nil)) (pe_op op_sub (pv 1) pe_int))))) pss_nil)
    (pss_cons (ps_if (pt_cmpR op_lt (pv 2) pe_int (nomark _)) (pss_one (ps_ret (pe_use US hr rfl pass0 (pa_cons (pv 0) (pa_cons (pv 1) (pa_cons (pe_tup (pa_cons pe_int (pa_cons pe_int pa_nil))) pa_nil)))))) pss_nil)
    (pss_cons (ps_if (pt_cmpR op_lt (pv 2) pe_int (nomark _)) (pss_one (ps_ret (pe_use US hr rfl pass0 (pa_cons (pv 0) (pa_cons (pv 1) (pa_cons (pe_tup (pa_cons (pe_un un_neg pe_int) (pa_cons pe_int pa_nil))) pa_nil)))))) pss_nil)
    (pss_cons (ps_if (pt_cmpR op_lt (pv 2) pe_int (nomark _)) (pss_one (ps_ret (pe_use US hr rfl pass0 (pa_cons (pv 0) (pa_cons (pv 1) (pa_cons (pe_use UL hr3 rfl pass0 (pa_cons (pv 0) pa_nil)) pa_nil)))))) pss_nil)
    (pss_one (ps_ret (pe_use US hr rfl pass0 (pa_cons (pv 0) (pa_cons (pv 1) (pa_cons (pe_tup (pa_cons pe_int (pa_cons pe_int pa_nil))) pa_nil)))))))))), ?_⟩
  refine ⟨_, rfl, B, p, 14, rfl, by decide, by decide, hb, fun H1 k b1 u1 k0 k1 => ?_⟩
  refine ⟨_, rfl, k, 2, rfl, rfl, _, rfl, ite2 (fun c => ?_) (fun _ => ?_)⟩
  · have k2 : k < 2 := of_decide_eq_true c
    refine ⟨_, rfl, (by show 2 ≤ sizeLine; decide), fun t1 m1 => ⟨(by show 1 ≤ sizeLine; decide), fun a na => ⟨(by show 2 ≤ sizeLine; decide), fun t2 m2 => ⟨(by show 1 ≤ sizeLine; decide), fun b nb => ⟨_, rfl, (n : Int), 1, rfl, rfl, b, (n : Int) - 1, [.ref t2], rfl, rfl, upd_same, by omega, by omega, (by show 1 * _ ≤ sizeLine; exact Nat.le_of_lt (small1000 (by omega))), fun c nc => ?_⟩⟩⟩⟩⟩
    have rep : (List.replicate ((n : Int) - 1).toNat [V.ref t2]).flatten = List.replicate (n - 1) (.ref t2) := by
      rw [List.flatten_replicate_singleton]
      congr 1
      omega
    rw [rep]
    have s1 := new_same m1 (HO.tup [.int k, .int 1])
    have s2 := new_same na (HO.lst [V.ref t1])
    have s3 := new_same m2 (HO.tup [.int 0, .int 1])
    have s4 := new_same nb (HO.lst [V.ref t2])
    have s5 := new_same nc (HO.lst (List.replicate (n - 1) (V.ref t2)))
    refine ⟨a, c, _, _, rfl, rfl, s5 _ _ (s4 _ _ (s3 _ _ upd_same)), upd_same, Nat.le_of_lt (small1000 (by rw [List.length_replicate]; show 1 + _ ≤ _; omega)), fun d nd => ?_⟩
    have s6 := new_same nd (HO.lst ([V.ref t1] ++ List.replicate (n - 1) (V.ref t2)))
    have sA := s1.trans (s2.trans (s3.trans (s4.trans (s5.trans s6))))
    have z0 : Nq K _ (.ref t2) 0 := .at (K := K) ((s4.trans (s5.trans s6)) _ _ (show _ = some (rT 0) from upd_same))
    have fin : ∀ r : Rat, rT r = HO.tup [.int k, .int 1] → Zq 1 r → Ld r → Q (.ref d) _ := fun r e br bl => by
      have z1 : Nq K _ (.ref t1) r := .at (K := K) ((s2.trans (s3.trans (s4.trans (s5.trans s6)))) _ _ (show _ = some (rT r) by rw [e]; exact upd_same))
      refine q _ _ (r :: List.replicate (n - 1) 0) (b1.same sA) (u1.trans (But.same sA)) ⟨d, _, rfl, upd_same, Nl.cons z1 (rep_nl z0 _)⟩ (by rw [List.length_cons, List.length_replicate]; omega) ⟨fun t ht => ?_, bl⟩
      rcases List.mem_cons.mp ht with h | h
      · rw [h]; exact br
      · rw [List.eq_of_mem_replicate h]; exact (Zq.num ⟨by decide, by decide⟩ (by decide))
    rcases (show k = 0 ∨ k = 1 by omega) with rfl | rfl
    · exact fin 0 rfl (Zq.num ⟨by decide, by decide⟩ (by decide)) .zero
    · exact fin 1 rfl (Zq.num ⟨by decide, by decide⟩ (by decide)) .one
  have go : ∀ (G : Hp) (v : V) (r : Rat), Bag G B p → But B H G → Nq K G v r → Zq 1 r → Ld r → spSpr K [.ref B, .int (n : Nat), v] G Q E0 := fun G v r bG uG nv br bl => ⟨B, p, n, v, r, rfl, bG, n2, n24, nv, br, bl, fun H' u rs b' u' l e a _ => q H' u rs b' (uG.trans u') l e a⟩
  refine ⟨_, rfl, k, 7, rfl, rfl, _, rfl, ite2 (fun _ => ?_) (fun _ => ?_)⟩
  · refine ⟨_, rfl, _, rfl, (by show 2 ≤ sizeLine; decide), fun t nt => ?_⟩
    have s1 := new_same nt (HO.tup [.int 1, .int 1])
    exact go _ _ 1 (b1.same s1) (u1.trans (But.same s1)) (.at upd_same) (Zq.num ⟨by decide, by decide⟩ (by decide)) .one
  refine ⟨_, rfl, k, 9, rfl, rfl, _, rfl, ite2 (fun _ => ?_) (fun _ => ?_)⟩
  · refine ⟨_, rfl, _, rfl, _, rfl, (by show 2 ≤ sizeLine; decide), fun t nt => ?_⟩
    have s1 := new_same nt (HO.tup [.int (-1), .int 1])
    exact go _ _ (-1) (b1.same s1) (u1.trans (But.same s1)) (.at upd_same) (Zq.num ⟨by decide, by decide⟩ (by decide)) .mone
  refine ⟨_, rfl, k, 12, rfl, rfl, _, rfl, ite2 (fun _ => ?_) (fun _ => ?_)⟩
  · refine ⟨_, rfl, _, rfl, _, rfl, B, p, rfl, b1, fun H2 v r b2 u2 nv br bl => ?_⟩
    exact go _ _ r b2 (u1.trans u2) nv br bl
  · refine ⟨_, rfl, _, rfl, (by show 2 ≤ sizeLine; decide), fun t nt => ?_⟩
    have s1 := new_same nt (HO.tup [.int 0, .int 1])
    exact go _ _ 0 (b1.same s1) (u1.trans (But.same s1)) (.at upd_same) (Zq.num ⟨by decide, by decide⟩ (by decide)) .zero
end
end Kx
end
section
set_option maxHeartbeats 4000000
namespace Kx
/-! ### sums and series -/
abbrev Ser := Nat → Rat
def sumN (f : Nat → Rat) : Nat → Rat
  | 0 => 0
  | n + 1 => sumN f n + f n
theorem sum_congr {f g : Nat → Rat} : ∀ {n : Nat}, (∀ i, i < n → f i = g i) → sumN f n = sumN g n
  | 0, _ => rfl
  | n + 1, h => by
    show _ + _ = _ + _
    rw [sum_congr (n := n) fun i hi => h i (Nat.lt_succ_of_lt hi), h n (Nat.lt_succ_self n)]
theorem sum_zero {f : Nat → Rat} : ∀ {n : Nat}, (∀ i, i < n → f i = 0) → sumN f n = 0
  | 0, _ => rfl
  | n + 1, h => by
    show _ + _ = _
    rw [sum_zero (n := n) fun i hi => h i (Nat.lt_succ_of_lt hi), h n (Nat.lt_succ_self n), Rat.add_zero]
theorem sum_add (f g : Nat → Rat) : ∀ n, sumN (fun i => f i + g i) n = sumN f n + sumN g n
  | 0 => (Rat.add_zero 0).symm
  | n + 1 => by
    show sumN _ n + _ = (sumN f n + f n) + (sumN g n + g n)
    rw [sum_add f g n]
    grind
theorem sum_mul (c : Rat) (f : Nat → Rat) : ∀ n, sumN (fun i => c * f i) n = c * sumN f n
  | 0 => (Rat.mul_zero c).symm
  | n + 1 => by
    show sumN _ n + _ = c * (sumN f n + f n)
    rw [sum_mul c f n]
    grind
theorem sum_mulR (c : Rat) (f : Nat → Rat) (n : Nat) : sumN (fun i => f i * c) n = sumN f n * c := by
  rw [Rat.mul_comm, ← sum_mul]
  exact sum_congr fun i _ => Rat.mul_comm _ _
theorem sum_swap (F : Nat → Nat → Rat) (m : Nat) : ∀ n, sumN (fun i => sumN (F i) m) n = sumN (fun j => sumN (fun i => F i j) n) m
  | 0 => (sum_zero fun i _ => rfl).symm
  | n + 1 => by
    show sumN _ n + _ = sumN (fun j => sumN (fun i => F i j) n + F n j) m
    rw [sum_swap F m n, sum_add]
theorem sum_first (f : Nat → Rat) : ∀ n, sumN f (n + 1) = f 0 + sumN (fun i => f (i + 1)) n
  | 0 => by
    show (0 : Rat) + f 0 = f 0 + 0
    rw [Rat.zero_add, Rat.add_zero]
  | n + 1 => by
    show sumN f (n + 1) + f (n + 1) = f 0 + (sumN (fun i => f (i + 1)) n + f (n + 1))
    rw [sum_first f n, Rat.add_assoc]
theorem sum_refl (f : Nat → Rat) (n : Nat) : sumN (fun i => f (n - i)) (n + 1) = sumN f (n + 1) := by
  induction n generalizing f with
  | zero => rfl
  | succ n ih =>
    rw [sum_first]
    show f (n + 1) + _ = sumN f (n + 1) + f (n + 1)
    rw [← ih f, Rat.add_comm]
    congr 1
    exact sum_congr fun i _ => by rw [Nat.add_sub_add_right]
theorem sum_tri (G : Nat → Nat → Rat) : ∀ n, sumN (fun i => sumN (fun j => G j (i - j)) (i + 1)) n = sumN (fun j => sumN (G j) (n - j)) n
  | 0 => rfl
  | n + 1 => by
    have e : sumN (fun j => sumN (G j) (n + 1 - j)) (n + 1) = sumN (fun j => sumN (G j) (n - j) + G j (n - j)) (n + 1) := sum_congr fun j hj => by
      rw [show n + 1 - j = (n - j) + 1 by omega]
      rfl
    rw [e, sum_add]
    show sumN _ n + _ = (sumN (fun j => sumN (G j) (n - j)) n + sumN (G n) (n - n)) + _
    rw [sum_tri G n, Nat.sub_self]
    show _ = (_ + (0 : Rat)) + _
    rw [Rat.add_zero]
theorem sum_more {f : Nat → Rat} {n m : Nat} (l : n ≤ m) (h : ∀ i, n ≤ i → f i = 0) : sumN f m = sumN f n := by
  induction l with
  | refl => rfl
  | step l ih =>
    show sumN f _ + f _ = _
    rw [ih, h _ l, Rat.add_zero]
/-- the product of two series -/
def mulS (f g : Ser) : Ser := fun n => sumN (fun i => f i * g (n - i)) (n + 1)
def addS (f g : Ser) : Ser := fun n => f n + g n
def oneS : Ser := fun n => if n = 0 then 1 else 0
theorem mulS_comm (f g : Ser) : mulS f g = mulS g f := by
  funext n
  show _ = sumN (fun i => g i * f (n - i)) (n + 1)
  rw [← sum_refl]
  exact sum_congr fun i hi => by rw [Rat.mul_comm, show n - (n - i) = i by omega]
theorem mulS_assoc (f g h : Ser) : mulS (mulS f g) h = mulS f (mulS g h) := by
  funext n
  have e1 : mulS (mulS f g) h n = sumN (fun i => sumN (fun j => f j * g (i - j) * h (n - j - (i - j))) (i + 1)) (n + 1) := sum_congr fun i hi => by
    show sumN _ (i + 1) * _ = _
    rw [← sum_mulR]
    exact sum_congr fun j hj => by rw [show n - j - (i - j) = n - i by omega]
  rw [e1, sum_tri (fun j k => f j * g k * h (n - j - k))]
  exact sum_congr fun j hj => by
    show _ = f j * sumN _ (n - j + 1)
    rw [← sum_mul, show n + 1 - j = n - j + 1 by omega]
    exact sum_congr fun k _ => Rat.mul_assoc _ _ _
theorem oneS_mul (f : Ser) : mulS oneS f = f := by
  funext n
  show sumN _ (n + 1) = _
  rw [sum_first]
  show oneS 0 * f (n - 0) + _ = _
  rw [sum_zero fun i _ => by show (0 : Rat) * _ = 0; exact Rat.zero_mul _]
  show 1 * f n + 0 = f n
  rw [Rat.one_mul, Rat.add_zero]
theorem mulS_one (f : Ser) : mulS f oneS = f := by rw [mulS_comm, oneS_mul]
theorem mulS_add (f g h : Ser) : mulS (addS f g) h = addS (mulS f h) (mulS g h) := by
  funext n
  show sumN _ _ = sumN _ _ + sumN _ _
  rw [← sum_add]
  exact sum_congr fun i _ => Rat.add_mul _ _ _
def powS (f : Ser) : Nat → Ser
  | 0 => oneS
  | k + 1 => mulS (powS f k) f
theorem powS_one (f : Ser) : powS f 1 = f := oneS_mul f
theorem powS_add (f : Ser) (a : Nat) : ∀ b, powS f (a + b) = mulS (powS f a) (powS f b)
  | 0 => (mulS_one _).symm
  | b + 1 => by
    show mulS (powS f (a + b)) f = mulS (powS f a) (mulS (powS f b) f)
    rw [powS_add f a b, mulS_assoc]
theorem powS_low {f : Ser} (f0 : f 0 = 0) : ∀ (k n : Nat), n < k → powS f k n = 0
  | k + 1, n, h => sum_zero fun i hi => by
    rcases Nat.lt_or_ge i k with c | c
    · rw [powS_low f0 k i c, Rat.zero_mul]
    · rw [show n - i = 0 by omega, f0, Rat.mul_zero]
/-- a series with a series put in -/
def cmpS (u f : Ser) : Ser := fun n => sumN (fun j => u j * powS f j n) (n + 1)
theorem cmpS_to {u f : Ser} (f0 : f 0 = 0) {n N : Nat} (h : n < N) : sumN (fun j => u j * powS f j n) N = cmpS u f n :=
  sum_more h fun i hi => by rw [powS_low f0 i n hi, Rat.mul_zero]
theorem cmpS_add (u w f : Ser) : cmpS (addS u w) f = addS (cmpS u f) (cmpS w f) := by
  funext n
  show sumN _ _ = sumN _ _ + sumN _ _
  rw [← sum_add]
  exact sum_congr fun i _ => Rat.add_mul _ _ _
theorem cmpS_one (f : Ser) : cmpS oneS f = oneS := by
  funext n
  show sumN _ (n + 1) = _
  rw [sum_first, sum_zero fun i _ => by show (0 : Rat) * _ = 0; exact Rat.zero_mul _]
  show 1 * oneS n + 0 = _
  rw [Rat.one_mul, Rat.add_zero]
theorem cmpS_mul {u w f : Ser} (f0 : f 0 = 0) : cmpS (mulS u w) f = mulS (cmpS u f) (cmpS w f) := by
  funext n
  have e1 : cmpS (mulS u w) f n = sumN (fun j => sumN (fun a => u a * w (j - a) * powS f (a + (j - a)) n) (j + 1)) (n + 1) := sum_congr fun j hj => by
    show sumN _ (j + 1) * _ = _
    rw [← sum_mulR]
    exact sum_congr fun a ha => by rw [show a + (j - a) = j by omega]
  rw [e1, sum_tri (fun a b => u a * w b * powS f (a + b) n)]
  have e2 : mulS (cmpS u f) (cmpS w f) n = sumN (fun i => sumN (fun a => sumN (fun b => u a * w b * (powS f a i * powS f b (n - i))) (n + 1)) (n + 1)) (n + 1) := sum_congr fun i hi => by
    show cmpS u f i * cmpS w f (n - i) = _
    rw [← cmpS_to f0 (u := u) (n := i) (N := n + 1) (by omega), ← cmpS_to f0 (u := w) (n := n - i) (N := n + 1) (by omega), ← sum_mulR]
    refine sum_congr fun a _ => ?_
    rw [← sum_mul]
    exact sum_congr fun b _ => by grind
  have e3 : mulS (cmpS u f) (cmpS w f) n = sumN (fun a => sumN (fun b => u a * w b * powS f (a + b) n) (n + 1)) (n + 1) := by
    rw [e2, sum_swap]
    refine sum_congr fun a _ => ?_
    rw [sum_swap]
    refine sum_congr fun b _ => ?_
    rw [sum_mul, powS_add]
    rfl
  rw [e3]
  refine sum_congr fun a ha => (sum_more (by omega) fun b hb => ?_).symm
  rw [powS_low f0 _ _ (by omega), Rat.mul_zero]
theorem cmpS_zero {u f : Ser} : cmpS u f 0 = u 0 := by
  show (0 : Rat) + u 0 * oneS 0 = _
  show (0 : Rat) + u 0 * 1 = _
  rw [Rat.zero_add, Rat.mul_one]
theorem cmpS_pow {f g : Ser} (g0 : g 0 = 0) : ∀ k, cmpS (powS f k) g = powS (cmpS f g) k
  | 0 => cmpS_one g
  | k + 1 => by
    show cmpS (mulS _ _) g = mulS _ _
    rw [cmpS_mul g0, cmpS_pow g0 k]
theorem cmpS_assoc {u f g : Ser} (f0 : f 0 = 0) (g0 : g 0 = 0) : cmpS (cmpS u f) g = cmpS u (cmpS f g) := by
  funext n
  have e1 : cmpS (cmpS u f) g n = sumN (fun j => sumN (fun a => u a * (powS f a j * powS g j n)) (n + 1)) (n + 1) := sum_congr fun j hj => by
    show cmpS u f j * _ = _
    rw [← cmpS_to f0 (u := u) (n := j) (N := n + 1) hj, ← sum_mulR]
    exact sum_congr fun a _ => Rat.mul_assoc _ _ _
  rw [e1, sum_swap]
  refine sum_congr fun a _ => ?_
  rw [sum_mul, ← cmpS_pow g0]
  rfl
def xS : Ser := fun n => if n = 1 then 1 else 0
theorem cmpS_xl (f : Ser) : ∀ n, 0 < n → cmpS xS f n = f n := fun n h => by
  obtain ⟨m, rfl⟩ : ∃ m, n = m + 1 := ⟨n - 1, by omega⟩
  show sumN _ (m + 1 + 1) = _
  rw [sum_first, sum_first, sum_zero fun i _ => by show (0 : Rat) * _ = 0; exact Rat.zero_mul _]
  show (0 : Rat) * _ + (1 * powS f 1 (m + 1) + 0) = _
  rw [powS_one]
  grind
theorem mulS_x (f : Ser) : ∀ n, mulS f xS (n + 1) = f n := fun n => by
  rw [mulS_comm]
  show sumN _ (n + 1 + 1) = _
  rw [sum_first, sum_first, sum_zero fun i _ => by show (0 : Rat) * _ = 0; exact Rat.zero_mul _]
  show (0 : Rat) * _ + (1 * f n + 0) = _
  grind
theorem powS_x : ∀ k n, powS xS k n = if n = k then 1 else 0
  | 0, n => rfl
  | k + 1, 0 => powS_low rfl (k + 1) 0 (Nat.succ_pos k)
  | k + 1, n + 1 => by
    show mulS (powS xS k) xS (n + 1) = _
    rw [mulS_x, powS_x k n]
    by_cases c : n = k
    · rw [if_pos c, if_pos (by omega)]
    · rw [if_neg c, if_neg (by omega)]
theorem cmpS_xr (u : Ser) : cmpS u xS = u := by
  funext n
  show sumN _ n + u n * powS xS n n = _
  rw [powS_x, if_pos rfl, sum_zero fun i hi => by rw [powS_x, if_neg (by omega), Rat.mul_zero], Rat.zero_add, Rat.mul_one]
/-! only the beginning counts -/
def EqTo (n : Nat) (f g : Ser) : Prop := ∀ i, i < n → f i = g i
theorem EqTo.symm {n : Nat} {f g : Ser} (h : EqTo n f g) : EqTo n g f := fun i hi => (h i hi).symm
theorem EqTo.trans {n : Nat} {f g k : Ser} (h : EqTo n f g) (h' : EqTo n g k) : EqTo n f k := fun i hi => (h i hi).trans (h' i hi)
theorem EqTo.le {n m : Nat} {f g : Ser} (h : EqTo n f g) (l : m ≤ n) : EqTo m f g := fun i hi => h i (by omega)
theorem EqTo.mul {n : Nat} {f g k l : Ser} (h : EqTo n f g) (h' : EqTo n k l) : EqTo n (mulS f k) (mulS g l) := fun i hi => sum_congr fun j hj => by rw [h j (by omega), h' (i - j) (by omega)]
theorem EqTo.pow {n : Nat} {f g : Ser} (h : EqTo n f g) : ∀ k, EqTo n (powS f k) (powS g k)
  | 0 => fun _ _ => rfl
  | k + 1 => (EqTo.pow h k).mul h
theorem EqTo.cmp {n : Nat} {u w f g : Ser} (h : EqTo n u w) (h' : EqTo n f g) : EqTo n (cmpS u f) (cmpS w g) := fun i hi => sum_congr fun j hj => by rw [h j (by omega), h'.pow j i hi]
/-! ### lists as series -/
def ser (qs : List Rat) : Ser := fun i => qs.getD i 0
def toL (n : Nat) (f : Ser) : List Rat := (List.range n).map f
theorem toL_len (n : Nat) (f : Ser) : (toL n f).length = n := by unfold toL; rw [List.length_map, List.length_range]
theorem toL_get {n i : Nat} {f : Ser} (h : i < n) : (toL n f)[i]? = some (f i) := by
  unfold toL
  rw [List.getElem?_map, List.getElem?_range h]
  rfl
theorem ser_toL {n : Nat} {f : Ser} : EqTo n (ser (toL n f)) f := fun i hi => by
  show List.getD _ _ _ = _
  rw [List.getD_eq_getElem?_getD, toL_get hi]
  rfl
theorem toL_ser (qs : List Rat) : toL qs.length (ser qs) = qs := by
  apply List.ext_getElem?
  intro i
  rcases Nat.lt_or_ge i qs.length with c | c
  · rw [toL_get c]
    show some (List.getD _ _ _) = _
    rw [List.getD_eq_getElem?_getD, List.getElem?_eq_getElem c]
    rfl
  · rw [List.getElem?_eq_none c, List.getElem?_eq_none (by rw [toL_len]; exact c)]
theorem toL_eq {n : Nat} {f g : Ser} (h : EqTo n f g) : toL n f = toL n g := List.map_congr_left fun i hi => h i (List.mem_range.mp hi)
theorem toL_inj {n : Nat} {f g : Ser} (h : toL n f = toL n g) : EqTo n f g := fun i hi => by
  have := congrArg (fun l : List Rat => l[i]?) h
  rw [toL_get hi, toL_get hi] at this
  exact Option.some.inj this
theorem cvT_sum (us ws : List Rat) (k : Nat) : ∀ j, cvT us ws k j = sumN (fun i => ser us i * ser ws (k - i)) j
  | 0 => rfl
  | j + 1 => by
    show cvT us ws k j + _ = _
    rw [cvT_sum us ws k j]
    rfl
theorem mulL_ser (us ws : List Rat) : mulL us ws = toL us.length (mulS (ser us) (ser ws)) := List.map_congr_left fun k _ => cvT_sum us ws k (k + 1)
theorem toL_take {n m : Nat} (f : Ser) (h : m ≤ n) : (toL n f).take m = toL m f := by
  unfold toL
  rw [← List.map_take, List.take_range, Nat.min_eq_left h]
theorem mulL_toL {n : Nat} (f g : Ser) : mulL (toL n f) (toL n g) = toL n (mulS f g) := by
  rw [mulL_ser, toL_len]
  exact toL_eq (ser_toL.mul ser_toL)
end Kx
end
section
set_option maxHeartbeats 4000000
namespace Kx
open PySem PySem.Spec PyProof.Rows L2
/-- the sum of the first products -/
def dotT (us ws : List Rat) : Nat → Rat
  | 0 => 0
  | j + 1 => dotT us ws j + us.getD j 0 * ws.getD j 0
theorem dotT_sum (us ws : List Rat) : ∀ n, dotT us ws n = sumN (fun i => ser us i * ser ws i) n
  | 0 => rfl
  | n + 1 => by
    show dotT us ws n + _ = _
    rw [dotT_sum us ws n]
    rfl
def dotL (us ws : List Rat) : Rat := dotT us ws (min us.length ws.length)
theorem dotT_z {e g : Nat} {us ws : List Rat} (h : AllZ e us) (h' : AllZ g ws) : ∀ j, Zw (e + g) j 1024 (dotT us ws j)
  | 0 => Zw.zero
  | j + 1 => (dotT_z h h' j).add ((h.getD j).mul (h'.getD j))
theorem prod_up {a b : Rat} {S : Nat} (h : a.den * b.den ∣ S) : ((a.num * b.num * ((S : Int) / ((a.den : Int) * (b.den : Int))) : Int) : Rat) = a * b * (S : Rat) := by
  obtain ⟨k, rfl⟩ := h
  have hd : ((a.den * b.den : Nat) : Int) ≠ 0 := by
    have := Nat.mul_ne_zero a.den_nz b.den_nz
    omega
  have e : (((a.den * b.den * k : Nat) : Int) / ((a.den : Int) * (b.den : Int))) = (k : Int) := by
    rw [← Int.natCast_mul, Int.natCast_mul (a.den * b.den) k, Int.mul_ediv_cancel_left _ hd]
  rw [e]
  have ha := up_val (q := a) (L := a.den) (Nat.dvd_refl _)
  have hb := up_val (q := b) (L := b.den) (Nat.dvd_refl _)
  rw [Int.ediv_self (den_ne a), Int.mul_one] at ha
  rw [Int.ediv_self (den_ne b), Int.mul_one] at hb
  rw [Rat.intCast_mul, Rat.intCast_mul, ha, hb, Rat.natCast_mul, Rat.natCast_mul]
  have : ((k : Int) : Rat) = (k : Rat) := rfl
  rw [this]
  grind
theorem quo_up {u : Int} {L S : Nat} {r : Rat} (h : L ∣ S) (L0 : 0 < L) (hu : (u : Rat) = r * (L : Rat)) : ((u * ((S : Int) / (L : Int)) : Int) : Rat) = r * (S : Rat) := by
  obtain ⟨k, rfl⟩ := h
  have e : (((L * k : Nat) : Int) / (L : Int)) = (k : Int) := by
    rw [Int.natCast_mul, Int.mul_ediv_cancel_left _ (by omega)]
  rw [e, Rat.intCast_mul, hu, Rat.natCast_mul]
  have : ((k : Int) : Rat) = (k : Rat) := rfl
  rw [this]
  grind
theorem div_of {u : Int} {L : Nat} {r : Rat} (L0 : 0 < L) (hu : (u : Rat) = r * (L : Rat)) : Rat.divInt u (L : Int) = r := by
  rw [Rat.divInt_eq_div, hu]
  have lz : (L : Rat) ≠ 0 := by
    intro z
    have : L = 0 := by exact_mod_cast z
    omega
  show r * (L : Rat) / (((L : Int)) : Rat) = r
  have : (((L : Int)) : Rat) = (L : Rat) := rfl
  rw [this]
  grind
def spDot (K : PySem.W.Frag) : Sp := fun vs H Q _ => ∃ (x y : V) (qs rs : List Rat) (e g : Nat), vs = [x, y] ∧ Ls K H x qs ∧ Ls K H y rs ∧ min qs.length rs.length ≤ 32 ∧ 1 ≤ e ∧ 1 ≤ g ∧ e + g ≤ 200 ∧ AllZ e qs ∧ AllZ g rs ∧ GivesQ H Q (dotL qs rs)
abbrev nDt : List Str := ["ones", "others", "upper", "lower", "a", "b", "c", "d", "shared"]
section
variable {P : Program} {w : World} {K : PySem.W.Frag} {mg : Str → Option Value} {base : Heap} {f fL o0 : Addr} {fd fdL : FuncData}
theorem scDt : FnScope nDt ["ones", "others"] (defScope F_dot) := ⟨rfl, rfl, rfl, by decide +kernel, rfl, by decide +kernel, by decide +kernel⟩
theorem ok_dot (F : Fun K "dot" "dot" F_dot f fd) (mz : mg "zip" = none) (mLc : mg "lcm" = some (.builtin "math.lcm")) (UR : Use P w K mg base CX0 1 "ratio" ["upper", "lower"] spLowQ []) : FnOk P w K mg base CX0 2 f fd ["ones", "others"] (spDot K) := by
  refine F.ok scDt (fun vs H Q E h => ?_) (fun cdv A outer s H vs Q E hr h => ?_)
  · obtain ⟨x, y, qs, rs, e, g, rfl, _⟩ := h
    rfl
  obtain ⟨x, y, qs, rs, e, g, rfl, ⟨xa, xs, rfl, hx, nx⟩, ⟨ya, ys, rfl, hy, ny⟩, l1, e0, g0, eg, bq, br, q⟩ := h
  refine ⟨_, pss_cons (ps_asg (pe_tup (pa_cons pe_int (pa_cons pe_int pa_nil))) (pg_tup rfl (pgs_cons (pg_name (i := 2) scDt.nd rfl (Or.inl rfl)) (pgs_cons (pg_name (i := 3) scDt.nd rfl (Or.inl rfl)) pgs_nil))))
    (pss_cons (ps_for PassesOwn.never rfl (pi_zip rfl mz (pa_cons (pv 0) (pa_cons (pv 1) pa_nil))) (pg_tup rfl (pgs_cons (pg_tup rfl (pgs_cons (pg_name (i := 4) scDt.nd rfl (Or.inl rfl)) (pgs_cons (pg_name (i := 5) scDt.nd rfl (Or.inl rfl)) pgs_nil))) (pgs_cons (pg_tup rfl (pgs_cons (pg_name (i := 6) scDt.nd rfl (Or.inl rfl)) (pgs_cons (pg_name (i := 7) scDt.nd rfl (Or.inl rfl)) pgs_nil))) pgs_nil)))
      (pss_one (ps_if (PW.pt (pw_and (pt_cmpR op_ne (pv 4) pe_int (nomark _)) (pw_and1 (pt_cmpR op_ne (pv 6) pe_int (nomark _)))))
        (pss_cons (ps_set (i := 8) scDt.nd rfl (Or.inl rfl) (pe_callBfun cr_lcm rfl mLc (pa_cons (pv 3) (pa_cons (pe_op op_mulW (pv 5) (pv 7)) pa_nil))))
        (pss_cons (ps_set (i := 2) scDt.nd rfl (Or.inl rfl) (pe_op op_add (pe_op op_mulW (pv 2) (pe_op op_fdivA (pv 8) (pv 3))) (pe_op op_mulW (pe_op op_mulW (pv 4) (pv 6)) (pe_op op_fdivA (pv 8) (pe_op op_mulW (pv 5) (pv 7))))))
        (pss_one (ps_set (i := 3) scDt.nd rfl (Or.inl rfl) (pv 8))))) pss_nil)))
    (pss_one (ps_ret (pe_use UR hr rfl pass0 (pa_cons (pv 2) (pa_cons (pv 3) pa_nil)))))), ?_⟩
  refine ⟨(by show 2 ≤ sizeLine; decide), fun t0 n0 => ?_⟩
  have s0 := new_same n0 (HO.tup [.int 0, .int 1])
  refine ⟨t0, _, rfl, SqT.of upd_same, rfl, _, _, rfl, _, _, rfl, rfl, ?_⟩
  generalize upd H t0 (HO.tup [.int 0, .int 1]) = H0 at s0
  have lx : xs.length = qs.length := nx.1
  have ly : ys.length = rs.length := ny.1
  refine ⟨_, rfl, _, rfl, xa, ya, xs, ys, rfl, SqL.of (s0 _ _ hx), SqL.of (s0 _ _ hy), ?_⟩
  refine for_it (walk_zip (K := K) (a := xa) (b := ya) (xs := xs) (ys := ys) (n := min xs.length ys.length) rfl) (fun i σ H' => Same H H' ∧ ∃ (u : Int) (L : Nat) (v4 v5 v6 v7 v8 : Option V), σ = [some (.ref xa), some (.ref ya), some (.int u), some (.int (L : Nat)), v4, v5, v6, v7, v8] ∧ L ∣ 6 ^ (e + g) ∧ (u : Rat) = dotT qs rs i * (L : Rat)) ⟨s0, 0, 1, none, none, none, none, none, rfl, Nat.one_dvd _, (by show ((0 : Int) : Rat) = 0 * _; rw [Rat.zero_mul]; rfl)⟩ (fun i σ H' _ h => ⟨SqL.of (h.1 _ _ hx), SqL.of (h.1 _ _ hy)⟩) ?_ ?_
  · rintro i z σ H3 H4 hi ⟨s3, u, L, v4, v5, v6, v7, v8, rfl, dL, hu⟩ ⟨T, y, z, rfl, hT, rfl, ey, ez⟩
    have sT := new_same hT (.tup [y, z])
    obtain ⟨a, ea, na⟩ := nx.get ey
    obtain ⟨b, eb, nb⟩ := ny.get ez
    obtain ⟨va, rfl, sa, _⟩ := (na.same (s3.trans sT)).sq
    obtain ⟨vb, rfl, sb, _⟩ := (nb.same (s3.trans sT)).sq
    have za := bq a (List.mem_of_getElem? ea)
    have zb := br b (List.mem_of_getElem? eb)
    have ba : Bq 6001 a := (za.bq e0).mono (by omega)
    have bb : Bq 6001 b := (zb.bq g0).mono (by omega)
    have L0 : 0 < L := Nat.pos_of_dvd_of_pos dL (Nat.pow_pos (by decide))
    have nxt : dotT qs rs (i + 1) = dotT qs rs i + a * b := by
      show _ + List.getD _ _ _ * List.getD _ _ _ = _
      rw [List.getD_eq_getElem?_getD, List.getD_eq_getElem?_getD, ea, eb]
      rfl
    refine ⟨T, _, rfl, SqT.of upd_same, rfl, _, _, rfl, va, _, rfl, sa, rfl, _, _, rfl, _, _, rfl, rfl, _, _, rfl, vb, _, rfl, sb, rfl, _, _, rfl, _, _, rfl, rfl, rfl, ?_⟩
    have skip : a * b = 0 → L ∣ 6 ^ (e + g) ∧ (u : Rat) = dotT qs rs (i + 1) * (L : Rat) := fun z => ⟨dL, by rw [nxt, z, Rat.add_zero]; exact hu⟩
    refine ⟨_, rfl, rfl, _, rfl, ?_⟩
    by_cases ca : a.num = 0
    · have z : a = 0 := Rat.num_eq_zero.mp ca
      rw [decide_eq_true (congrArg V.int ca)]
      exact iteF (iteF ⟨s3.trans sT, u, L, _, _, _, _, _, rfl, skip (by rw [z, Rat.zero_mul])⟩)
    rw [decide_eq_false (fun e => ca (V.int.inj e))]
    refine iteT ⟨_, rfl, rfl, _, rfl, ?_⟩
    by_cases cb : b.num = 0
    · have z : b = 0 := Rat.num_eq_zero.mp cb
      rw [decide_eq_true (congrArg V.int cb)]
      exact iteF ⟨s3.trans sT, u, L, _, _, _, _, _, rfl, skip (by rw [z, Rat.mul_zero])⟩
    rw [decide_eq_false (fun e => cb (V.int.inj e))]
    have dd : a.den * b.den ∣ 6 ^ (e + g) := by
      rw [Nat.pow_add]
      exact Nat.mul_dvd_mul za.dvd zb.dvd
    have d0 : 0 < a.den * b.den := Nat.pos_of_dvd_of_pos dd (Nat.pow_pos (by decide))
    have Lb := lcm_lt dL eg
    have db := lcm_lt dd eg
    have S0 : Nat.lcm L (a.den * b.den) ∣ 6 ^ (e + g) := Nat.lcm_dvd dL dd
    have d1 := Nat.dvd_lcm_left L (a.den * b.den)
    have d2 := Nat.dvd_lcm_right L (a.den * b.den)
    have Sb := lcm_lt S0 eg
    refine iteT ⟨_, rfl, _, rfl, _, rfl, _, _, rfl, rfl, wide_mul ba.dn bb.dn (by decide) (by decide) (by decide), L, a.den * b.den, rfl, Nat.lt_of_lt_of_le Lb (Nat.pow_le_pow_right (by decide) (by decide)), Nat.lt_of_lt_of_le db (Nat.pow_le_pow_right (by decide) (by decide)), L0, d0, ?_⟩
    have ub : u.natAbs < 2 ^ 6010 := by
      have h1 := (dotT_z bq br i).up (by decide) dL hu
      have h2 : 2 ^ (30 * (e + g)) ≤ 2 ^ 6000 := Nat.pow_le_pow_right (by decide) (by omega)
      have h3 : i * 2 ^ (30 * (e + g)) ≤ 32 * 2 ^ 6000 := Nat.mul_le_mul (by omega) h2
      have h4 : 32 * 2 ^ 6000 < 2 ^ 6010 := by
        rw [show (6010 : Nat) = 10 + 6000 by rfl, Nat.pow_add]
        exact Nat.mul_lt_mul_of_pos_right (by decide) (Nat.pow_pos (by decide))
      omega
    generalize Nat.lcm L (a.den * b.den) = S at *
    have cd : ((S : Nat) : Int) / ((L : Nat) : Int) = ((S / L : Nat) : Int) := rfl
    have ce : ((S : Nat) : Int) / (((a.den : Nat) : Int) * ((b.den : Nat) : Int)) = ((S / (a.den * b.den) : Nat) : Int) := rfl
    have q1 := quo_up d1 L0 hu
    have q2 := prod_up (a := a) (b := b) d2
    refine ⟨_, rfl, _, rfl, _, rfl, (S : Nat), (L : Nat), rfl, rfl, ⟨by omega, Nat.lt_trans (log_bd (by rw [Int.natAbs_natCast]; exact Lb) (by decide)) (by decide)⟩, _, _, rfl, rfl, ?_, ?_⟩
    · rw [Int.fdiv_eq_ediv_of_nonneg _ (by omega), cd]
      refine wide_mul (b := 601) ub ?_ (by decide) (by decide) (by decide)
      rw [Int.natAbs_natCast]
      exact Nat.lt_of_le_of_lt (Nat.div_le_self _ _) Sb
    refine ⟨_, rfl, _, rfl, a.num, b.num, rfl, rfl, wide_mul ba.1 bb.1 (by decide) (by decide) (by decide), _, rfl, _, rfl, _, rfl, (a.den : Nat), (b.den : Nat), rfl, rfl, wide_mul ba.dn bb.dn (by decide) (by decide) (by decide), (S : Nat), _, rfl, rfl, ⟨by omega, Nat.lt_trans (log_bd (n := 601) (by rw [← Int.natCast_mul, Int.natAbs_natCast]; exact db) (by decide)) (by decide)⟩, _, _, rfl, rfl, ?_, ?_⟩
    · rw [Int.fdiv_eq_ediv_of_nonneg _ (by omega), ce]
      refine wide_mul (b := 601) (lt_mul ba.1 bb.1) ?_ (by decide) (by decide) (by decide)
      rw [Int.natAbs_natCast]
      exact Nat.lt_of_le_of_lt (Nat.div_le_self _ _) Sb
    rw [Int.fdiv_eq_ediv_of_nonneg _ (by omega), Int.fdiv_eq_ediv_of_nonneg _ (by omega)]
    refine ⟨_, _, rfl, rfl, _, rfl, s3.trans sT, _, S, _, _, _, _, _, rfl, S0, ?_⟩
    rw [nxt, Rat.intCast_add, q1, q2]
    grind
  · rintro σ H3 ⟨s3, u, L, v4, v5, v6, v7, v8, rfl, dL, hu⟩
    have L0 : 0 < L := Nat.pos_of_dvd_of_pos dL (Nat.pow_pos (by decide))
    rw [lx, ly] at hu
    refine ⟨_, rfl, _, rfl, u, (L : Nat), rfl, by omega, Nat.lt_trans (log_bd (n := 601) (by rw [Int.natAbs_natCast]; exact lcm_lt dL eg) (by decide)) (by decide), fun t H4 s4 n4 h4 => ?_⟩
    rw [div_of L0 hu] at h4
    exact q t H4 (s3.trans s4) (s3.free n4) h4
end
end Kx
end
section
set_option maxHeartbeats 4000000
namespace Kx
open PySem PySem.Spec PyProof.Rows L2
/-! ### lists of lists -/
def Lsl (K : PySem.W.Frag) (H : Hp) (xs : List V) (rows : List (List Rat)) : Prop := xs.length = rows.length ∧ ∀ (i : Nat) (x : V) (r : List Rat), xs[i]? = some x → rows[i]? = some r → Ls K H x r
def Lss (K : PySem.W.Frag) (H : Hp) (v : V) (rows : List (List Rat)) : Prop := ∃ a xs, v = .ref a ∧ H a = some (.lst xs) ∧ Lsl K H xs rows
def GivesLL (K : PySem.W.Frag) (H : Hp) (Q : VK) (rows : List (List Rat)) : Prop := ∀ b H' xs, Same H H' → H b = none → H' b = some (.lst xs) → Lsl K H' xs rows → Q (.ref b) H'
section
variable {K : PySem.W.Frag} {H H' : Hp}
theorem Lsl.same {xs : List V} {rows : List (List Rat)} (h : Lsl K H xs rows) (s : Same H H') : Lsl K H' xs rows := ⟨h.1, fun i x r h1 h2 => (h.2 i x r h1 h2).same s⟩
theorem Lss.same {v : V} {rows : List (List Rat)} (h : Lss K H v rows) (s : Same H H') : Lss K H' v rows := by
  obtain ⟨a, xs, e, h1, h2⟩ := h
  exact ⟨a, xs, e, s _ _ h1, h2.same s⟩
theorem Lsl.get {xs : List V} {rows : List (List Rat)} (h : Lsl K H xs rows) {i : Nat} {x : V} (hx : xs[i]? = some x) : ∃ r, rows[i]? = some r ∧ Ls K H x r := by
  have hi : i < xs.length := by
    rcases Nat.lt_or_ge i xs.length with c | c
    · exact c
    · rw [List.getElem?_eq_none c] at hx; cases hx
  have e := List.getElem?_eq_getElem (l := rows) (i := i) (by rw [← h.1]; exact hi)
  exact ⟨_, e, h.2 i x _ hx e⟩
theorem Lsl.get' {xs : List V} {rows : List (List Rat)} (h : Lsl K H xs rows) {i : Nat} (hi : i < rows.length) : ∃ x, xs[i]? = some x ∧ Ls K H x rows[i] := by
  have e := List.getElem?_eq_getElem (l := xs) (i := i) (by rw [h.1]; exact hi)
  exact ⟨_, e, h.2 i _ _ e (List.getElem?_eq_getElem hi)⟩
theorem Lsl.snoc {xs : List V} {rows : List (List Rat)} {x : V} {r : List Rat} (h : Lsl K H xs rows) (hx : Ls K H x r) : Lsl K H (xs ++ [x]) (rows ++ [r]) := by
  refine ⟨by rw [List.length_append, List.length_append, h.1]; rfl, fun i y s h1 h2 => ?_⟩
  by_cases c : i < xs.length
  · rw [List.getElem?_append_left c] at h1
    rw [List.getElem?_append_left (by rw [← h.1]; exact c)] at h2
    exact h.2 i y s h1 h2
  · rw [List.getElem?_append_right (by omega)] at h1
    rw [List.getElem?_append_right (by rw [← h.1]; omega), ← h.1] at h2
    match hj : i - xs.length, h1, h2 with
    | 0, h1, h2 =>
      rw [← Option.some.inj (show some x = some y from h1), ← Option.some.inj (show some r = some s from h2)]
      exact hx
    | _ + 1, h1, _ => simp at h1
theorem Ls.butL {v : V} {qs : List Rat} {D : Addr} {l : List V} (h : Ls K H v qs) (hD : H D = some (.lst l)) (n : v ≠ .ref D) (s : But D H H') : Ls K H' v qs := by
  obtain ⟨a, xs, rfl, h1, h2⟩ := h
  exact ⟨a, xs, rfl, s _ _ (fun e => n (by rw [e])) h1, h2.1, fun i x q e1 e2 => (h2.2 i x q e1 e2).butL hD s⟩
end
theorem pil_at {X : Cx} {tg l : Expr} {tl : TE} (K : PySem.W.Frag) (h : X.K = K) (hl : PE X l tl) : PI X tg l (iList K tl) := by
  subst h
  exact pi_list hl
def mixL (n : Nat) (qs : List Rat) (rows : List (List Rat)) : List Rat := (List.range n).map fun i => dotL qs (rows.map fun r => r.getD i 0)
theorem mixL_len (n : Nat) (qs : List Rat) (rows : List (List Rat)) : (mixL n qs rows).length = n := by unfold mixL; rw [List.length_map, List.length_range]
def spMix (K : PySem.W.Frag) : Sp := fun vs H Q _ => ∃ (x y : V) (qs : List Rat) (rows : List (List Rat)) (n e g : Nat), vs = [x, y] ∧ Ls K H x qs ∧ Lss K H y rows ∧ 1 ≤ rows.length ∧ rows.length ≤ 32 ∧ n ≤ 30 ∧ (∀ r ∈ rows, r.length = n) ∧ 1 ≤ e ∧ 1 ≤ g ∧ e + g ≤ 200 ∧ AllZ e qs ∧ (∀ r ∈ rows, AllZ g r) ∧ GivesL K H Q (mixL n qs rows)
abbrev scMi : Scope := { kind := .function, names := [(".0", .local), ("at", .cell), ("dot", .globalImplicit), ("factors", .cell), ("lists", .cell)], isGenerator := false, isCoroutine := false }
abbrev nMx : List Str := ["factors", "lists", "at", "numbers"]
section
variable {P : Program} {w : World} {K : PySem.W.Frag} {mg : Str → Option Value} {base : Heap} {f fL o0 : Addr} {fd fdL : FuncData}
theorem scMx : FnScope nMx ["factors", "lists"] (defScope F_mixed) := ⟨rfl, rfl, rfl, by decide +kernel, rfl, by decide +kernel, by decide +kernel⟩
theorem ok_mixed (F : Fun K "mixed" "mixed" F_mixed f fd) (mn : mg "len" = none) (mr : mg "range" = none) (UD : Use P w K mg base CX0 2 "dot" ["ones", "others"] (spDot K) []) : FnOk P w K mg base CX0 3 f fd ["factors", "lists"] (spMix K) := by
  refine F.ok scMx (fun vs H Q E h => ?_) (fun cdv A outer s H vs Q E hr h => ?_)
  · obtain ⟨x, y, qs, rows, n, e, g, rfl, _⟩ := h
    rfl
  obtain ⟨x, y, qs, rows, n, e, g, rfl, lx, ly, r1, r32, n30, rn, e0, g0, eg, bq, br, q⟩ := h
  refine ⟨_, pss_one (ps_ret (pe_lc (own := [("at", 2)]) (g := gName 2) (tt := tYes) rfl scMx.nd (pi_range1 rfl mr (pa_cons (pe_callB call_len_seq rfl mn PySem.boot_len (pa_cons (pe_ix ix_list (pv 1) pe_int (fun _ _ => rfl)) pa_nil)) pa_nil)) (blkOk_by (N := nMx) (sc := defScope F_mixed) (by decide +kernel))
      (fun _ _ _ _ _ => pg_name (i := 2) scMx.nd rfl (Or.inr rfl)) (fun _ _ _ _ _ => pts_nil)
      (fun _ _ _ _ _ => pe_use UD hr rfl pass0 (pa_cons (pv 0) (pa_cons (pe_lc (own := [("numbers", 3)]) (g := gName 3) (tt := tYes) rfl scMx.nd (pil_at K rfl (pv 1)) (blkOk_by (N := nMx) (sc := scMi) (by decide +kernel))
        (fun _ _ _ _ _ => pg_name (i := 3) scMx.nd rfl (Or.inl rfl)) (fun _ _ _ _ _ => pts_nil) (fun _ _ _ _ _ => pe_ix (ixl_at K rfl) (pv 3) (pv 2) (fun _ _ => rfl))) pa_nil))))), ?_⟩
  obtain ⟨xa, xs, rfl, hx, nx⟩ := lx
  obtain ⟨ya, ys, rfl, hy, ny⟩ := ly
  have l0 := ny.1
  obtain ⟨y0, e0', hy0⟩ := ny.get' (i := 0) (by omega)
  obtain ⟨za, zs, rfl, hz, nz⟩ := hy0
  have zl : zs.length = n := by rw [nz.1]; exact rn _ (List.getElem_mem _)
  refine ⟨_, rfl, ya, ys, 0, _, rfl, rfl, SqL.of hy, at_of (j := 0) rfl e0', za, zs, rfl, .inl (SqL.of hz), ?_⟩
  refine ⟨_, rfl, by omega, by omega, fun D nD => ?_⟩
  rw [zl]
  refine lc_nums (K := K) (walk_range (lo := 0) (n := (((n : Nat) : Int)).toNat)) (mixL n qs rows) (by rw [mixL_len, Int.toNat_natCast]) nD (by omega) (fun _ _ => trivial) ?_ (fun H' zs s h m => q D H' zs s nD h m)
  rintro i r x H2 H3 k hq s2 ⟨rfl, rfl⟩ hk
  have hi : i < n := by
    rcases Nat.lt_or_ge i n with c | c
    · exact c
    · rw [List.getElem?_eq_none (by rw [mixL_len]; exact c)] at hq; cases hq
  have er : dotL qs (rows.map fun r => r.getD i 0) = r := by
    unfold mixL at hq
    rw [List.getElem?_map, List.getElem?_range hi] at hq
    exact Option.some.inj hq
  refine ⟨rfl, _, rfl, _, rfl, ya, rfl, ⟨_, SqL.of (s2 _ _ hy)⟩, fun D2 nD2 => ?_⟩
  refine lc_nums (K := K) (walk_list (K := K) (a := ya) (xs := ys)) (rows.map fun r => r.getD i 0) (by rw [List.length_map]; omega) nD2 (by omega) (fun H' s => SqL.of (s _ _ (s2 _ _ hy))) ?_ ?_
  · rintro j r' x H4 H5 k2 hq2 s4 ⟨rfl, hx2⟩ hk2
    obtain ⟨row, erow, lrow⟩ := ny.get hx2
    obtain ⟨ra, rxs, rfl, hrx, nrx⟩ := lrow
    rw [List.getElem?_map, erow] at hq2
    have e2 : row.getD i 0 = r' := Option.some.inj hq2
    have rl := rn row (List.mem_of_getElem? erow)
    obtain ⟨z, ez, nz2⟩ := nrx.get' (i := i) (by omega)
    have e3 : row[i] = r' := by rw [← e2, List.getD_eq_getElem?_getD, List.getElem?_eq_getElem (by omega)]; rfl
    rw [e3] at nz2
    exact ⟨rfl, _, rfl, _, rfl, ra, rxs, 0 + (i : Int), z, rfl, rfl, SqL.of (s4 _ _ (s2 _ _ hrx)), at_of (j := i) (by omega) ez, hk2 _ _ (Same.refl _) (nz2.same (s2.trans s4))⟩
  · intro H4 ws s4 h4 m4
    refine ⟨_, _, qs, _, e, g, rfl, ⟨xa, xs, rfl, s4 _ _ (s2 _ _ hx), nx.same (s2.trans s4)⟩, ⟨D2, ws, rfl, h4, m4⟩, ?_, e0, g0, eg, bq, ?_, ?_⟩
    · rw [List.length_map]
      omega
    · intro p hp
      obtain ⟨row, hrow, rfl⟩ := List.mem_map.mp hp
      exact (br row hrow).getD i
    · intro t H5 s5 n5 h5
      rw [er] at h5
      exact hk _ _ (s4.trans s5) (.at h5)
end
end Kx
end
section
set_option maxHeartbeats 4000000
namespace Kx
open PySem PySem.Spec PyProof.Rows L2
theorem sll_at {X : Cx} (K : PySem.W.Frag) (h : X.K = K) : SlR X (rSlL K) := by
  subst h
  exact sl_list
/-- .. with the new list seen at each turn -/
theorem lc_accD {J : It} {n : Nat} {G : Hp → Prop} {Y : Nat → Hp → V → Hp → Prop} (w : Walk J n G Y) {g : TG} {te : TE} {vs : List Nat} {σ : L2.St} {H1 : Hp} {D : Addr} {Qd : Hp → Prop} (R : Nat → Hp → V → Prop)
    (mono : ∀ i H H' y l, R i H y → H D = some (.lst l) → But D H H' → R i H' y) (nD : H1 D = none) (hn : n ≤ 900) (hG : ∀ H, Same H1 H → G H)
    (hs : ∀ i x H H' (k : V → Hp → Prop), i < n → Same H1 H → (∃ l, H D = some (.lst l)) → Y i H x H' → (∀ y H4, Same H H4 → R i H4 y → k y H4) → g x (wipe σ vs) H' fun σ2 H2 => wipe σ2 vs = wipe σ vs ∧ te σ2 H2 k)
    (hd : ∀ H xs, Same H1 H → H D = some (.lst xs) → xs.length = n → (∀ (i : Nat) y, xs[i]? = some y → R i H y) → Qd H) :
    ∃ W : Nat → Nat → Hp → Prop, (∃ m, W 0 m (upd H1 D (.lst []))) ∧ ∀ i m H, W i m H →
      (J.stop i H ∧ Qd H) ∨ (J.go i H ∧ ∃ Nx : Hp → Prop, (∀ H', Nx H' → ∃ m', m' < m ∧ W (i + 1) m' H') ∧ ∀ x H', J.yld i H x H' → g x (wipe σ vs) H' fun σ2 H2 => wipe σ2 vs = wipe σ vs ∧ tYes σ2 H2 fun b H3 =>
        if b = true then te σ2 H3 fun y H4 => ∃ acc, H4 D = some (.lst acc) ∧ acc.length < sizeLine ∧ Nx (upd H4 D (.lst (acc ++ [y]))) else Nx H3) := by
  refine lc_it w (fun i H => Same H1 H ∧ ∃ xs, H D = some (.lst xs) ∧ xs.length = i ∧ ∀ (j : Nat) y, xs[j]? = some y → R j H y) ⟨new_same nD _, [], upd_same, rfl, fun j y h => by simp at h⟩ (fun i H _ h => hG H h.1) ?_ ?_
  · rintro i x H H' hi ⟨s1, xs, hx, hl, hR⟩ y
    have z := hs i x H H' (fun y H4 => ∃ acc, H4 D = some (.lst acc) ∧ acc.length < sizeLine ∧ (Same H1 (upd H4 D (.lst (acc ++ [y]))) ∧ ∃ xs, (upd H4 D (.lst (acc ++ [y]))) D = some (.lst xs) ∧ xs.length = i + 1 ∧ ∀ (j : Nat) z, xs[j]? = some z → R j (upd H4 D (.lst (acc ++ [y]))) z)) hi s1 ⟨xs, hx⟩ y (fun y H4 s4 r4 => ?_)
    · exact z
    · have h4 := s4 _ _ hx
      refine ⟨xs, h4, small1000 (by omega), fun e o h => ?_, xs ++ [y], upd_same, by rw [List.length_append, hl]; rfl, fun j z hz => ?_⟩
      · rw [upd_ne (ne_of_none h nD)]
        exact s4 _ _ (s1 _ _ h)
      · have sm : But D H4 (upd H4 D (.lst (xs ++ [y]))) := fun e o n h => by rw [upd_ne n]; exact h
        by_cases c : j < xs.length
        · rw [List.getElem?_append_left c] at hz
          exact mono j H _ z _ (hR j z hz) hx ((But.same s4).trans sm)
        · rw [List.getElem?_append_right (by omega)] at hz
          match hj : j - xs.length, hz with
          | 0, hz =>
            rw [← Option.some.inj (show some y = some z from hz)]
            obtain rfl : j = i := by omega
            exact mono j H4 _ _ _ r4 h4 sm
          | _ + 1, hz => simp at hz
  · rintro H ⟨s1, xs, hx, hl, hR⟩
    exact hd H xs s1 hx hl hR
/-- .. lists of numbers -/
theorem lc_rows {K : PySem.W.Frag} {J : It} {n : Nat} {G : Hp → Prop} {Y : Nat → Hp → V → Hp → Prop} (w : Walk J n G Y) {g : TG} {te : TE} {vs : List Nat} {σ : L2.St} {H1 : Hp} {D : Addr} {Qd : Hp → Prop} (rows : List (List Rat))
    (hl : rows.length = n) (nD : H1 D = none) (hn : n ≤ 900) (hG : ∀ H, Same H1 H → G H)
    (hs : ∀ i r x H H' (k : V → Hp → Prop), rows[i]? = some r → Same H1 H → Y i H x H' → (∀ b H4, Same H H4 → H b = none → Ls K H4 (.ref b) r → k (.ref b) H4) → g x (wipe σ vs) H' fun σ2 H2 => wipe σ2 vs = wipe σ vs ∧ te σ2 H2 k)
    (hd : ∀ H xs, Same H1 H → H D = some (.lst xs) → Lsl K H xs rows → (∀ x ∈ xs, x ≠ .ref D) → Qd H) :
    ∃ W : Nat → Nat → Hp → Prop, (∃ m, W 0 m (upd H1 D (.lst []))) ∧ ∀ i m H, W i m H →
      (J.stop i H ∧ Qd H) ∨ (J.go i H ∧ ∃ Nx : Hp → Prop, (∀ H', Nx H' → ∃ m', m' < m ∧ W (i + 1) m' H') ∧ ∀ x H', J.yld i H x H' → g x (wipe σ vs) H' fun σ2 H2 => wipe σ2 vs = wipe σ vs ∧ tYes σ2 H2 fun b H3 =>
        if b = true then te σ2 H3 fun y H4 => ∃ acc, H4 D = some (.lst acc) ∧ acc.length < sizeLine ∧ Nx (upd H4 D (.lst (acc ++ [y]))) else Nx H3) := by
  refine lc_accD w (fun i H y => y ≠ .ref D ∧ ∀ r, rows[i]? = some r → Ls K H y r) (fun i H H' y l h hD s => ⟨h.1, fun r hr => (h.2 r hr).butL hD h.1 s⟩) nD hn hG (fun i x H H' k hi s hD y hk => ?_) (fun H xs s h l hR => hd H xs s h ⟨by rw [l, hl], fun i x q h1 h2 => (hR i x h1).2 q h2⟩ fun x hx => ?_)
  · have e := List.getElem?_eq_getElem (l := rows) (i := i) (by omega)
    obtain ⟨l, hl⟩ := hD
    refine hs i _ x H H' k e s y fun b H4 s4 n4 r4 => hk _ H4 s4 ⟨fun z => ?_, fun q hq => ?_⟩
    · rw [V.ref.inj z, hl] at n4
      cases n4
    · rw [e] at hq
      rw [← Option.some.inj hq]
      exact r4
  · obtain ⟨i, hi⟩ := List.getElem?_of_mem hx
    exact (hR i x hi).1
def powL (u : List Rat) : Nat → List Rat
  | 0 => u
  | k + 1 => mulL (powL u k) u
theorem mulL_len (u w : List Rat) : (mulL u w).length = u.length := by unfold mulL; rw [List.length_map, List.length_range]
theorem powL_len (u : List Rat) : ∀ k, (powL u k).length = u.length
  | 0 => rfl
  | k + 1 => by
    show (mulL _ _).length = _
    rw [mulL_len, powL_len u k]
theorem powL_z {e : Nat} {u : List Rat} (h : AllZ e u) (l : u.length ≤ 32) : ∀ k, AllZ ((k + 1) * e) (powL u k)
  | 0 => by rw [Nat.zero_add, Nat.one_mul]; exact h
  | k + 1 => by
    rw [Nat.add_mul (k + 1) 1 e, Nat.one_mul]
    exact mulL_z (powL_z h l k) h (by rw [powL_len]; exact l)
theorem powL_toL {n : Nat} (f : Ser) : ∀ k, powL (toL n f) k = toL n (powS f (k + 1))
  | 0 => by
    show toL n f = toL n (powS f 1)
    rw [powS_one]
  | k + 1 => by
    show mulL (powL (toL n f) k) (toL n f) = toL n (mulS (powS f (k + 1)) f)
    rw [powL_toL f k, mulL_toL]
def tabL (qs : List Rat) : List (List Rat) := (List.range qs.length).map fun k => (powL (0 :: qs) k).drop 1
theorem tabL_len (qs : List Rat) : (tabL qs).length = qs.length := by unfold tabL; rw [List.length_map, List.length_range]
theorem tabL_row {qs : List Rat} : ∀ r ∈ tabL qs, r.length = qs.length := fun r hr => by
  obtain ⟨k, _, rfl⟩ := List.mem_map.mp hr
  rw [List.length_drop, powL_len]
  rfl
theorem tabL_z {e : Nat} {qs : List Rat} (h : AllZ e qs) (l : qs.length ≤ 30) : ∀ r ∈ tabL qs, AllZ (qs.length * e) r := fun r hr => by
  obtain ⟨k, hk, rfl⟩ := List.mem_map.mp hr
  rw [List.mem_range] at hk
  have h0 : AllZ e (0 :: qs) := fun q hq => by
    rcases List.mem_cons.mp hq with rfl | hq
    · exact Zq.zero
    · exact h q hq
  intro q hq
  exact (powL_z h0 (by rw [List.length_cons]; omega) k q (List.mem_of_mem_drop hq)).mono (Nat.mul_le_mul_right _ hk)
def spTab (K : PySem.W.Frag) : Sp := fun vs H Q _ => ∃ (x : V) (qs : List Rat) (e : Nat), vs = [x] ∧ Ls K H x qs ∧ 1 ≤ qs.length ∧ qs.length ≤ 24 ∧ 1 ≤ e ∧ qs.length * e ≤ 200 ∧ AllZ e qs ∧ GivesLL K H Q (tabL qs)
abbrev nTb : List Str := ["numbers", "step", "powers", "power"]
section
variable {P : Program} {w : World} {K : PySem.W.Frag} {mg : Str → Option Value} {base : Heap} {f fL o0 : Addr} {fd fdL : FuncData}
theorem scTb : FnScope nTb ["numbers"] (defScope F_table_lines) := ⟨rfl, rfl, rfl, by decide +kernel, rfl, by decide +kernel, by decide +kernel⟩
theorem ok_tab (F : Fun K "table_lines" "table_lines" F_table_lines f fd) (k0 : KP K o0 0 1) (mZ : mg "ZERO" = some (.ref o0)) (mn : mg "len" = none) (UM : Use P w K mg base CX0 2 "multiplied" ["one", "other"] (spMulL K) []) : FnOk P w K mg base CX0 3 f fd ["numbers"] (spTab K) := by
  refine F.ok scTb (fun vs H Q E h => ?_) (fun cdv A outer s H vs Q E hr h => ?_)
  · obtain ⟨x, qs, e, rfl, _⟩ := h
    rfl
  obtain ⟨x, qs, e, rfl, ⟨xa, xs, rfl, hx, nx⟩, l1, l24, e0, el, bq, q⟩ := h
  refine ⟨_, pss_cons (ps_set (i := 1) scTb.nd rfl (Or.inl rfl) (pe_op op_cat (pe_lst (pa_cons (C8.pe_gc (v := .ref o0) rfl ⟨_, mZ, rfl⟩) pa_nil)) (pv 0)))
    (pss_cons (ps_set (i := 2) scTb.nd rfl (Or.inl rfl) (pe_lst (pa_cons (pv 1) pa_nil)))
    (pss_cons (ps_while PassesOwn.never (pt_cmpR op_lt (pe_callB call_len_seq rfl mn PySem.boot_len (pa_cons (pv 2) pa_nil)) (pe_callB call_len_seq rfl mn PySem.boot_len (pa_cons (pv 0) pa_nil)) (nomark _))
      (pss_one (ps_expr (pe_bm PySem.F.plainAttrs_list PySem.F.slot_list_append PySem.F.type_list_append mt_append (pv 2) (pa_cons (pe_use UM hr rfl pass0 (pa_cons (pe_ix ix_list (pv 2) (pe_un un_neg pe_int) (fun _ _ => rfl)) (pa_cons (pv 1) pa_nil))) pa_nil)))))
    (pss_one (ps_ret (pe_lc (own := [("power", 3)]) (g := gName 3) (tt := tYes) rfl scTb.nd (pi_list (pv 2)) (blkOk_by (N := nTb) (sc := defScope F_table_lines) (by decide +kernel))
      (fun _ _ _ _ _ => pg_name (i := 3) scTb.nd rfl (Or.inl rfl)) (fun _ _ _ _ _ => pts_nil) (fun _ _ _ _ _ => pe_slice (sll_at K rfl) (pv 3) (po_some pe_int) po_none)))))), ?_⟩
  have lx : xs.length = qs.length := nx.1
  refine ⟨(by show 1 ≤ sizeLine; decide), fun a na => ⟨_, rfl, a, xa, _, _, rfl, rfl, upd_same, new_same na _ _ _ hx, Nat.le_of_lt (small1000 (by show 1 + _ ≤ _; omega)), fun d nd => ?_⟩⟩
  have s1 := new_same na (.lst [V.ref o0])
  have s2 := s1.trans (new_same nd (.lst ([V.ref o0] ++ xs)))
  have ed : upd (upd H a (.lst [V.ref o0])) d (.lst ([V.ref o0] ++ xs)) d = some (.lst ([V.ref o0] ++ xs)) := upd_same
  have n1 : Nl K (upd (upd H a (.lst [V.ref o0])) d (.lst ([V.ref o0] ++ xs))) ([V.ref o0] ++ xs) (0 :: qs) := Nl.cons ⟨o0, rfl, .inr k0⟩ (nx.same s2)
  generalize upd (upd H a (.lst [V.ref o0])) d (.lst ([V.ref o0] ++ xs)) = H1 at s2 ed n1
  generalize [V.ref o0] ++ xs = us at ed n1
  have lu : us.length = qs.length + 1 := n1.1
  refine ⟨_, rfl, (by show 1 ≤ sizeLine; decide), fun pa np => ?_⟩
  have z0 : AllZ e (0 :: qs) := fun q hq => by
    rcases List.mem_cons.mp hq with rfl | hq
    · exact Zq.zero
    · exact bq q hq
  have s3 := new_same np (.lst [V.ref d])
  have nd3 : d ≠ pa := fun z => by rw [z, np] at ed; cases ed
  refine ⟨fun m σ H' => Same H1 H' ∧ σ = [some (.ref xa), some (.ref d), some (.ref pa), none] ∧ ∃ k ps, k ≤ qs.length ∧ 1 ≤ k ∧ m = qs.length - k ∧ H' pa = some (.lst ps) ∧ Lsl K H' ps ((List.range k).map (powL (0 :: qs))) ∧ ∀ x ∈ ps, x ≠ .ref pa, ⟨_, s3, rfl, 1, [.ref d], l1, Nat.le_refl _, rfl, upd_same, ⟨rfl, ?_⟩, ?_⟩, ?_⟩
  · intro i x r h1 h2
    match i, h1, h2 with
    | 0, h1, h2 =>
      obtain rfl : V.ref d = x := Option.some.inj h1
      obtain rfl : powL (0 :: qs) 0 = r := Option.some.inj h2
      exact ⟨d, us, rfl, s3 _ _ ed, n1.same s3⟩
    | _ + 1, h1, _ => simp at h1
  · intro x hx e
    obtain rfl := List.mem_singleton.mp hx
    exact nd3 (V.ref.inj e)
  rintro m σ H' ⟨s4, rfl, k, ps, kq, k1, rfl, hp, np', hne⟩
  have lp : ps.length = k := by rw [np'.1, List.length_map, List.length_range]
  have hx4 := s4 _ _ (s2 _ _ hx)
  refine ⟨_, rfl, pa, ps, rfl, .inl (SqL.of hp), _, rfl, xa, xs, rfl, .inl (SqL.of hx4), _, _, rfl, rfl, _, rfl, ite2 (fun c => ?_) (fun c => ?_)⟩
  · have c' : ps.length < xs.length := by
      have := of_decide_eq_true c
      omega
    refine ⟨fun σ' H2 => Same H1 H2 ∧ σ' = [some (.ref xa), some (.ref d), some (.ref pa), none] ∧ ∃ ps2, H2 pa = some (.lst ps2) ∧ Lsl K H2 ps2 ((List.range (k + 1)).map (powL (0 :: qs))) ∧ ∀ x ∈ ps2, x ≠ .ref pa, ?_, ?_⟩
    · rintro σ' H2 ⟨t1, rfl, ps2, t2, t3, t4⟩
      exact ⟨qs.length - (k + 1), by omega, t1, rfl, k + 1, ps2, by omega, by omega, rfl, t2, t3, t4⟩
    · obtain ⟨y, ey, ly⟩ := np'.get' (i := k - 1) (by rw [List.length_map, List.length_range]; omega)
      have er : ((List.range k).map (powL (0 :: qs)))[k - 1]'(by rw [List.length_map, List.length_range]; omega) = powL (0 :: qs) (k - 1) := by
        rw [List.getElem_map, List.getElem_range]
      rw [er] at ly
      have ed4 := s4 _ _ ed
      have n4 := n1.same s4
      refine ⟨_, rfl, .inl ⟨rfl, _, SqL.of hp⟩, _, rfl, _, rfl, pa, ps, -1, y, rfl, rfl, SqL.of hp, ?_, _, rfl, y, _, powL (0 :: qs) (k - 1), 0 :: qs, (k - 1 + 1) * e, e, rfl, ly, ⟨d, us, rfl, ed4, n4⟩, powL_len _ _, by rw [powL_len, List.length_cons]; omega, Nat.mul_pos (by omega) e0, e0, ?_, ?_, powL_z z0 (by rw [List.length_cons]; omega) _, z0, fun b H5 zs s5 nb hb mz => ?_⟩
      · show (ixN ps.length (-1)).bind _ = _
        have : ixN ps.length (-1) = some (ps.length - 1) := by
          unfold ixN
          rw [if_neg (by decide)]
          split
          · congr 1; omega
          · omega
        rw [this, lp]
        exact ey
      · exact Nat.le_trans (Nat.mul_le_mul_right e (by omega)) el
      · exact Nat.le_trans (Nat.le_trans (Nat.le_of_eq (Nat.one_mul e).symm) (Nat.mul_le_mul_right e l1)) el
      · have hp5 := s5 _ _ hp
        have nb' : b ≠ pa := fun z => by rw [z, hp] at nb; cases nb
        refine ⟨pa, ps, _, rfl, rfl, hp5, small1000 (by omega), ?_, rfl, ps ++ [.ref b], upd_same, ?_, ?_⟩
        · intro c o hc
          have nc : c ≠ pa := fun z => by rw [z, np] at hc; cases hc
          rw [upd_ne nc]
          exact s5 _ _ (s4 _ _ hc)
        · have bu : But pa H5 (upd H5 pa (.lst (ps ++ [V.ref b]))) := fun e o n h => by rw [upd_ne n]; exact h
          have L5 := np'.same s5
          have r1 : (List.range (k + 1)).map (powL (0 :: qs)) = (List.range k).map (powL (0 :: qs)) ++ [mulL (powL (0 :: qs) (k - 1)) (0 :: qs)] := by
            rw [List.range_succ, List.map_append]
            obtain ⟨j, rfl⟩ : ∃ j, k = j + 1 := ⟨k - 1, by omega⟩
            rfl
          rw [r1]
          refine Lsl.snoc ⟨L5.1, fun i x r h1 h2 => (L5.2 i x r h1 h2).butL hp5 (hne x (List.mem_of_getElem? h1)) bu⟩ ?_
          exact (Ls.butL ⟨b, zs, rfl, hb, mz⟩ hp5 (fun z => nb' (V.ref.inj z)) bu)
        · intro x hx
          rcases List.mem_append.mp hx with hx | hx
          · exact hne x hx
          · obtain rfl := List.mem_singleton.mp hx
            exact fun z => nb' (V.ref.inj z)
  · have c' : ¬ (ps.length : Int) < (xs.length : Nat) := of_decide_eq_false (Bool.eq_false_iff.mpr c)
    have kl : k = qs.length := by omega
    refine ⟨_, rfl, pa, rfl, ⟨_, SqL.of hp⟩, fun D nD => ?_⟩
    refine lc_rows (K := K) (walk_list (K := K) (a := pa) (xs := ps)) (tabL qs) (by rw [tabL_len]; omega) nD (by omega) (fun H' s => SqL.of (s _ _ hp)) ?_ (fun H5 zs s h m _ => q D H5 zs ((s2.trans s4).trans s) ((s2.trans s4).free nD) h m)
    rintro i r x H2 H3 k' hq s5 ⟨rfl, hx2⟩ hk
    obtain ⟨r0, er0, lr0⟩ := np'.get hx2
    have hi : i < k := by
      rcases Nat.lt_or_ge i k with c | c
      · exact c
      · rw [List.getElem?_eq_none (by rw [List.length_map, List.length_range]; exact c)] at er0; cases er0
    have e1 : powL (0 :: qs) i = r0 := by
      rw [List.getElem?_map, List.getElem?_range hi] at er0
      exact Option.some.inj er0
    have e2 : (powL (0 :: qs) i).drop 1 = r := by
      unfold tabL at hq
      rw [List.getElem?_map, List.getElem?_range (by omega)] at hq
      exact Option.some.inj hq
    obtain ⟨ra, rxs, rfl, hra, nra⟩ := lr0.same s5
    refine ⟨rfl, _, rfl, 1, rfl, ra, rxs, rfl, SqL.of hra, fun p np5 => ?_⟩
    rw [show cutV rxs (some 1) none = rxs.drop 1 from cut_drop rxs 1]
    refine hk p _ (new_same np5 _) np5 ⟨p, _, rfl, upd_same, ?_⟩
    rw [← e2, e1]
    exact (nra.drop 1).same (new_same np5 _)
end
end Kx
end
section
set_option maxHeartbeats 4000000
namespace Kx
open PySem PySem.Spec PyProof.Rows L2 RZ
/-! ### steps as series -/
def toT (n : Nat) (F : Ser) : List Rat := (List.range n).map fun i => F (i + 1)
def serS (qs : List Rat) : Ser := ser (0 :: qs)
theorem toT_len (n : Nat) (F : Ser) : (toT n F).length = n := by unfold toT; rw [List.length_map, List.length_range]
theorem toT_get {n i : Nat} {F : Ser} (h : i < n) : (toT n F)[i]? = some (F (i + 1)) := by
  unfold toT
  rw [List.getElem?_map, List.getElem?_range h]
  rfl
theorem toT_toL {n : Nat} (F : Ser) : F 0 :: toT n F = toL (n + 1) F := by
  unfold toT toL
  rw [List.range_succ_eq_map, List.map_cons, List.map_map]
  rfl
theorem toT_drop {n : Nat} (F : Ser) : toT n F = (toL (n + 1) F).drop 1 := by rw [← toT_toL]; rfl
theorem toT_eq {n : Nat} {F G : Ser} (h : EqTo (n + 1) F G) : toT n F = toT n G := List.map_congr_left fun i hi => h (i + 1) (by have := List.mem_range.mp hi; omega)
theorem toT_take {n m : Nat} (F : Ser) (h : m ≤ n) : (toT n F).take m = toT m F := by
  unfold toT
  rw [← List.map_take, List.take_range, Nat.min_eq_left h]
theorem serS_zero (qs : List Rat) : serS qs 0 = 0 := rfl
theorem serS_toT {n : Nat} {F : Ser} (h : F 0 = 0) : EqTo (n + 1) (serS (toT n F)) F := by
  unfold serS
  have := toT_toL (n := n) F
  rw [h] at this
  rw [this]
  exact ser_toL
theorem toT_serS (qs : List Rat) : toT qs.length (serS qs) = qs := by
  rw [toT_drop]
  unfold serS
  have : qs.length + 1 = (0 :: qs).length := rfl
  rw [this, toL_ser]
  rfl
/-- a row, or a step with its number at the place 0, behind a step -/
def bhdL (us rs : List Rat) : List Rat := toL us.length (cmpS (ser us) (serS rs))
def cmpL (qs rs : List Rat) : List Rat := toT qs.length (cmpS (serS qs) (serS rs))
theorem bhdL_len (us rs : List Rat) : (bhdL us rs).length = us.length := toL_len _ _
theorem cmpL_len (qs rs : List Rat) : (cmpL qs rs).length = qs.length := toT_len _ _
theorem pow_at {rs : List Rat} {j i : Nat} (h : i < rs.length) : ((powL (0 :: rs) j).drop 1).getD i 0 = powS (serS rs) (j + 1) (i + 1) := by
  have e : (0 :: rs) = toL (rs.length + 1) (serS rs) := (toL_ser (0 :: rs)).symm
  rw [List.getD_eq_getElem?_getD, List.getElem?_drop]
  rw [e, powL_toL, Nat.add_comm 1 i, toL_get (by omega)]
  rfl
theorem mix_at {qs rs : List Rat} (l : qs.length = rs.length) {i : Nat} (hi : i < rs.length) (q0 : Rat) : dotL qs ((tabL rs).map fun r => r.getD i 0) = cmpS (ser (q0 :: qs)) (serS rs) (i + 1) := by
  rw [← cmpS_to (serS_zero rs) (show i + 1 < rs.length + 1 by omega), sum_first]
  unfold dotL
  rw [List.length_map, tabL_len, l, Nat.min_self, dotT_sum]
  have z : ser (q0 :: qs) 0 * powS (serS rs) 0 (i + 1) = 0 := Rat.mul_zero _
  rw [z, Rat.zero_add]
  refine sum_congr fun j hj => ?_
  have e : ser ((tabL rs).map fun r => r.getD i 0) j = powS (serS rs) (j + 1) (i + 1) := by
    rw [← pow_at hi]
    show List.getD _ _ _ = _
    unfold tabL
    rw [List.getD_eq_getElem?_getD, List.getElem?_map, List.getElem?_map, List.getElem?_range hj]
    rfl
  rw [e]
  rfl
theorem mix_step {qs rs : List Rat} (l : qs.length = rs.length) : mixL rs.length qs (tabL rs) = cmpL qs rs := by
  unfold cmpL
  rw [l]
  exact List.map_congr_left fun i hi => mix_at l (List.mem_range.mp hi) 0
theorem mix_row {q0 : Rat} {qs rs : List Rat} (l : qs.length = rs.length) : q0 :: mixL rs.length qs (tabL rs) = bhdL (q0 :: qs) rs := by
  unfold bhdL
  rw [List.length_cons, ← toT_toL, cmpS_zero, l]
  congr 1
  exact List.map_congr_left fun i hi => mix_at l (List.mem_range.mp hi) q0
theorem cmpL_bhd (qs rs : List Rat) : bhdL (0 :: qs) rs = 0 :: cmpL qs rs := by
  unfold bhdL cmpL
  rw [List.length_cons, ← toT_toL, cmpS_zero]
  rfl
theorem dotL_z {e g : Nat} {us ws : List Rat} (h : AllZ e us) (h' : AllZ g ws) (l : min us.length ws.length ≤ 32) : Zq (e + g) (dotL us ws) := (dotT_z h h' _).red l
theorem mixL_z {n e g : Nat} {qs : List Rat} {rows : List (List Rat)} (h : AllZ e qs) (h' : ∀ r ∈ rows, AllZ g r) (l : rows.length ≤ 32) : AllZ (e + g) (mixL n qs rows) := by
  intro q hq
  obtain ⟨i, _, rfl⟩ := List.mem_map.mp hq
  refine dotL_z h (fun p hp => ?_) (by rw [List.length_map]; omega)
  obtain ⟨r, hr, rfl⟩ := List.mem_map.mp hp
  exact (h' r hr).getD i
theorem cmpL_z {e g : Nat} {qs rs : List Rat} (l : qs.length = rs.length) (l2 : rs.length ≤ 24) (h : AllZ e qs) (h' : AllZ g rs) : AllZ (e + rs.length * g) (cmpL qs rs) := by
  rw [← mix_step l]
  exact mixL_z h (tabL_z h' (by omega)) (by rw [tabL_len]; omega)
theorem bhdL_z {e g : Nat} {us rs : List Rat} (l : us.length = rs.length + 1) (l2 : rs.length ≤ 24) (h : AllZ e us) (h' : AllZ g rs) : AllZ (e + rs.length * g) (bhdL us rs) := by
  match us, l, h with
  | q0 :: qs, l, h =>
    have l' : qs.length = rs.length := by rw [List.length_cons] at l; omega
    rw [← mix_row l']
    intro q hq
    rcases List.mem_cons.mp hq with rfl | hq
    · exact (h _ List.mem_cons_self).mono (Nat.le_add_right _ _)
    · exact mixL_z (fun r hr => h r (List.mem_cons_of_mem _ hr)) (tabL_z h' (by omega)) (by rw [tabL_len]; omega) q hq
end Kx
end
section
set_option maxHeartbeats 4000000
namespace Kx
open PySem PySem.Spec PyProof.Rows L2 RZ
def spPut (K : PySem.W.Frag) : Sp := fun vs H Q _ => ∃ (x y : V) (qs rs : List Rat) (e g : Nat), vs = [x, y] ∧ Ls K H x qs ∧ Ls K H y rs ∧ qs.length = rs.length ∧ 1 ≤ rs.length ∧ rs.length ≤ 24 ∧ 1 ≤ e ∧ 1 ≤ g ∧ e + rs.length * g ≤ 200 ∧ AllZ e qs ∧ AllZ g rs ∧ GivesL K H Q (cmpL qs rs)
def spRbh (K : PySem.W.Frag) : Sp := fun vs H Q _ => ∃ (x y : V) (q0 : Rat) (qs rs : List Rat) (e g : Nat), vs = [x, y] ∧ Ls K H x (q0 :: qs) ∧ Lss K H y (tabL rs) ∧ qs.length = rs.length ∧ 1 ≤ rs.length ∧ rs.length ≤ 24 ∧ 1 ≤ e ∧ 1 ≤ g ∧ e + rs.length * g ≤ 200 ∧ AllZ e (q0 :: qs) ∧ AllZ g rs ∧ GivesL K H Q (bhdL (q0 :: qs) rs)
def spOpS (K : PySem.W.Frag) (S CU : Addr) : Sp := fun vs H Q E => ∃ (x y : V) (qs rs : List Rat), vs = [x, y] ∧ StAt K S H x qs ∧ StAt K S H y rs ∧ (qs.length ≠ rs.length → Air H CU (fs2 "UnlikeOrders" "one" "other" [.int (qs.length : Int), .int (rs.length : Int)]) E) ∧
  (qs.length = rs.length → ∃ e g : Nat, 1 ≤ e ∧ 1 ≤ g ∧ e + rs.length * g ≤ 200 ∧ AllZ e qs ∧ AllZ g rs ∧ GivesS K S H Q (cmpL qs rs))
def spBhR (K : PySem.W.Frag) (C S CU : Addr) : Sp := fun vs H Q E => ∃ (x y : V) (us rs : List Rat), vs = [x, y] ∧ RwAt K C H x us ∧ StAt K S H y rs ∧ (us.length ≠ rs.length + 1 → Air H CU (fs2 "UnlikeOrders" "one" "other" [.int ((us.length : Int) - 1), .int (rs.length : Int)]) E) ∧
  (us.length = rs.length + 1 → ∃ e g : Nat, 1 ≤ e ∧ 1 ≤ g ∧ e + rs.length * g ≤ 200 ∧ AllZ e us ∧ AllZ g rs ∧ GivesR K C H Q (bhdL us rs))
section
variable {P : Program} {w : World} {K : PySem.W.Frag} {mg : Str → Option Value} {base : Heap} {f C S CF CO CU o0 : Addr} {fd : FuncData}
theorem scPb : FnScope ["one", "other"] ["one", "other"] (defScope F_put_behind) := ⟨rfl, rfl, rfl, by decide +kernel, rfl, by decide +kernel, by decide +kernel⟩
theorem ok_put (F : Fun K "put_behind" "put_behind" F_put_behind f fd) (UM : Use P w K mg base CX0 3 "mixed" ["factors", "lists"] (spMix K) []) (UT : Use P w K mg base CX0 3 "table_lines" ["numbers"] (spTab K) []) : FnOk P w K mg base CX0 4 f fd ["one", "other"] (spPut K) := by
  refine F.ok scPb (fun vs H Q E h => ?_) (fun cdv A outer s H vs Q E hr h => ?_)
  · obtain ⟨x, y, qs, rs, e, g, rfl, _⟩ := h
    rfl
  obtain ⟨x, y, qs, rs, e, g, rfl, lx, ly, le, l1, l24, e0, g0, eg, bq, br, q⟩ := h
  refine ⟨_, pss_one (ps_ret (pe_use UM hr rfl pass0 (pa_cons (pv 0) (pa_cons (pe_use UT hr rfl pass0 (pa_cons (pv 1) pa_nil)) pa_nil)))), ?_⟩
  refine ⟨_, rfl, _, rfl, y, rs, g, rfl, ly, l1, l24, g0, by omega, br, fun b H1 xs s1 nb hb mb => ?_⟩
  refine ⟨x, _, qs, tabL rs, rs.length, e, rs.length * g, rfl, lx.same s1, ⟨b, xs, rfl, hb, mb⟩, by rw [tabL_len]; exact l1, by rw [tabL_len]; omega, by omega, tabL_row, e0, Nat.mul_pos l1 g0, eg, bq, tabL_z br (by omega), fun d H2 ys s2 nd hd md => ?_⟩
  rw [mix_step le] at md
  exact q d H2 ys (s1.trans s2) (s1.free nd) hd md
theorem scSm : FnScope ["self", "other"] ["self", "other"] (defScope C_Step_mul) := ⟨rfl, rfl, rfl, by decide +kernel, rfl, by decide +kernel, by decide +kernel⟩
theorem ok_smul (G : Fun K "__mul__" "Step.__mul__" C_Step_mul f fd) (k : StepK P w K mg base C S CF CO) (UO : Use P w K mg base (L2.CX P w) 3 "check_orders" ["one", "other"] (spCor K CU) []) (UT : Use P w K mg base CX0 4 "put_behind" ["one", "other"] (spPut K) []) (UN : MUse P w K mg base CX0 1 S "numbers" ["self"] (spNuS K S) []) :
    FnOk P w K mg base (L2.CX P w) 8 f fd ["self", "other"] (spOpS K S CU) := by
  refine G.okX scSm (fun vs H Q E h => ?_) (fun cdv A outer s H vs Q E hr h => ?_)
  · obtain ⟨x, y, qs, rs, rfl, _⟩ := h
    rfl
  obtain ⟨v, u, qs, rs, rfl, hR, hS, h1, h2⟩ := h
  obtain ⟨x, dx, b, xs, fs, ev, hx, hb, nx, f1, f2, l2, l24⟩ := hR.num
  obtain ⟨y, dy, c, ys, gs, eu, hy, hc, ny, g1, g2, m2, m24⟩ := hS.num
  have g4 : gs.lookup ("numbers" : Str) = none := by
    obtain ⟨_, _, _, _, _, _, _, e, h, _⟩ := hS
    rw [eu] at e
    obtain rfl := V.ref.inj e
    rw [hy] at h
    cases h
    rfl
  obtain ⟨fI, fdI, M, FI, bI⟩ := k.ini
  refine ⟨_, pss_cons (ps_expr (pe_use (E := E) UO (hr.mono (by decide)) rfl (passes_call (takes_of rfl rfl rfl rfl) (fun _ _ _ _ h => h)) (pa_cons (pv 0) (pa_cons (pv 1) pa_nil))))
    (pss_one (ps_ret (pe_make (E := E) M FI hr rfl k.m bI .nil (passes_call (takes_of rfl rfl rfl rfl) (fun _ _ _ _ h => h)) (pa_cons (pe_use UT (hr.mono (by decide)) rfl pass0 (pa_cons (pe_fld (pv 0) rfl) (pa_cons (pe_mu0 UN (pv 1) (hr.mono (by decide)) pass0) pa_nil))) pa_nil)))), ?_⟩
  subst ev
  subst eu
  refine ⟨_, rfl, _, rfl, .ref x, .ref y, (qs.length : Int), (rs.length : Int), rfl, ⟨x, S, dx, fs, rfl, hx, k.c, k.nA _ (by simp [stN]), f2⟩, ⟨y, S, dy, gs, rfl, hy, k.c, k.nA _ (by simp [stN]), g2⟩, fun e => ?_, fun e => h1 (fun z => e (by rw [z]))⟩
  have le : qs.length = rs.length := by omega
  obtain ⟨e, g, e0, g0, eg, bq, br, gv⟩ := h2 le
  refine ⟨_, rfl, x, S, dx, _, _, rfl, hx, k.c, k.nA _ (by simp [stN]), f1, _, rfl, y, dy, _, rfl, hy, g4, .ref y, rs, rfl, hS, fun d H1 zs s1 n1 e1 m1 => ?_⟩
  refine ⟨_, _, qs, rs, e, g, rfl, ⟨b, xs, rfl, s1 _ _ hb, nx.same s1⟩, ⟨d, zs, rfl, e1, m1⟩, le, by omega, m24, e0, g0, eg, bq, br, fun d2 H2 ws s2 n2 e2 m2 => ?_⟩
  exact step_new (s1.trans s2) (.inl e2) m2 (by rw [cmpL_len]; exact l2) (by rw [cmpL_len]; exact l24) gv
end
end Kx
end
section
set_option maxHeartbeats 4000000
namespace Kx
open PySem PySem.Spec PyProof.Rows L2 RZ
/-! ### the law's putting in -/
theorem powS_z {g : Nat} {rs : List Rat} (h : AllZ g rs) (g0 : 1 ≤ g) (l : rs.length ≤ 30) (l1 : 1 ≤ rs.length) {a i : Nat} (ha : a ≤ rs.length) (hi : i < rs.length + 1) : Zq (rs.length * g) (powS (serS rs) a i) := by
  have z0 : AllZ g (0 :: rs) := fun q hq => by
    rcases List.mem_cons.mp hq with rfl | hq
    · exact Zq.zero
    · exact h q hq
  match a, ha with
  | 0, _ =>
    show Zq _ (if i = 0 then 1 else 0)
    split
    · exact Zq.one (Nat.mul_pos l1 g0)
    · exact Zq.zero
  | k + 1, ha =>
    have e : (0 :: rs) = toL (rs.length + 1) (serS rs) := (toL_ser (0 :: rs)).symm
    have z := powL_z z0 (by rw [List.length_cons]; omega) k
    rw [e, powL_toL] at z
    exact (z _ (List.mem_of_getElem? (toL_get hi))).mono (Nat.mul_le_mul_right _ ha)
/-- what the first m numbers give -/
def parS (us rs : List Rat) (m : Nat) : Ser := fun i => sumN (fun a => ser us a * powS (serS rs) a i) m
theorem parS_z {e g : Nat} {us rs : List Rat} (h : AllZ e us) (h' : AllZ g rs) (g0 : 1 ≤ g) (l : rs.length ≤ 30) (l1 : 1 ≤ rs.length) {i : Nat} (hi : i < rs.length + 1) : ∀ m, m ≤ rs.length + 1 → Zw (e + rs.length * g) m 1024 (parS us rs m i)
  | 0, _ => Zw.zero
  | m + 1, hm => (parS_z h h' g0 l l1 hi m (by omega)).add ((h.getD m).mul (powS_z h' g0 l l1 (by omega) hi))
theorem parS_end {us rs : List Rat} (l : us.length = rs.length + 1) : toL (rs.length + 1) (parS us rs (rs.length + 1)) = bhdL us rs := by
  unfold bhdL
  rw [l]
  exact toL_eq fun i hi => cmpS_to (serS_zero rs) hi
theorem parS_one (u0 : Rat) (us rs : List Rat) (n : Nat) : toL (n + 1) (parS (u0 :: us) rs 1) = u0 :: List.replicate n 0 := by
  rw [← toT_toL]
  have e0 : parS (u0 :: us) rs 1 0 = u0 := by
    show (0 : Rat) + u0 * 1 = u0
    rw [Rat.zero_add, Rat.mul_one]
  rw [e0]
  congr 1
  apply List.ext_getElem?
  intro i
  rcases Nat.lt_or_ge i n with c | c
  · rw [toT_get c, List.getElem?_replicate, if_pos c]
    show some ((0 : Rat) + _ * 0) = _
    rw [Rat.mul_zero, Rat.add_zero]
  · rw [List.getElem?_eq_none (by rw [toT_len]; exact c), List.getElem?_eq_none (by rw [List.length_replicate]; exact c)]
theorem toL_zip {n : Nat} (f g : Ser) : (toL n f).zipWith (· + ·) (toL n g) = toL n (addS f g) := by
  apply List.ext_getElem?
  intro i
  rw [List.getElem?_zipWith]
  rcases Nat.lt_or_ge i n with c | c
  · rw [toL_get c, toL_get c, toL_get c]
    rfl
  · rw [List.getElem?_eq_none (l := toL n f) (by rw [toL_len]; exact c), List.getElem?_eq_none (l := toL n (addS f g)) (by rw [toL_len]; exact c)]
theorem toL_mul {n : Nat} (f : Ser) (t : Rat) : (toL n f).map (· * t) = toL n (fun i => f i * t) := by
  unfold toL
  rw [List.map_map]
  rfl
/-- a list of numbers comes back -/
def GivesV (K : PySem.W.Frag) (H : Hp) (Q : VK) (rs : List Rat) : Prop := ∀ v H', Same H H' → Ls K H' v rs → Q v H'
def spPutL (K : PySem.W.Frag) : Sp := fun vs H Q _ => ∃ (x y : V) (us rs : List Rat) (e g : Nat), vs = [x, y] ∧ Ls K H x us ∧ Ls K H y (0 :: rs) ∧ us.length = rs.length + 1 ∧ 1 ≤ rs.length ∧ rs.length ≤ 24 ∧ 1 ≤ e ∧ 1 ≤ g ∧ e + rs.length * g ≤ 130 ∧ AllZ e us ∧ AllZ g rs ∧ GivesV K H Q (bhdL us rs)
def spBehL (K : PySem.W.Frag) : Sp := fun vs H Q _ => ∃ (x y : V) (qs rs : List Rat) (e g : Nat), vs = [x, y] ∧ Ls K H x qs ∧ Ls K H y rs ∧ qs.length = rs.length ∧ 1 ≤ rs.length ∧ rs.length ≤ 24 ∧ 1 ≤ e ∧ 1 ≤ g ∧ e + rs.length * g ≤ 130 ∧ AllZ e qs ∧ AllZ g rs ∧ GivesV K H Q (cmpL qs rs)
abbrev nPu : List Str := ["_law_u", "_law_f", "_law_some", "_law_high", "_law_j"]
section
variable {P : Program} {w : World} {K : PySem.W.Frag} {mg : Str → Option Value} {base : Heap} {f : Addr} {fd : FuncData}
theorem scPu : FnScope nPu ["_law_u", "_law_f"] (defScope L_put) := ⟨rfl, rfl, rfl, by decide +kernel, rfl, by decide +kernel, by decide +kernel⟩
theorem ok_lput (G : Fun K "_law_put" "_law_put" L_put f fd) (mn : mg "len" = none) (mr : mg "range" = none) (ml : mg "list" = none) (UT : Use P w K mg base CX0 3 "_law_times" ["_law_u", "_law_w"] (spTimes K) []) (UP : Use P w K mg base CX0 3 "_law_plus" ["_law_u", "_law_w"] (spPlus K) []) (US : Use P w K mg base CX0 3 "_law_scale" ["_law_u", "_law_c"] (spScale K) []) :
    FnOk P w K mg base CX0 4 f fd ["_law_u", "_law_f"] (spPutL K) := by
  refine G.ok scPu (fun vs H Q E h => ?_) (fun cdv A outer s H vs Q E hr h => ?_)
  · obtain ⟨x, y, us, rs, e, g, rfl, _⟩ := h
    rfl
  obtain ⟨x, y, us, rs, e, g, rfl, ⟨xa, xs, rfl, hx, nx⟩, ⟨ya, ys, rfl, hy, ny⟩, le, l1, l24, e0, g0, eg, bq, br, q⟩ := h
  refine ⟨_, C8.pss_cut (ps_set (i := 2) scPu.nd rfl (Or.inl rfl) (pe_op op_cat (pe_lst (pa_cons (pe_ix ix_list (pv 0) pe_int (fun _ _ => rfl)) pa_nil)) (pe_op op_rep (pe_lst (pa_cons (pe_tup (pa_cons pe_int (pa_cons pe_int pa_nil))) pa_nil)) (pe_op op_sub (pe_callB call_len_seq rfl mn PySem.boot_len (pa_cons (pv 0) pa_nil)) pe_int))))
    (C8.pss_cut (ps_set (i := 3) scPu.nd rfl (Or.inl rfl) (pe_callTy call_list_of rfl ml (by decide +kernel) (pa_cons (pv 1) pa_nil)))
    (pss_cons (ps_for PassesOwn.never rfl (pi_range2 rfl mr (pa_cons pe_int (pa_cons (pe_callB call_len_seq rfl mn PySem.boot_len (pa_cons (pv 0) pa_nil)) pa_nil))) (pg_name (i := 4) scPu.nd rfl (Or.inl rfl))
      (C8.pss_cut (ps_if (pt_cmpR op_ne (pe_ix ix_tup (pe_ix ix_list (pv 0) (pv 4) (fun _ _ => rfl)) pe_int (fun _ _ => rfl)) pe_int (nomark _))
          (pss_one (ps_set (i := 2) scPu.nd rfl (Or.inl rfl) (pe_use UP hr rfl pass0 (pa_cons (pv 2) (pa_cons (pe_use US hr rfl pass0 (pa_cons (pv 3) (pa_cons (pe_ix ix_list (pv 0) (pv 4) (fun _ _ => rfl)) pa_nil))) pa_nil))))) pss_nil)
      (pss_one (ps_if (pt_cmpR op_lt (pv 4) (pe_op op_sub (pe_callB call_len_seq rfl mn PySem.boot_len (pa_cons (pv 0) pa_nil)) pe_int) (nomark _))
          (pss_one (ps_set (i := 3) scPu.nd rfl (Or.inl rfl) (pe_use UT hr rfl pass0 (pa_cons (pv 3) (pa_cons (pv 1) pa_nil))))) pss_nil))))
    (pss_one (ps_ret (pv 2))))), ?_⟩
  have lx : xs.length = us.length := nx.1
  have ly : ys.length = rs.length + 1 := ny.1
  obtain ⟨u0, us', rfl⟩ : ∃ u0 us', us = u0 :: us' := by
    cases us with
    | nil => simp at le
    | cons u0 us' => exact ⟨u0, us', rfl⟩
  obtain ⟨x0, ex0, nx0⟩ := nx.get' (i := 0) (by rw [List.length_cons]; omega)
  have n30 : rs.length ≤ 30 := by omega
  refine ⟨fun σ H' => Same H H' ∧ ∃ v2, σ = [some (.ref xa), some (.ref ya), some v2, none, none] ∧ Ls K H' v2 (toL (rs.length + 1) (parS (u0 :: us') rs 1)), ?_, ?_⟩
  · refine ⟨_, rfl, xa, xs, 0, x0, rfl, rfl, SqL.of hx, at_of (j := 0) rfl ex0, (by show 1 ≤ sizeLine; decide), fun a na => ⟨(by show 2 ≤ sizeLine; decide), fun t nt => ⟨(by show 1 ≤ sizeLine; decide), fun c nc => ?_⟩⟩⟩
    have s1 := new_same na (HO.lst [x0])
    have s2 := new_same nt (HO.tup [.int 0, .int 1])
    have s3 := new_same nc (HO.lst [V.ref t])
    have hx3 := s3 _ _ (s2 _ _ (s1 _ _ hx))
    refine ⟨_, rfl, xa, xs, rfl, .inl (SqL.of hx3), ((xs.length : Nat) : Int), 1, rfl, rfl, c, ((xs.length : Nat) : Int) - 1, [.ref t], rfl, rfl, upd_same, by omega, by omega, (by show 1 * _ ≤ sizeLine; exact Nat.le_of_lt (small1000 (by omega))), fun d nd => ?_⟩
    have rep : (List.replicate (((xs.length : Nat) : Int) - 1).toNat [V.ref t]).flatten = List.replicate rs.length (.ref t) := by
      rw [List.flatten_replicate_singleton]
      congr 1
      omega
    rw [rep]
    have s4 := new_same nd (HO.lst (List.replicate rs.length (V.ref t)))
    refine ⟨a, d, _, _, rfl, rfl, s4 _ _ (s3 _ _ (s2 _ _ upd_same)), upd_same, Nat.le_of_lt (small1000 (by rw [List.length_replicate]; show 1 + _ ≤ _; omega)), fun k nk => ?_⟩
    have s5 := new_same nk (HO.lst ([x0] ++ List.replicate rs.length (V.ref t)))
    have sA := s1.trans (s2.trans (s3.trans (s4.trans s5)))
    have z0 : Nq K _ (.ref t) 0 := .at (K := K) ((s3.trans (s4.trans s5)) _ _ (show _ = some (rT 0) from upd_same))
    refine ⟨sA, _, rfl, k, _, rfl, upd_same, ?_⟩
    rw [parS_one]
    exact Nl.cons (nx0.same sA) (rep_nl z0 _)
  rintro σ H1 ⟨s1, v2, rfl, L2'⟩
  refine ⟨fun σ H' => Same H H' ∧ ∃ v2 v3, σ = [some (.ref xa), some (.ref ya), some v2, some v3, none] ∧ Ls K H' v2 (toL (rs.length + 1) (parS (u0 :: us') rs 1)) ∧ Ls K H' v3 (powL (0 :: rs) 0), ?_, ?_⟩
  · refine ⟨_, rfl, ya, ys, rfl, .inl (SqL.of (s1 _ _ hy)), fun b nb => ⟨s1.trans (new_same nb _), _, _, rfl, L2'.same (new_same nb _), b, ys, rfl, upd_same, (ny.same s1).same (new_same nb _)⟩⟩
  clear s1 L2'
  rintro σ H1 ⟨s1, v2, v3, rfl, M2, M3⟩
  refine ⟨_, rfl, xa, xs, rfl, .inl (SqL.of (s1 _ _ hx)), 1, ((xs.length : Nat) : Int), rfl, ⟨by omega, by omega, by omega, by omega⟩, for_range (lo := 1) (n := (((xs.length : Nat) : Int) - 1).toNat) (fun t σ H' => Same H H' ∧ ∃ v2 v3 v4, σ = [some (.ref xa), some (.ref ya), some v2, some v3, v4] ∧ Ls K H' v2 (toL (rs.length + 1) (parS (u0 :: us') rs (t + 1))) ∧ Ls K H' v3 (powL (0 :: rs) (min t (rs.length - 1)))) ⟨s1, v2, v3, none, rfl, M2, by rw [Nat.zero_min]; exact M3⟩ ?_ ?_⟩
  · clear s1 M2 M3 v2 v3
    rintro t σ H2 ht ⟨s2, v2, v3, v4, rfl, M2, M3⟩
    have ht' : t < rs.length := by omega
    rw [Nat.min_eq_left (by omega)] at M3
    have hx2 := s2 _ _ hx
    obtain ⟨y, ey, nyv⟩ := (nx.same s2).get' (i := t + 1) (by omega)
    have ga := getD_at (qs := u0 :: us') (j := t + 1) (by omega)
    have zy : Zq e (u0 :: us')[t + 1] := bq _ (List.getElem_mem _)
    generalize (u0 :: us')[t + 1] = r at nyv ga zy
    obtain ⟨va, rfl, sa, _⟩ := nyv.sq
    have pz : AllZ ((t + 1) * g) (powL (0 :: rs) t) := powL_z (fun q hq => by
      rcases List.mem_cons.mp hq with rfl | hq
      · exact Zq.zero
      · exact br q hq) (by rw [List.length_cons]; omega) t
    have tg : (t + 1) * g ≤ rs.length * g := Nat.mul_le_mul_right _ ht'
    have pe : powL (0 :: rs) t = toL (rs.length + 1) (powS (serS rs) (t + 1)) := by
      have e : (0 :: rs) = toL (rs.length + 1) (serS rs) := (toL_ser (0 :: rs)).symm
      rw [e, powL_toL]
    have nxt : toL (rs.length + 1) (parS (u0 :: us') rs (t + 1 + 1)) = (toL (rs.length + 1) (parS (u0 :: us') rs (t + 1))).zipWith (· + ·) ((powL (0 :: rs) t).map (· * r)) := by
      rw [pe, toL_mul, toL_zip]
      refine toL_eq fun i hi => ?_
      show parS (u0 :: us') rs (t + 1) i + (u0 :: us').getD (t + 1) 0 * _ = _ + _ * r
      rw [ga, Rat.mul_comm r]
    have at1 : atI xs (1 + (t : Int)) = some (.ref va) := at_of (j := t + 1) (by omega) ey
    refine ⟨fun σ H' => Same H H' ∧ ∃ v2, σ = [some (.ref xa), some (.ref ya), some v2, some v3, some (.int (1 + (t : Int)))] ∧ Ls K H' v2 (toL (rs.length + 1) (parS (u0 :: us') rs (t + 1 + 1))) ∧ Ls K H' v3 (powL (0 :: rs) t), ?_, ?_⟩
    · refine ⟨_, rfl, _, rfl, xa, xs, _, _, rfl, rfl, SqL.of hx2, at1, va, _, 0, _, rfl, rfl, sa, rfl, rfl, _, rfl, ?_⟩
      by_cases ca : r.num = 0
      · have z : r = 0 := Rat.num_eq_zero.mp ca
        rw [decide_eq_true (congrArg V.int ca)]
        refine iteF ⟨s2, v2, rfl, ?_, M3⟩
        have : toL (rs.length + 1) (parS (u0 :: us') rs (t + 1 + 1)) = toL (rs.length + 1) (parS (u0 :: us') rs (t + 1)) := toL_eq fun i hi => by
          show parS (u0 :: us') rs (t + 1) i + (u0 :: us').getD (t + 1) 0 * _ = _
          rw [ga, z, Rat.zero_mul, Rat.add_zero]
        rw [this]
        exact M2
      rw [decide_eq_false (fun e => ca (V.int.inj e))]
      refine iteT ⟨_, rfl, _, rfl, _, rfl, _, rfl, xa, xs, _, _, rfl, rfl, SqL.of hx2, at1, _, _, powL (0 :: rs) t, r, rfl, M3, nyv, by rw [powL_len, List.length_cons]; omega, fun p hp => ((pz p hp).bq (Nat.mul_pos (Nat.succ_pos _) g0)).mono (by omega), (zy.bq e0).mono (by omega), fun b H3 zs s3 nb hb mb => ?_⟩
      refine ⟨_, _, _, _, rfl, M2.same s3, ⟨b, zs, rfl, hb, mb⟩, by rw [toL_len, List.length_map, powL_len]; rfl, by rw [toL_len]; omega, fun p hp => ?_, fun p hp => ?_, fun b2 H4 zs2 s4 nb2 hb2 mb2 => ?_⟩
      · obtain ⟨i, hi, rfl⟩ := List.mem_map.mp hp
        exact (((parS_z bq br g0 n30 l1 (List.mem_range.mp hi) (t + 1) (by omega)).red (by omega)).bq (by omega)).mono (by omega)
      · obtain ⟨p', hp', rfl⟩ := List.mem_map.mp hp
        exact ((Zq.mulq (pz p' hp') zy).bq (by omega)).mono (by omega)
      · rw [← nxt] at mb2
        exact ⟨s2.trans (s3.trans s4), _, rfl, ⟨b2, zs2, rfl, hb2, mb2⟩, M3.same (s3.trans s4)⟩
    · clear s2 M2 M3 hx2
      rintro σ H3 ⟨s3, w2, rfl, M2, M3⟩
      refine ⟨_, rfl, _, rfl, xa, xs, rfl, .inl (SqL.of (s3 _ _ hx)), ((xs.length : Nat) : Int), 1, rfl, rfl, _, _, rfl, rfl, _, rfl, ite2 (fun c => ?_) (fun c => ?_)⟩
      · have c' := of_decide_eq_true c
        refine ⟨_, rfl, _, rfl, _, _, powL (0 :: rs) t, 0 :: rs, (t + 1) * g, g, rfl, M3, ⟨ya, ys, rfl, s3 _ _ hy, ny.same s3⟩, powL_len _ _, by rw [powL_len, List.length_cons]; omega, Nat.mul_pos (Nat.succ_pos _) g0, g0, ?_, pz, ?_, fun b H4 zs s4 nb hb mb => ?_⟩
        · have : (t + 1) * g + g = (t + 1 + 1) * g := by rw [Nat.add_mul (t + 1) 1, Nat.one_mul]
          rw [this]
          exact Nat.le_trans (Nat.mul_le_mul_right g (show t + 1 + 1 ≤ rs.length by omega)) (by omega)
        · intro q hq
          rcases List.mem_cons.mp hq with rfl | hq
          · exact Zq.zero
          · exact br q hq
        · refine ⟨s3.trans s4, _, _, _, rfl, M2.same s4, ?_⟩
          rw [Nat.min_eq_left (by omega)]
          exact ⟨b, zs, rfl, hb, mb⟩
      · have c' := of_decide_eq_false (Bool.eq_false_iff.mpr c)
        refine ⟨s3, _, _, _, rfl, M2, ?_⟩
        have : min (t + 1) (rs.length - 1) = t := by omega
        rw [this]
        exact M3
  · rintro σ H2 ⟨s2, w2, w3, v4, rfl, M2, M3⟩
    have : (((xs.length : Nat) : Int) - 1).toNat + 1 = rs.length + 1 := by omega
    rw [this, parS_end le] at M2
    exact ⟨_, rfl, q _ _ s2 M2⟩
theorem scBe : FnScope ["_law_a", "_law_b"] ["_law_a", "_law_b"] (defScope L_behind) := ⟨rfl, rfl, rfl, by decide +kernel, rfl, by decide +kernel, by decide +kernel⟩
theorem ok_lbehind (G : Fun K "_law_behind" "_law_behind" L_behind f fd) (UP : Use P w K mg base CX0 4 "_law_put" ["_law_u", "_law_f"] (spPutL K) []) : FnOk P w K mg base CX0 5 f fd ["_law_a", "_law_b"] (spBehL K) := by
  refine G.ok scBe (fun vs H Q E h => ?_) (fun cdv A outer s H vs Q E hr h => ?_)
  · obtain ⟨x, y, us, rs, e, g, rfl, _⟩ := h
    rfl
  obtain ⟨x, y, us, rs, e, g, rfl, ⟨xa, xs, rfl, hx, nx⟩, ⟨ya, ys, rfl, hy, ny⟩, le, l1, l24, e0, g0, eg, bq, br, q⟩ := h
  refine ⟨_, pss_one (ps_ret (pe_slice sl_list (pe_use UP hr rfl pass0 (pa_cons (pe_op op_cat (pe_lst (pa_cons (pe_tup (pa_cons pe_int (pa_cons pe_int pa_nil))) pa_nil)) (pv 0)) (pa_cons (pe_op op_cat (pe_lst (pa_cons (pe_tup (pa_cons pe_int (pa_cons pe_int pa_nil))) pa_nil)) (pv 1)) pa_nil))) (po_some pe_int) po_none)), ?_⟩
  have lx : xs.length = us.length := nx.1
  have ly : ys.length = rs.length := ny.1
  refine ⟨(by show 2 ≤ sizeLine; decide), fun t nt => ⟨(by show 1 ≤ sizeLine; decide), fun a na => ⟨_, rfl, a, xa, _, _, rfl, rfl, upd_same, new_same na _ _ _ (new_same nt _ _ _ hx), Nat.le_of_lt (small1000 (by show 1 + _ ≤ _; omega)), fun d nd => ?_⟩⟩⟩
  have s1 := new_same nt (HO.tup [.int 0, .int 1])
  have s2 := new_same na (HO.lst [V.ref t])
  have s3 := new_same nd (HO.lst ([V.ref t] ++ xs))
  have sA := s1.trans (s2.trans s3)
  have z0 : Nq K _ (.ref t) 0 := .at (K := K) ((s2.trans s3) _ _ (show _ = some (rT 0) from upd_same))
  have n1 := Nl.cons z0 (nx.same sA)
  have ed : upd (upd (upd H t (HO.tup [.int 0, .int 1])) a (HO.lst [V.ref t])) d (HO.lst ([V.ref t] ++ xs)) d = some (HO.lst ([V.ref t] ++ xs)) := upd_same
  generalize upd (upd (upd H t (HO.tup [.int 0, .int 1])) a (HO.lst [V.ref t])) d (HO.lst ([V.ref t] ++ xs)) = H1 at sA z0 n1 ed
  refine ⟨(by show 2 ≤ sizeLine; decide), fun t2 nt2 => ⟨(by show 1 ≤ sizeLine; decide), fun a2 na2 => ⟨_, rfl, a2, ya, _, _, rfl, rfl, upd_same, new_same na2 _ _ _ (new_same nt2 _ _ _ (sA _ _ hy)), Nat.le_of_lt (small1000 (by show 1 + _ ≤ _; omega)), fun d2 nd2 => ?_⟩⟩⟩
  have r1 := new_same nt2 (HO.tup [.int 0, .int 1])
  have r2 := new_same na2 (HO.lst [V.ref t2])
  have r3 := new_same nd2 (HO.lst ([V.ref t2] ++ ys))
  have rA := r1.trans (r2.trans r3)
  have y0 : Nq K _ (.ref t2) 0 := .at (K := K) ((r2.trans r3) _ _ (show _ = some (rT 0) from upd_same))
  have n2 := Nl.cons y0 ((ny.same sA).same rA)
  have ed2 : upd (upd (upd H1 t2 (HO.tup [.int 0, .int 1])) a2 (HO.lst [V.ref t2])) d2 (HO.lst ([V.ref t2] ++ ys)) d2 = some (HO.lst ([V.ref t2] ++ ys)) := upd_same
  generalize upd (upd (upd H1 t2 (HO.tup [.int 0, .int 1])) a2 (HO.lst [V.ref t2])) d2 (HO.lst ([V.ref t2] ++ ys)) = H2 at rA y0 n2 ed2
  refine ⟨_, _, 0 :: us, rs, e, g, rfl, ⟨d, _, rfl, rA _ _ ed, n1.same rA⟩, ⟨d2, _, rfl, ed2, n2⟩, by rw [List.length_cons, le], l1, l24, e0, g0, eg, ?_, br, fun v H3 s3 lv => ?_⟩
  · intro p hp
    rcases List.mem_cons.mp hp with rfl | hp
    · exact Zq.zero
    · exact bq p hp
  · obtain ⟨b, zs, rfl, hb, mb⟩ := lv
    refine ⟨_, rfl, b, zs, rfl, SqL.of hb, fun p np => ?_⟩
    rw [show cutV zs (some 1) none = zs.drop 1 from cut_drop zs 1]
    have s4 := new_same np (HO.lst (zs.drop 1))
    rw [cmpL_bhd] at mb
    exact q _ _ (sA.trans (rA.trans (s3.trans s4))) ⟨p, _, rfl, upd_same, (mb.drop 1).same s4⟩
end
end Kx
end
section
set_option maxHeartbeats 4000000
namespace Kx
open PySem PySem.Spec PyProof.Rows L2 RZ
theorem Nl.set {K : PySem.W.Frag} {H : Hp} {xs : List V} {qs : List Rat} {v : V} {q : Rat} (h : Nl K H xs qs) (hv : Nq K H v q) (j : Nat) : Nl K H (xs.set j v) (qs.set j q) := by
  refine ⟨by rw [List.length_set, List.length_set, h.1], fun i x r h1 h2 => ?_⟩
  rw [List.getElem?_set] at h1 h2
  by_cases c : j = i
  · rw [if_pos c] at h1 h2
    split at h1
    · rw [if_pos (by rw [← h.1]; assumption)] at h2
      rw [← Option.some.inj h1, ← Option.some.inj h2]
      exact hv
    · cases h1
  · rw [if_neg c] at h1 h2
    exact h.2 i x r h1 h2
def spSize8 : Sp := fun vs H Q _ => ∃ B p : Addr, vs = [.ref B] ∧ Bag H B p ∧ ∀ H' (n : Nat), Bag H' B p → But B H H' → 2 ≤ n → n ≤ 8 → Q (.int (n : Nat)) H'
def spThin (K : PySem.W.Frag) : Sp := fun vs H Q _ => ∃ (B p : Addr) (n : Nat), vs = [.ref B, .int (n : Nat)] ∧ Bag H B p ∧ 2 ≤ n ∧ n ≤ 24 ∧
  ∀ H' u rs, Bag H' B p → But B H H' → Ls K H' u rs → rs.length = n → AllZ 1 rs → Q u H'
abbrev nTh : List Str := ["_law_bag_here", "_law_size_here", "_law_some", "_law_k"]
section
variable {P : Program} {w : World} {K : PySem.W.Frag} {mg : Str → Option Value} {base : Heap} {f : Addr} {fd : FuncData}
theorem scSz8 : FnScope ["_law_bag_here"] ["_law_bag_here"] (defScope L_size) := ⟨rfl, rfl, rfl, by decide +kernel, rfl, by decide +kernel, by decide +kernel⟩
theorem ok_size8 (F : Fun K "_law_size" "_law_size" L_size f fd) (UO : Use P w K mg base CX0 2 "_law_of" ["_law_bag_here", "_law_things"] spOfL []) : FnOk P w K mg base CX0 3 f fd ["_law_bag_here"] spSize8 := by
  refine F.ok scSz8 (fun vs H Q E h => ?_) (fun cdv A outer s H vs Q E hr h => ?_)
  · obtain ⟨B, p, rfl, _⟩ := h
    rfl
  obtain ⟨B, p, rfl, hb, q⟩ := h
  refine ⟨_, pss_one (ps_ret (pe_use UO hr rfl pass0 (pa_cons (pv 0) (pa_cons (pe_lst (pa_cons pe_int (pa_cons pe_int (pa_cons pe_int (pa_cons pe_int (pa_cons pe_int (pa_cons pe_int (pa_cons pe_int (pa_cons pe_int (pa_cons pe_int (pa_cons pe_int pa_nil))))))))))) pa_nil)))), ?_⟩
  refine ⟨_, rfl, (by show 10 ≤ sizeLine; decide), fun l nl => ?_⟩
  refine ⟨B, p, l, _, rfl, upd_same, (hb.at nl).1, (by show 0 < 10; decide), (by show 10 ≤ 1000; decide), hb.put nl, fun H2 x b2 u2 hx => ?_⟩
  have uu : But B H H2 := (But.new nl).trans u2
  have fin : ∀ n : Nat, 2 ≤ n → n ≤ 8 → Q (.int (n : Nat)) H2 := fun n h1 h2 => q H2 n b2 uu h1 h2
  simp only [List.mem_cons, List.not_mem_nil, or_false] at hx
  rcases hx with rfl | rfl | rfl | rfl | rfl | rfl | rfl | rfl | rfl | rfl
  · exact fin 3 (by decide) (by decide)
  · exact fin 4 (by decide) (by decide)
  · exact fin 5 (by decide) (by decide)
  · exact fin 6 (by decide) (by decide)
  · exact fin 4 (by decide) (by decide)
  · exact fin 5 (by decide) (by decide)
  · exact fin 3 (by decide) (by decide)
  · exact fin 7 (by decide) (by decide)
  · exact fin 2 (by decide) (by decide)
  · exact fin 8 (by decide) (by decide)
end
end Kx
end
section
set_option maxHeartbeats 4000000
namespace Kx
open PySem PySem.Spec PyProof.Rows L2 RZ
section
variable {P : Program} {w : World} {K : PySem.W.Frag} {mg : Str → Option Value} {base : Heap} {C S CF CO : Addr} {H : Hp}
theorem row_newF {a : Addr} {xs : List V} {qs : List Rat} {E : XK} {R : VK} {x dx : Addr} (ha : SqH H a xs) (hn : Nl K H xs qs) (l1 : 3 ≤ qs.length) (l2 : qs.length ≤ 25) (nx : H x = none) (ndx : H dx = none) (ne : dx ≠ x)
    (q : ∀ H' b, Same H H' → H b = none → H' x = some (.ins C dx (rwF b ((qs.length : Int) - 1) (hgtV qs 0))) → H' b = some (.lst xs) → R .non H') :
    spRI K C CF CO [.ref x, .ref a] (upd (upd H dx (.own x)) x (.ins C dx [])) R E := by
  have hx2 : upd (upd H dx (.own x)) x (.ins C dx []) x = some (.ins C dx []) := upd_same
  have sm : Same H (upd (upd H dx (.own x)) x (.ins C dx [])) := (new_same ndx _).trans (new_same (by rw [upd_ne (Ne.symm ne)]; exact nx) _)
  refine ⟨x, dx, .ref a, rfl, fun e => ?_, hx2, .inr ⟨a, xs, rfl, ha.same sm, .inr ⟨by rw [hn.1]; omega, by rw [hn.1]; omega, .inr ⟨qs, hn.same sm, fun H' b u nb hx hb => ?_⟩⟩⟩⟩
  · rw [V.ref.inj e] at ha
    rcases ha with h | h <;> rw [nx] at h <;> cases h
  · have s' : Same H H' := fun e o he => u e o (fun z => by rw [z, nx] at he; cases he) (sm e o he)
    exact q H' b s' (sm.free nb) hx hb
/-- Row(..) from a list of numbers -/
theorem row_newG {a : Addr} {xs : List V} {qs : List Rat} {E : XK} {R : VK} {x dx : Addr} (ha : SqH H a xs) (hn : Nl K H xs qs) (l1 : 3 ≤ qs.length) (l2 : qs.length ≤ 25) (nx : H x = none) (ndx : H dx = none) (ne : dx ≠ x)
    (q : ∀ H', Same H H' → RwAt K C H' (.ref x) qs → R .non H') :
    spRI K C CF CO [.ref x, .ref a] (upd (upd H dx (.own x)) x (.ins C dx [])) R E :=
  row_newF ha hn l1 l2 nx ndx ne fun H' b s nb hx hb => q H' s ⟨x, dx, b, xs, rfl, hx, hb, hn.same s, l1, l2⟩
theorem step_newG {a : Addr} {xs : List V} {qs : List Rat} {E : XK} {R : VK} {x dx : Addr} (ha : SqH H a xs) (hn : Nl K H xs qs) (l1 : 2 ≤ qs.length) (l2 : qs.length ≤ 24) (nx : H x = none) (ndx : H dx = none) (ne : dx ≠ x)
    (q : ∀ H', Same H H' → StAt K S H' (.ref x) qs → R .non H') :
    spSI K S CF CO [.ref x, .ref a] (upd (upd H dx (.own x)) x (.ins S dx [])) R E := by
  have hx2 : upd (upd H dx (.own x)) x (.ins S dx []) x = some (.ins S dx []) := upd_same
  have sm : Same H (upd (upd H dx (.own x)) x (.ins S dx [])) := (new_same ndx _).trans (new_same (by rw [upd_ne (Ne.symm ne)]; exact nx) _)
  refine ⟨x, dx, .ref a, rfl, fun e => ?_, hx2, .inr ⟨a, xs, rfl, ha.same sm, .inr ⟨by rw [hn.1]; omega, by rw [hn.1]; omega, .inr ⟨qs, hn.same sm, fun H' b x0 fv sv h0 u nb hx hb => ?_⟩⟩⟩⟩
  · rw [V.ref.inj e] at ha
    rcases ha with h | h <;> rw [nx] at h <;> cases h
  · have s' : Same H H' := fun e o he => u e o (fun z => by rw [z, nx] at he; cases he) (sm e o he)
    exact q H' s' ⟨x, dx, b, xs, x0, fv, sv, rfl, hx, hb, hn.same s', h0, l1, l2⟩
end
/-! ### what ask makes of the one error -/
structure ErrU (P : Program) (w : World) (K : PySem.W.Frag) (mg : Str → Option Value) (base : Heap) (CU : Addr) : Prop where
  e : ErrC P w K mg base "UnlikeOrders" 2 (fs2 "UnlikeOrders" "one" "other") CU
  co : PySem.W.findIn K (.ref CU) "code" = some none
  f0 : PySem.W.findIn K (.ref CU) "one" = some none
  f1 : PySem.W.findIn K (.ref CU) "other" = some none
  kt : PySem.W.kitOne K (.ref CU) (.ref CU) = some true
def FltU (H : Hp) (CU : Addr) (cls : Value) (d : Option Addr) (Q : VK) : Prop :=
  cls = .ref CU ∧ ∃ (dd : Addr) (v u : V), d = some dd ∧ H dd = some (.xd (fs2 "UnlikeOrders" "one" "other" [v, u])) ∧ ∀ t H', Same H H' → H t = none → H' t = some (.lst [.str "UnlikeOrders", v, u]) → Q (.ref t) H'
def spFltU (CU : Addr) : Addr → Value → Option Addr → Sp := fun a cls d vs H Q _ => vs = [.ref a] ∧ FltU H CU cls d Q
section
variable {P : Program} {w : World} {K : PySem.W.Frag} {mg : Str → Option Value} {base : Heap} {f CU : Addr} {fd : FuncData}
end
def TAskU (CU : Addr) : (XK → Hp → VK → Prop) → Hp → VK → Prop := fun tl H Q =>
  tl (fun cls d H' => FltU H' CU cls d Q) H (fun v H1 => 2 ≤ sizeLine ∧ ∀ t, H1 t = none → Q (.ref t) (upd H1 t (.lst [.str "told", v])))
def askTU (CU : Addr) : Addr → Value → Option Addr → TS := fun a cls d => tRet (tCallP a cls d (spFltU CU) (tCons (tVar 1) tNil))
def askLU (CE CU : Addr) : List Hd3 := [(.ref CE, 1, askTU CU)]
section
variable {X : Cx} {q : Str} {g fF CE CU : Addr} {cdg : Value} {fdF : FuncData}
theorem ask_givesU (hr : Room 2 X.A) (F : FnP X.prog X.w X.K X.mg X.base C8.CX0 1 fF fdF ["_law_error"] (spFltU CU)) (bF : Binds X.K fdF ["_law_error"] []) (kF : PySem.W.keepIn X.K (.ref fF) = true) (mF : X.mg "_law_fault" = some (.ref fF))
    (mC : X.mg "CreepError" = some (.ref CE)) (e1 : PySem.W.exmOne X.K (.ref CU) (.ref CE) = some true) :
    LamX.GivesTo X nAsk "_law_ask" (defScope L_ask) g cdg (defBody L_ask) "_law_deed" q (TAskU CU) := by
  intro f c' s H Q tl act hc h
  let XX := (cxOf C8.CX0 X.prog X.w X.K X.mg X.base nAsk "_law_ask" (defScope L_ask) g cdg X.A X.stack s H C8.E0).nox
  refine ⟨_, pss_one (ps_try_manyAs (X := XX) (l := askLU CE CU) (tb := fun W D σ H => ∃ Ech : XK, (∀ cls d σ' H', Ech cls d H' → σ'.length = 2 → W cls d σ' H') ∧ σ[0]? = some (some (.ref f)) ∧ H c' = some (LamX.CodeO c' q) ∧
      tl Ech H (fun v H1 => 2 ≤ sizeLine ∧ ∀ t, H1 t = none → D.rt (.ref t) (upd H1 t (.lst [.str "told", v]))))
      rfl rfl scAsk.nd LamX.takes0 (fun W pn xe tk _ => ?_) ?_), ?_⟩
  · refine ⟨fun pins s' σ H' D I h' => ?_⟩
    obtain ⟨Ech, hW, h1, h2, h3⟩ := h'
    have hp := act (fun cls d σ H => σ.length = 2 → W cls d σ H) pn xe Ech
    have hq : ∀ (j : Nat) (p1 p2 p3 p4 p5 : Pos), PSs (XX.tr pn xe) [.Return (some (.List [.Constant (.str "told") j p3, .Call (.Name "_law_deed" p1) [] [] p2] p4)) p5] (tRet (tLst (tCons (tC (.str "told")) (tCons (fun σZ HZ Q => σZ[0]? = some (some (V.ref f)) ∧ HZ c' = some (LamX.CodeO c' q) ∧ tl Ech HZ Q) tNil)))) :=
      fun j p1 p2 p3 p4 p5 => pss_one (ps_ret (pe_lst (pa_cons pe_str (pa_cons (hp p1 p2 (takes_len tk) hW) pa_nil))))
    exact (hq _ _ _ _ _ _).run pins s' σ H' D I ⟨h1, h2, h3⟩
  · have cl : ∀ (a : Addr) (oe : Obj) (cls : Value) (d : Option Addr) (pn : List (Addr × Obj)) (p1 p2 p3 p4 : Pos), Zc cls d oe → (∃ vs, oe.data = .fields vs) → PSs (XX.suite a ((a, oe) :: pn)) [.Return (some (.Call (.Name "_law_fault" p1) [.Name "_law_error" p2] [] p3)) p4] (askTU CU a cls d) :=
      fun a oe cls d pn p1 p2 p3 p4 hz hf => pss_one (ps_ret (pe_callP List.mem_cons_self hz hf F (L2H.roomH_mark (hr.deeper _) _) rfl mF kF bF (pa_cons (pv 1) pa_nil)))
    exact .cons rfl rfl ⟨rfl, by decide, .inl mC⟩ (fun a oe cls d pn hz hf => cl a oe cls d pn _ _ _ _ hz hf) .nil
  · refine ⟨fun cls d H' => FltU H' CU cls d Q, fun cls d σ' H' hf hl => ?_, rfl, hc, ?_⟩
    · have g1 : ∀ a : Addr, (σ'.set 1 (some (V.ref a)))[1]? = some (some (V.ref a)) := fun a => List.getElem?_set_self (by omega)
      obtain ⟨rfl, r⟩ := hf
      exact ⟨true, e1, fun _ a na => ⟨_, g1 a, rfl, ⟨rfl, r⟩⟩, fun z => Bool.noConfusion z⟩
    · exact h
end
/-- what the law's later defs stand on -/
structure Kit5 (P : Program) (w : World) (K : PySem.W.Frag) (mg : Str → Option Value) (base : Heap) (C S CF CO CL CU CE : Addr) : Prop where
  rk : RowK P w K mg base C CF CO
  sk : StepK P w K mg base C S CF CO
  skit : PySem.W.kitOne K (.ref S) (.ref S) = some true
  rnum : MUse P w K mg base CX0 1 C "numbers" ["self"] (spNu K C) []
  snum : MUse P w K mg base CX0 1 S "numbers" ["self"] (spNuS K S) []
  rcut : MUse P w K mg base (L2.CX P w) 8 C "cut" ["self", "order"] (spCu K C CO CL) [["order"]]
  scut : MUse P w K mg base (L2.CX P w) 8 S "cut" ["self", "order"] (spCuS K S CO CL) [["order"]]
  beh : MUse P w K mg base (L2.CX P w) 8 C "behind" ["self", "step"] (spBhR K C S CU) [["step"]]
  radd : OpM P w K mg base (L2.CX P w) 8 C "__add__" (spOp K C CU 4000 (List.zipWith (· + ·)))
  rmul : OpM P w K mg base (L2.CX P w) 8 C "__mul__" (spOpM K C CU)
  smul : OpM P w K mg base (L2.CX P w) 8 S "__mul__" (spOpS K S CU)
  bag : Use P w K mg base CX0 1 "_law_bag" ["_law_script"] (spBag K) []
  draw : Use P w K mg base CX0 1 "_law_draw" ["_law_bag_here", "_law_limit"] spDraw []
  ofL : Use P w K mg base CX0 2 "_law_of" ["_law_bag_here", "_law_things"] spOfL []
  times : Use P w K mg base CX0 3 "_law_times" ["_law_u", "_law_w"] (spTimes K) []
  plus : Use P w K mg base CX0 3 "_law_plus" ["_law_u", "_law_w"] (spPlus K) []
  num : Use P w K mg base CX0 3 "_law_number" ["_law_bag_here"] (spNum K) []
  put : Use P w K mg base CX0 4 "_law_put" ["_law_u", "_law_f"] (spPutL K) []
  behd : Use P w K mg base CX0 5 "_law_behind" ["_law_a", "_law_b"] (spBehL K) []
  still : Use P w K mg base CX0 1 "_law_still" ["_law_size_here"] (spLst K) []
  size8 : Use P w K mg base CX0 3 "_law_size" ["_law_bag_here"] spSize8 []
  step : Use P w K mg base CX0 6 "_law_step" ["_law_bag_here", "_law_size_here"] (spStp K) []
  thin : Use P w K mg base CX0 5 "_law_thin" ["_law_bag_here", "_law_size_here"] (spThin K) []
  lik : Use P w K mg base CX0 6 "_law_like" ["_law_told", "_law_due"] (spLike K S 4) []
  flt : ∃ (fF : Addr) (fdF : FuncData), FnP P w K mg base C8.CX0 1 fF fdF ["_law_error"] (spFltU CU) ∧ Binds K fdF ["_law_error"] [] ∧ PySem.W.keepIn K (.ref fF) = true ∧ mg "_law_fault" = some (.ref fF)
  ask : ∃ (g : Addr) (fd : FuncData), Fun K "_law_ask" "_law_ask" L_ask g fd ∧ Binds K fd ["_law_deed"] [] ∧ mg "_law_ask" = some (.ref g)
  mC : mg "CreepError" = some (.ref CE)
  e1 : PySem.W.exmOne K (.ref CU) (.ref CE) = some true
  mn : mg "len" = none
  mI : mg "isinstance" = none
  ml : mg "list" = none
  mt : mg "tuple" = none
  mr : mg "range" = none
def spRsR (K : PySem.W.Frag) (C : Addr) : Sp := fun vs H Q _ => ∃ (x y : V) (qs : List Rat), vs = [x, y] ∧ RwAt K C H x qs ∧ Ls K H y qs ∧ ∀ H', Same H H' → Q (.bl true) H'
def spRsS (K : PySem.W.Frag) (S : Addr) : Sp := fun vs H Q _ => ∃ (x y : V) (qs : List Rat), vs = [x, y] ∧ StAt K S H x qs ∧ Ls K H y qs ∧ ∀ H', Same H H' → Q (.bl true) H'
section
variable {P : Program} {w : World} {K : PySem.W.Frag} {mg : Str → Option Value} {base : Heap} {f C S CF CO CL CU CE : Addr} {fd : FuncData}
theorem scRsS : FnScope ["_law_told", "_law_due"] ["_law_told", "_law_due"] (defScope L_step_so) := ⟨rfl, rfl, rfl, by decide +kernel, rfl, by decide +kernel, by decide +kernel⟩
theorem ok_stepso5 (F : Fun K "_law_step_so" "_law_step_so" L_step_so f fd) (U : Kit5 P w K mg base C S CF CO CL CU CE) : FnOk P w K mg base CX0 7 f fd ["_law_told", "_law_due"] (spRsS K S) := by
  refine F.ok scRsS (fun vs H Q E h => ?_) (fun cdv A outer s H vs Q E hr h => ?_)
  · obtain ⟨x, y, qs, rfl, _⟩ := h
    rfl
  obtain ⟨u, y, qs, rfl, hR, hL, q⟩ := h
  have hr1 := hr.mono (show 1 ≤ 6 by decide)
  refine ⟨_, pss_one (ps_ret (pe_and (pe_callB call_isi rfl U.mI (by decide +kernel) (pa_cons (pv 0) (pa_cons (C8.pe_gc (v := .ref S) rfl ⟨_, U.sk.m, rfl⟩) pa_nil)))
      (pe_one (pe_use U.lik hr rfl pass0 (pa_cons (pe_lst (pa_cons (pe_fld (pv 0) rfl) (pa_cons (pe_mu0 U.snum (pv 0) hr1 pass0) pa_nil)))
          (pa_cons (pe_lst (pa_cons (pe_callB call_len_seq rfl U.mn PySem.boot_len (pa_cons (pv 1) pa_nil)) (pa_cons (pv 1) pa_nil))) pa_nil)))))), ?_⟩
  obtain ⟨x, dx, b, xs, x0, fv, sv, rfl, hx, hb, nx, e0, l2, l24⟩ := id hR
  obtain ⟨a, ys, rfl, ha, ny⟩ := id hL
  have ly : ys.length = qs.length := ny.1
  refine ⟨_, rfl, .ref x, .ref S, .ref S, .ref S, true, rfl, .own S, U.sk.ty _ _ _ _ hx, U.skit, _, rfl, iteT ?_⟩
  refine ⟨_, rfl, x, S, dx, _, _, rfl, hx, U.sk.c, U.sk.nA _ (by simp [stN]), rfl, _, rfl, x, dx, _, rfl, hx, rfl, _, qs, rfl, hR, fun t H1 zs s1 nt et nz => ⟨(by show 2 ≤ sizeLine; decide), fun t1 n1 => ?_⟩⟩
  have g1 := new_same n1 (.lst [.int (qs.length : Int), .ref t])
  refine ⟨_, rfl, a, ys, rfl, .inl (SqL.of (g1 _ _ (s1 _ _ ha))), _, rfl, (by show 2 ≤ sizeLine; decide), fun t2 n2 => ?_⟩
  have g2 := new_same n2 (.lst [.int (ys.length : Nat), .ref a])
  have sA := s1.trans (g1.trans g2)
  refine ⟨_, _, rfl, Lk.lst (n := 3) (g2 _ _ upd_same) upd_same (by show 2 ≤ 60; decide) ?_, fun H' s' => q _ (sA.trans s')⟩
  exact .cons (by rw [ly]; exact Lk.flat rfl) (.cons (Ls.lk (n := 1) ⟨t, zs, rfl, (g1.trans g2) _ _ et, nz.same (g1.trans g2)⟩ (hL.same sA) (by omega)) .nil)
end
end Kx
end
section
set_option maxHeartbeats 4000000
namespace Kx
open PySem PySem.Spec PyProof.Rows L2 RZ
theorem StAt.ext {K : PySem.W.Frag} {H H' : Hp} {S : Addr} {v : V} {qs : List Rat} (h : StAt K S H v qs) (s : LamX.ExtN H H') : StAt K S H' v qs := by
  obtain ⟨x, dx, b, xs, x0, fv, sv, e, h1, h2, h3, h4⟩ := h
  exact ⟨x, dx, b, xs, x0, fv, sv, e, s _ _ h1 (fun ps z => by cases z), s _ _ h2 (fun ps z => by cases z), h3.ext s, h4⟩
structure Jg (T : List (Addr × Str)) (B p : Addr) (HF G : Hp) : Prop where
  b : Bag G B p
  t : LamX.Tabs T G
  g : Go B HF G
section
variable {T : List (Addr × Str)} {B p : Addr} {HF G G' : Hp}
theorem Jg.same (j : Jg T B p HF G) (s : Same G G') : Jg T B p HF G' := ⟨j.b.same s, j.t.ext s, j.g.trans (Go.same s)⟩
theorem Jg.ext (j : Jg T B p HF G) (s : LamX.ExtN G G') (t : LamX.Tabs T G') : Jg T B p HF G' := ⟨j.b.ext s, t, j.g.trans (Go.ext s)⟩
theorem Jg.but (j : Jg T B p HF G) (b : Bag G' B p) (u : But B G G') : Jg T B p HF G' := ⟨b, tabs_but j.t j.b u, j.g.trans (Go.of u)⟩
end
/-- what ask gives for two orders -/
def wl (n m : Nat) : List V := if n = m then [.str "told", .int (n : Nat)] else [.str "UnlikeOrders", .int (n : Nat), .int (m : Nat)]
section
variable {P : Program} {w : World} {K : PySem.W.Frag} {mg : Str → Option Value} {base : Heap} {C S CF CO CU : Addr} {H : Hp}
/-- the order of f * g, asked -/
theorem rd_askS {vx vy : V} {qs rs : List Rat} {Q : VK} (k : StepK P w K mg base C S CF CO) (hX : StAt K S H vx qs) (hY : StAt K S H vy rs) (bq : AllZ 1 qs) (br : AllZ 1 rs)
    (q : ∀ t H', Same H H' → H' t = some (.lst (wl qs.length rs.length)) → Q (.ref t) H') :
    rBin S (spOpS K S CU) (fun cls d H' => FltU H' CU cls d Q) vx vy H (fun x H1 => ∃ a C dx fs v, x = .ref a ∧ H1 a = some (.ins C dx fs) ∧ Cls K C ∧ NoAttr K C "order" ∧ fs.lookup ("order" : Str) = some v ∧ (2 ≤ sizeLine ∧ ∀ t, H1 t = none → Q (.ref t) (upd H1 t (.lst [.str "told", v])))) := by
  obtain ⟨x, dx, b, xs, x0, fv, sv, e, hx, _, _, _, l2, l24⟩ := id hX
  obtain ⟨y, dy, d, ys, y0, fw, sw, e2, hy, _, _, _, m2, m24⟩ := id hY
  refine ⟨x, y, dx, dy, _, _, e, e2, hx, hy, vx, vy, qs, rs, rfl, hX, hY, fun ne d H' s n e2 => ?_, fun le => ⟨1, 1, by decide, by decide, by omega, bq, br, fun H' z s hz => ?_⟩⟩
  · refine ⟨rfl, d, _, _, rfl, e2, fun t H2 s2 n2 e3 => q t H2 (s.trans s2) ?_⟩
    rw [e3]
    unfold wl
    rw [if_neg ne]
  · obtain ⟨z', dz, c, zs, fs, rfl, hz1, _, _, _, f2, _⟩ := hz.num
    refine ⟨z', S, dz, fs, _, rfl, hz1, k.c, k.nA _ (by simp [stN]), f2, (by show 2 ≤ sizeLine; decide), fun t nt => q t _ (s.trans (new_same nt _)) ?_⟩
    rw [upd_same, cmpL_len]
    unfold wl
    rw [if_pos le]
/-- the order of u.behind(g), asked -/
theorem rd_askB {vx vy : V} {us rs : List Rat} {Q : VK} (k : RowK P w K mg base C CF CO) (n : Nat) (hn : us.length = n + 1) (hX : RwAt K C H vx us) (hY : StAt K S H vy rs) (bq : AllZ 1 us) (br : AllZ 1 rs)
    (q : ∀ t H', Same H H' → H' t = some (.lst (wl n rs.length)) → Q (.ref t) H') :
    spBhR K C S CU [vx, vy] H (fun x H1 => ∃ a C dx fs v, x = .ref a ∧ H1 a = some (.ins C dx fs) ∧ Cls K C ∧ NoAttr K C "order" ∧ fs.lookup ("order" : Str) = some v ∧ (2 ≤ sizeLine ∧ ∀ t, H1 t = none → Q (.ref t) (upd H1 t (.lst [.str "told", v])))) (fun cls d H' => FltU H' CU cls d Q) := by
  obtain ⟨y, dy, d, ys, y0, fw, sw, e2, hy, _, _, _, m2, m24⟩ := id hY
  have en : ((us.length : Nat) : Int) - 1 = (n : Nat) := by omega
  refine ⟨vx, vy, us, rs, rfl, hX, hY, fun ne d H' s n' e2 => ?_, fun le => ⟨1, 1, by decide, by decide, by omega, bq, br, fun H' z s hz => ?_⟩⟩
  · refine ⟨rfl, d, _, _, rfl, e2, fun t H2 s2 n2 e3 => q t H2 (s.trans s2) ?_⟩
    rw [e3, en]
    unfold wl
    rw [if_neg (by omega)]
  · obtain ⟨z', dz, c, zs, fs, rfl, hz1, _, _, _, f2, _⟩ := hz.num k
    refine ⟨z', C, dz, fs, _, rfl, hz1, k.c, k.nA _ (by simp [rwN]), f2, (by show 2 ≤ sizeLine; decide), fun t nt => q t _ (s.trans (new_same nt _)) ?_⟩
    rw [upd_same, bhdL_len, en]
    unfold wl
    rw [if_pos (by omega)]
end
abbrev nUn : List Str := ["_law_bag_here", "_law_a", "_law_d", "_law_size_here", "_law_f", "_law_u", "_law_g", "_law_told", "_law_one", "_law_two"]
def spUn (K : PySem.W.Frag) (T : List (Addr × Str)) : Sp := fun vs H Q _ => ∃ (B p : Addr) (x y : V) (qs us : List Rat), vs = [.ref B, x, y] ∧ Bag H B p ∧ Ls K H x qs ∧ Ls K H y us ∧ us.length = qs.length + 1 ∧ 2 ≤ qs.length ∧ qs.length ≤ 8 ∧ AllZ 1 qs ∧ AllZ 1 us ∧ LamX.Tabs T H ∧
  ∀ H', Bag H' B p → Go B H H' → LamX.Tabs T H' → Q (.bl true) H'
section
variable {P : Program} {w : World} {K : PySem.W.Frag} {mg : Str → Option Value} {base : Heap} {f c Pt C S CF CO CL CU CE : Addr} {fd : FuncData} {T : List (Addr × Str)}
end
end Kx
end
section
set_option maxHeartbeats 4000000
namespace Kx
open PySem PySem.Spec PyProof.Rows L2 RZ
/-! ### what stands of putting in -/
theorem ser_L {n : Nat} {f : Ser} {us : List Rat} (h : us = toL n f) : EqTo n (ser us) f := by
  subst h
  exact ser_toL
theorem bhdL_eq {n : Nat} {us rs : List Rat} {u f : Ser} (l : us.length = n) (h : EqTo n (ser us) u) (h' : EqTo n (serS rs) f) : bhdL us rs = toL n (cmpS u f) := by
  unfold bhdL
  rw [l]
  exact toL_eq (h.cmp h')
theorem cmpL_eq {n : Nat} {qs rs : List Rat} {u f : Ser} (l : qs.length = n) (h : EqTo (n + 1) (serS qs) u) (h' : EqTo (n + 1) (serS rs) f) : cmpL qs rs = toT n (cmpS u f) := by
  unfold cmpL
  rw [l]
  exact toT_eq (h.cmp h')
theorem bhd_mul {us ws rs : List Rat} (l : us.length = ws.length) : bhdL (mulL us ws) rs = mulL (bhdL us rs) (bhdL ws rs) := by
  rw [bhdL_eq (n := us.length) (by rw [mulL_len]) (by rw [mulL_ser]; exact ser_toL) (fun _ _ => rfl), cmpS_mul (serS_zero rs)]
  unfold bhdL
  rw [← l, mulL_toL]
theorem zip_toL (us ws : List Rat) (l : us.length = ws.length) : us.zipWith (· + ·) ws = toL us.length (addS (ser us) (ser ws)) := by
  rw [← toL_zip, toL_ser, l, toL_ser]
theorem bhd_add {us ws rs : List Rat} (l : us.length = ws.length) : bhdL (us.zipWith (· + ·) ws) rs = (bhdL us rs).zipWith (· + ·) (bhdL ws rs) := by
  rw [bhdL_eq (n := us.length) (by rw [List.length_zipWith, l, Nat.min_self]) (by rw [zip_toL _ _ l]; exact ser_toL) (fun _ _ => rfl), cmpS_add]
  unfold bhdL
  rw [← l, toL_zip]
theorem ser_take (us : List Rat) (m : Nat) : EqTo m (ser (us.take m)) (ser us) := fun i hi => by
  show List.getD _ _ _ = List.getD _ _ _
  rw [List.getD_eq_getElem?_getD, List.getD_eq_getElem?_getD, List.getElem?_take, if_pos hi]
theorem serS_take (qs : List Rat) (m : Nat) : EqTo (m + 1) (serS (qs.take m)) (serS qs) := ser_take (0 :: qs) (m + 1)
theorem bhd_take {us rs : List Rat} {m : Nat} (h : m + 1 ≤ us.length) : bhdL (us.take (m + 1)) (rs.take m) = (bhdL us rs).take (m + 1) := by
  rw [bhdL_eq (n := m + 1) (by rw [List.length_take]; omega) (ser_take us (m + 1)) (serS_take rs m)]
  unfold bhdL
  rw [toL_take _ h]
theorem cmp_take {qs rs : List Rat} {m : Nat} (h : m ≤ qs.length) : cmpL (qs.take m) (rs.take m) = (cmpL qs rs).take m := by
  rw [cmpL_eq (n := m) (by rw [List.length_take]; omega) (serS_take qs m) (serS_take rs m)]
  unfold cmpL
  rw [toT_take _ h]
theorem serS_still (n : Nat) : serS (1 :: List.replicate n 0) = xS := by
  funext i
  match i with
  | 0 => rfl
  | 1 => rfl
  | i + 2 =>
    show (List.replicate n (0 : Rat)).getD i 0 = 0
    rw [List.getD_eq_getElem?_getD, List.getElem?_replicate]
    split <;> rfl
theorem bhd_still (us : List Rat) (n : Nat) : bhdL us (1 :: List.replicate n 0) = us := by
  unfold bhdL
  rw [serS_still, cmpS_xr, toL_ser]
theorem cmp_still (qs : List Rat) (n : Nat) : cmpL qs (1 :: List.replicate n 0) = qs := by
  unfold cmpL
  rw [serS_still, cmpS_xr, toT_serS]
theorem still_cmp (qs : List Rat) (n : Nat) (h : n + 1 = qs.length) : cmpL (1 :: List.replicate n 0) qs = qs := by
  unfold cmpL
  rw [serS_still, List.length_cons, List.length_replicate, h]
  refine Eq.trans ?_ (toT_serS qs)
  exact List.map_congr_left fun i _ => cmpS_xl (serS qs) (i + 1) (Nat.succ_pos i)
theorem cmpS0 {u f : Ser} (h : u 0 = 0) : cmpS u f 0 = 0 := by rw [cmpS_zero, h]
theorem serS_cmp (qs rs : List Rat) : EqTo (qs.length + 1) (serS (cmpL qs rs)) (cmpS (serS qs) (serS rs)) := by
  unfold cmpL
  exact serS_toT (cmpS0 (serS_zero qs))
theorem cmp_assoc {qs rs ts : List Rat} (l : qs.length = rs.length) : cmpL (cmpL qs rs) ts = cmpL qs (cmpL rs ts) := by
  rw [cmpL_eq (n := qs.length) (cmpL_len qs rs) (serS_cmp qs rs) (fun _ _ => rfl), cmpS_assoc (serS_zero rs) (serS_zero ts), cmpL_eq (n := qs.length) rfl (fun _ _ => rfl) (by rw [l]; exact serS_cmp rs ts)]
theorem bhd_assoc {us qs rs : List Rat} (l : us.length = qs.length + 1) : bhdL (bhdL us qs) rs = bhdL us (cmpL qs rs) := by
  rw [bhdL_eq (n := us.length) (bhdL_len us qs) (by unfold bhdL; exact ser_toL) (fun _ _ => rfl), cmpS_assoc (serS_zero qs) (serS_zero rs), bhdL_eq (n := us.length) rfl (fun _ _ => rfl) (by rw [l]; exact serS_cmp qs rs)]
theorem zip_z {us ws : List Rat} {e : Nat} (h : AllZ e us) (h' : AllZ e ws) : AllZ (e + 1) (us.zipWith (· + ·) ws) := by
  intro q hq
  obtain ⟨i, hi⟩ := List.getElem?_of_mem hq
  obtain ⟨a, b, ea, eb, rfl⟩ := zip_get hi
  exact (h a (List.mem_of_getElem? ea)).add (h' b (List.mem_of_getElem? eb))
theorem AllZ.take {e : Nat} {qs : List Rat} (h : AllZ e qs) (n : Nat) : AllZ e (qs.take n) := fun q hq => h q (List.mem_of_mem_take hq)
theorem still_z (n : Nat) : AllZ 1 (1 :: List.replicate n 0) := fun q hq => by
  rcases List.mem_cons.mp hq with rfl | hq
  · exact Zq.one (by decide)
  · rw [List.eq_of_mem_replicate hq]; exact Zq.zero
/-! ### readings -/
section
variable {K : PySem.W.Frag} {C S CO CL CU : Addr} {H : Hp}
theorem rd_bh {vx vy : V} {us rs : List Rat} {E : XK} {R : VK} (e g : Nat) (hX : RwAt K C H vx us) (hY : StAt K S H vy rs) (le : us.length = rs.length + 1) (e0 : 1 ≤ e) (g0 : 1 ≤ g) (eg : e + rs.length * g ≤ 200) (bq : AllZ e us) (br : AllZ g rs)
    (q : ∀ H' y, Same H H' → RwAt K C H' y (bhdL us rs) → R y H') : spBhR K C S CU [vx, vy] H R E :=
  ⟨vx, vy, us, rs, rfl, hX, hY, fun ne => absurd le ne, fun _ => ⟨e, g, e0, g0, eg, bq, br, q⟩⟩
theorem rd_sm {vx vy : V} {qs rs : List Rat} {E : XK} {R : VK} (e g : Nat) (hX : StAt K S H vx qs) (hY : StAt K S H vy rs) (le : qs.length = rs.length) (e0 : 1 ≤ e) (g0 : 1 ≤ g) (eg : e + rs.length * g ≤ 200) (bq : AllZ e qs) (br : AllZ g rs)
    (q : ∀ H' y, Same H H' → StAt K S H' y (cmpL qs rs) → R y H') : rBin S (spOpS K S CU) E vx vy H R := by
  obtain ⟨x, dx, b, xs, _, _, _, e1, hx, _⟩ := id hX
  obtain ⟨y, dy, d, ys, _, _, _, e2, hy, _⟩ := id hY
  exact ⟨x, y, dx, dy, _, _, e1, e2, hx, hy, vx, vy, qs, rs, rfl, hX, hY, fun ne => absurd le ne, fun _ => ⟨e, g, e0, g0, eg, bq, br, q⟩⟩
theorem rd_rm {vx vy : V} {us ws : List Rat} {E : XK} {R : VK} (e g : Nat) (hX : RwAt K C H vx us) (hY : RwAt K C H vy ws) (le : us.length = ws.length) (e0 : 1 ≤ e) (g0 : 1 ≤ g) (el : e ≤ 200) (gl : g ≤ 200) (bq : AllZ e us) (br : AllZ g ws)
    (q : ∀ H' y, Same H H' → RwAt K C H' y (mulL us ws) → R y H') : rBin C (spOpM K C CU) E vx vy H R := by
  obtain ⟨x, dx, b, xs, e1, hx, _⟩ := id hX
  obtain ⟨y, dy, d, ys, e2, hy, _⟩ := id hY
  exact ⟨x, y, dx, dy, _, _, e1, e2, hx, hy, vx, vy, us, ws, rfl, hX, hY, fun ne => absurd le ne, fun _ => ⟨e, g, e0, g0, el, gl, bq, br, q⟩⟩
theorem rd_ra {vx vy : V} {us ws : List Rat} {n : Nat} {op : List Rat → List Rat → List Rat} {E : XK} {R : VK} (hX : RwAt K C H vx us) (hY : RwAt K C H vy ws) (le : us.length = ws.length) (bq : AllB n us) (br : AllB n ws)
    (q : ∀ H' y, Same H H' → RwAt K C H' y (op us ws) → R y H') : rBin C (spOp K C CU n op) E vx vy H R := by
  obtain ⟨x, dx, b, xs, e1, hx, _⟩ := id hX
  obtain ⟨y, dy, d, ys, e2, hy, _⟩ := id hY
  exact ⟨x, y, dx, dy, _, _, e1, e2, hx, hy, vx, vy, us, ws, rfl, hX, hY, fun ne => absurd le ne, fun _ => ⟨bq, br, q⟩⟩
theorem rd_cr {vx : V} {us : List Rat} {n : Nat} {E : XK} {R : VK} (hX : RwAt K C H vx us) (n2 : 2 ≤ n) (n24 : n ≤ 24) (le : n + 1 ≤ us.length) (q : ∀ H' y, Same H H' → RwAt K C H' y (us.take (n + 1)) → R y H') : spCu K C CO CL [vx, .int (n : Nat)] H R E :=
  ⟨vx, _, us, true, rfl, hX, .yes (by omega) (by omega), fun z => Bool.noConfusion z, fun _ i e => by
    obtain rfl := V.int.inj e
    exact ⟨fun z => by omega, fun _ => by rw [Int.toNat_natCast]; exact q⟩⟩
theorem rd_cs {vx : V} {qs : List Rat} {n : Nat} {E : XK} {R : VK} (hX : StAt K S H vx qs) (n2 : 2 ≤ n) (n24 : n ≤ 24) (le : n ≤ qs.length) (q : ∀ H' y, Same H H' → StAt K S H' y (qs.take n) → R y H') : spCuS K S CO CL [vx, .int (n : Nat)] H R E :=
  ⟨vx, _, qs, true, rfl, hX, .yes (by omega) (by omega), fun z => Bool.noConfusion z, fun _ i e => by
    obtain rfl := V.int.inj e
    exact ⟨fun z => by omega, fun _ => by rw [Int.toNat_natCast]; exact q⟩⟩
/-- where an object stands, and that a name is no field of it -/
theorem RwAt.its {v : V} {us : List Rat} (h : RwAt K C H v us) : ∃ x dx fs, v = .ref x ∧ H x = some (.ins C dx fs) ∧ fs.lookup ("numbers" : Str) = none ∧ fs.lookup ("cut" : Str) = none ∧ fs.lookup ("behind" : Str) = none := by
  obtain ⟨x, dx, b, xs, e, h1, _⟩ := h
  exact ⟨x, dx, _, e, h1, rfl, rfl, rfl⟩
theorem StAt.its {v : V} {qs : List Rat} (h : StAt K S H v qs) : ∃ x dx fs, v = .ref x ∧ H x = some (.ins S dx fs) ∧ fs.lookup ("numbers" : Str) = none ∧ fs.lookup ("cut" : Str) = none := by
  obtain ⟨x, dx, b, xs, _, _, _, e, h1, _⟩ := h
  exact ⟨x, dx, _, e, h1, rfl, rfl⟩
end
end Kx
end
section
set_option maxHeartbeats 4000000
namespace Kx
open PySem PySem.Spec PyProof.Rows L2 RZ
/-! ### lines solved, one place after another -/
def colL (rows : List (List Rat)) (k : Nat) : List Rat := rows.map fun r => r.getD k 0
def tt (rows : List (List Rat)) (i k : Nat) : Rat := (rows.getD i []).getD k 0
theorem colL_len (rows : List (List Rat)) (k : Nat) : (colL rows k).length = rows.length := by unfold colL; rw [List.length_map]
theorem col_at (rows : List (List Rat)) (k i : Nat) : ser (colL rows k) i = tt rows i k := by
  show List.getD _ _ _ = _
  unfold colL tt
  rw [List.getD_eq_getElem?_getD, List.getElem?_map, List.getD_eq_getElem?_getD (l := rows)]
  cases h : rows[i]? with
  | none => rfl
  | some r => rfl
def slvL (rows : List (List Rat)) (ws : List Rat) : Nat → List Rat
  | 0 => []
  | k + 1 => slvL rows ws k ++ [(ws.getD k 0 - dotL (slvL rows ws k) (colL rows k)) / tt rows k k]
theorem slvL_len (rows : List (List Rat)) (ws : List Rat) : ∀ k, (slvL rows ws k).length = k
  | 0 => rfl
  | k + 1 => by
    show (slvL rows ws k ++ [_]).length = _
    rw [List.length_append, slvL_len rows ws k]
    rfl
theorem slvL_pre (rows : List (List Rat)) (ws : List Rat) (k : Nat) : ∀ n, k ≤ n → ∀ i, i < k → ser (slvL rows ws n) i = ser (slvL rows ws k) i := by
  intro n h
  induction h with
  | refl => exact fun _ _ => rfl
  | step h ih =>
    rename_i m
    intro i hi
    rw [← ih i hi]
    have l := slvL_len rows ws m
    have h' : k ≤ m := h
    show List.getD (slvL rows ws m ++ [_]) i 0 = List.getD (slvL rows ws m) i 0
    rw [List.getD_eq_getElem?_getD, List.getElem?_append_left (by omega), ← List.getD_eq_getElem?_getD]
theorem slvL_last (rows : List (List Rat)) (ws : List Rat) (k : Nat) : ser (slvL rows ws (k + 1)) k = (ws.getD k 0 - dotL (slvL rows ws k) (colL rows k)) / tt rows k k := by
  show List.getD (slvL rows ws k ++ [_]) k 0 = _
  have l := slvL_len rows ws k
  rw [List.getD_eq_getElem?_getD, List.getElem?_append_right (by omega), l, Nat.sub_self]
  rfl
theorem dot_pre {rows : List (List Rat)} {ws : List Rat} {n k : Nat} (l : rows.length = n) (hk : k ≤ n) (c : Nat) : dotL (slvL rows ws k) (colL rows c) = sumN (fun i => ser (slvL rows ws n) i * tt rows i c) k := by
  unfold dotL
  rw [slvL_len, colL_len, l, Nat.min_eq_left hk, dotT_sum]
  exact sum_congr fun i hi => by rw [slvL_pre rows ws k n hk i hi, col_at]
/-- the factors mix the lines to what is wanted -/
theorem slv_mix {rows : List (List Rat)} {ws : List Rat} {n : Nat} (l : rows.length = n) (lw : ws.length = n) (low : ∀ i k, k < i → i < n → tt rows i k = 0) (dg : ∀ k, k < n → tt rows k k ≠ 0) : mixL n (slvL rows ws n) rows = ws := by
  apply List.ext_getElem?
  intro k
  rcases Nat.lt_or_ge k n with c | c
  · unfold mixL
    rw [List.getElem?_map, List.getElem?_range c]
    show some (dotL (slvL rows ws n) (colL rows k)) = _
    rw [dot_pre l (Nat.le_refl n)]
    have e1 : sumN (fun i => ser (slvL rows ws n) i * tt rows i k) n = sumN (fun i => ser (slvL rows ws n) i * tt rows i k) (k + 1) := by
      have : ∀ m, k + 1 ≤ m → m ≤ n → sumN (fun i => ser (slvL rows ws n) i * tt rows i k) m = sumN (fun i => ser (slvL rows ws n) i * tt rows i k) (k + 1) := by
        intro m h
        induction h with
        | refl => exact fun _ => rfl
        | step h ih =>
          rename_i m
          intro hm
          show sumN _ m + ser (slvL rows ws n) m * tt rows m k = _
          have h' : k + 1 ≤ m := h
          rw [ih (by omega), low m k (by omega) (by omega), Rat.mul_zero, Rat.add_zero]
      exact this n (by omega) (Nat.le_refl _)
    rw [e1]
    show some (sumN _ k + ser (slvL rows ws n) k * tt rows k k) = _
    rw [← dot_pre l (by omega) k, slvL_pre rows ws (k + 1) n (by omega) k (by omega), slvL_last, Rat.div_mul_cancel (dg k c)]
    have ew := List.getElem?_eq_getElem (l := ws) (i := k) (by omega)
    rw [List.getD_eq_getElem?_getD, ew]
    show some (_ + (ws[k] - _)) = some ws[k]
    congr 1
    grind
  · rw [List.getElem?_eq_none (by rw [mixL_len]; exact c), List.getElem?_eq_none (by omega)]
/-! ### steps turned back -/
def stL (n : Nat) : List Rat := 1 :: List.replicate (n - 1) 0
theorem stL_len {n : Nat} (h : 1 ≤ n) : (stL n).length = n := by
  unfold stL
  rw [List.length_cons, List.length_replicate]
  omega
def invL (rs : List Rat) : List Rat := slvL (tabL rs) (stL rs.length) rs.length
theorem invL_len (rs : List Rat) : (invL rs).length = rs.length := slvL_len _ _ _
theorem tt_tab {rs : List Rat} {i k : Nat} (hi : i < rs.length) (hk : k < rs.length) : tt (tabL rs) i k = powS (serS rs) (i + 1) (k + 1) := by
  have e : (tabL rs).getD i [] = (powL (0 :: rs) i).drop 1 := by
    unfold tabL
    rw [List.getD_eq_getElem?_getD, List.getElem?_map, List.getElem?_range hi]
    rfl
  unfold tt
  rw [e]
  exact pow_at hk
theorem rat_ne {a b : Rat} (ha : a ≠ 0) (hb : b ≠ 0) : a * b ≠ 0 := fun h => by
  have h2 : a * b / b = 0 := by rw [h, Rat.div_def, Rat.zero_mul]
  rw [Rat.mul_div_cancel hb] at h2
  exact ha h2
/-- the lead's powers stand on the diagonal -/
theorem pow_dg {f : Ser} (f0 : f 0 = 0) : ∀ k, powS f (k + 1) (k + 1) = powS f k k * f 1 := fun k => by
  show sumN (fun i => powS f k i * f (k + 1 - i)) (k + 1 + 1) = _
  show sumN (fun i => powS f k i * f (k + 1 - i)) (k + 1) + powS f k (k + 1) * f (k + 1 - (k + 1)) = _
  rw [Nat.sub_self, f0, Rat.mul_zero, Rat.add_zero]
  show sumN (fun i => powS f k i * f (k + 1 - i)) k + powS f k k * f (k + 1 - k) = _
  rw [sum_zero fun i hi => by rw [powS_low f0 k i hi, Rat.zero_mul], Rat.zero_add, show k + 1 - k = 1 by omega]
theorem pow_dg_ne {f : Ser} (f0 : f 0 = 0) (h : f 1 ≠ 0) : ∀ k, powS f k k ≠ 0
  | 0 => by
    show (if (0 : Nat) = 0 then (1 : Rat) else 0) ≠ 0
    rw [if_pos rfl]
    decide
  | k + 1 => by
    rw [pow_dg f0]
    exact rat_ne (pow_dg_ne f0 h k) h
def Trn (rs : List Rat) : Prop := serS rs 1 ≠ 0
theorem inv_cmp {rs : List Rat} (l1 : 1 ≤ rs.length) (h : Trn rs) : cmpL (invL rs) rs = stL rs.length := by
  rw [← mix_step (invL_len rs)]
  refine slv_mix (tabL_len rs) (stL_len l1) (fun i k hk hi => ?_) (fun k hk => ?_)
  · rw [tt_tab hi (by omega)]
    exact powS_low (serS_zero rs) _ _ (by omega)
  · rw [tt_tab hk hk]
    exact pow_dg_ne (serS_zero rs) h _
theorem stL_eq {n : Nat} (h : 1 ≤ n) : serS (stL n) = xS := serS_still (n - 1)
theorem cmp_st (qs : List Rat) (n : Nat) : cmpL qs (stL n) = qs := cmp_still qs (n - 1)
theorem st_cmp (qs : List Rat) (h : 1 ≤ qs.length) : cmpL (stL qs.length) qs = qs := still_cmp qs (qs.length - 1) (by omega)
theorem cmp_lead {qs rs : List Rat} (l : qs.length = rs.length) (l1 : 1 ≤ qs.length) : serS (cmpL qs rs) 1 = serS qs 1 * serS rs 1 := by
  rw [serS_cmp qs rs 1 (by omega)]
  show sumN (fun j => serS qs j * powS (serS rs) j 1) 2 = _
  show (0 : Rat) + serS qs 0 * powS (serS rs) 0 1 + serS qs 1 * powS (serS rs) 1 1 = _
  rw [powS_one, show serS qs 0 = 0 from rfl, Rat.zero_mul, Rat.add_zero, Rat.zero_add]
theorem inv_trn {rs : List Rat} (l1 : 1 ≤ rs.length) (h : Trn rs) : serS (invL rs) 1 * serS rs 1 = 1 := by
  rw [← cmp_lead (invL_len rs) (by rw [invL_len]; exact l1), inv_cmp l1 h]
  rfl
theorem inv_turn {rs : List Rat} (l1 : 1 ≤ rs.length) (h : Trn rs) : Trn (invL rs) := fun z => by
  have := inv_trn l1 h
  rw [z, Rat.zero_mul] at this
  exact absurd this (by decide)
/-- turned back twice -/
theorem inv_inv {rs : List Rat} (l1 : 1 ≤ rs.length) (h : Trn rs) : invL (invL rs) = rs := by
  have e1 := inv_cmp l1 h
  have e2 := inv_cmp (rs := invL rs) (by rw [invL_len]; exact l1) (inv_turn l1 h)
  have l : (invL (invL rs)).length = rs.length := by rw [invL_len, invL_len]
  have := cmp_assoc (qs := invL (invL rs)) (rs := invL rs) (ts := rs) (by rw [l, invL_len])
  rw [e2, e1, cmp_st, invL_len, st_cmp rs l1] at this
  exact this.symm
theorem cmp_inv {rs : List Rat} (l1 : 1 ≤ rs.length) (h : Trn rs) : cmpL rs (invL rs) = stL rs.length := by
  have e2 := inv_cmp (rs := invL rs) (by rw [invL_len]; exact l1) (inv_turn l1 h)
  rw [inv_inv l1 h, invL_len] at e2
  exact e2
/-- there is one alone -/
theorem inv_uni {xs rs : List Rat} (l : xs.length = rs.length) (l1 : 1 ≤ rs.length) (h : Trn rs) (e : cmpL xs rs = stL rs.length) : xs = invL rs := by
  have a := cmp_assoc (qs := xs) (rs := rs) (ts := invL rs) l
  rw [e, cmp_inv l1 h, cmp_st] at a
  have z := st_cmp (invL rs) (by rw [invL_len]; exact l1)
  rw [invL_len] at z
  rw [z] at a
  exact a.symm
theorem cmp_trn {qs rs : List Rat} (l : qs.length = rs.length) (l1 : 1 ≤ qs.length) (h : Trn qs) (h' : Trn rs) : Trn (cmpL qs rs) := by
  show serS (cmpL qs rs) 1 ≠ 0
  rw [cmp_lead l l1]
  exact rat_ne h h'
theorem inv_mul {qs rs : List Rat} (l : qs.length = rs.length) (l1 : 1 ≤ qs.length) (h : Trn qs) (h' : Trn rs) : invL (cmpL qs rs) = cmpL (invL rs) (invL qs) := by
  symm
  refine inv_uni (by rw [cmpL_len, cmpL_len, invL_len]; exact l.symm) (by rw [cmpL_len]; exact l1) (cmp_trn l l1 h h') ?_
  rw [cmp_assoc (by rw [invL_len, invL_len]; exact l.symm), ← cmp_assoc (qs := invL qs) (rs := qs) (ts := rs) (invL_len qs), inv_cmp l1 h, l, st_cmp rs (by omega), inv_cmp (by omega) h', cmpL_len, l]
theorem stL_take {n m : Nat} (h1 : 1 ≤ m) (h : m ≤ n) : (stL n).take m = stL m := by
  unfold stL
  obtain ⟨m', rfl⟩ : ∃ m', m = m' + 1 := ⟨m - 1, by omega⟩
  rw [List.take_succ_cons, List.take_replicate]
  congr 2
  omega
theorem inv_take {rs : List Rat} {m : Nat} (m1 : 1 ≤ m) (hm : m ≤ rs.length) (h : Trn rs) : invL (rs.take m) = (invL rs).take m := by
  have lt : (rs.take m).length = m := by rw [List.length_take]; omega
  have ht : Trn (rs.take m) := by
    show serS _ 1 ≠ 0
    rw [serS_take rs m 1 (by omega)]
    exact h
  symm
  refine inv_uni (by rw [List.length_take, invL_len, List.length_take]) (by omega) ht ?_
  rw [cmp_take (by rw [invL_len]; exact hm), inv_cmp (by omega) h, lt, stL_take m1 hm]
/-- done so many times -/
def itL (qs : List Rat) : Nat → List Rat
  | 0 => stL qs.length
  | k + 1 => cmpL qs (itL qs k)
theorem itL_len {qs : List Rat} (h : 1 ≤ qs.length) : ∀ k, (itL qs k).length = qs.length
  | 0 => stL_len h
  | k + 1 => cmpL_len _ _
theorem itL_one {qs : List Rat} : itL qs 1 = qs := cmp_st qs _
theorem itL_add {qs : List Rat} (h : 1 ≤ qs.length) (a : Nat) : ∀ b, itL qs (b + a) = cmpL (itL qs b) (itL qs a)
  | 0 => by
    rw [Nat.zero_add]
    show _ = cmpL (stL qs.length) (itL qs a)
    have := st_cmp (itL qs a) (by rw [itL_len h]; exact h)
    rw [itL_len h] at this
    exact this.symm
  | b + 1 => by
    rw [Nat.add_right_comm b 1 a]
    show cmpL qs (itL qs (b + a)) = cmpL (cmpL qs (itL qs b)) (itL qs a)
    rw [itL_add h a b, cmp_assoc (by rw [itL_len h])]
theorem itL_snoc {qs : List Rat} (h : 1 ≤ qs.length) (k : Nat) : itL qs (k + 1) = cmpL (itL qs k) qs := by
  have := itL_add h 1 k
  rw [itL_one] at this
  exact this
theorem it_inv {qs : List Rat} (l1 : 1 ≤ qs.length) (h : Trn qs) : ∀ k, cmpL (itL qs k) (itL (invL qs) k) = stL qs.length
  | 0 => by
    show cmpL (stL qs.length) (stL (invL qs).length) = _
    rw [cmp_st]
  | k + 1 => by
    have li : 1 ≤ (invL qs).length := by rw [invL_len]; exact l1
    rw [itL_snoc l1 k]
    show cmpL (cmpL (itL qs k) qs) (cmpL (invL qs) (itL (invL qs) k)) = _
    rw [cmp_assoc (itL_len l1 k), ← cmp_assoc (qs := qs) (rs := invL qs) (by rw [invL_len]), cmp_inv l1 h]
    have z := st_cmp (itL (invL qs) k) (by rw [itL_len li]; exact li)
    rw [itL_len li, invL_len] at z
    rw [z]
    exact it_inv l1 h k
end Kx
end
section
set_option maxHeartbeats 4000000
namespace Kx
open PySem PySem.Spec PyProof.Rows L2 RZ
/-! ### weights by place -/
def GrS (s n : Nat) (F : Ser) : Prop := ∀ k, k ≤ n → Zq (s * k) (F k)
def Gr (s : Nat) (qs : List Rat) : Prop := GrS s qs.length (serS qs)
theorem zw_sum {e : Nat} {f : Nat → Rat} : ∀ m, (∀ i, i < m → Zw e 1 1024 (f i)) → Zw e m 1024 (sumN f m)
  | 0, _ => Zw.zero
  | m + 1, h => (zw_sum m fun i hi => h i (by omega)).add (h m (by omega))
theorem GrS.mul {s n : Nat} {f g : Ser} (hf : GrS s n f) (hg : GrS s n g) (l : n ≤ 30) : GrS s n (mulS f g) := fun k hk => by
  refine (zw_sum (e := s * k) (k + 1) fun i hi => ?_).red (by omega)
  have := (hf i (by omega)).mul (hg (k - i) (by omega))
  rw [← Nat.mul_add, show i + (k - i) = k by omega] at this
  exact this
theorem GrS.pow {s n : Nat} {f : Ser} (h : GrS s n f) (l : n ≤ 30) : ∀ a, GrS s n (powS f (a + 1))
  | 0 => by rw [powS_one]; exact h
  | a + 1 => (GrS.pow h l a).mul h l
theorem GrS.cmp {s t n : Nat} {u f : Ser} (hu : GrS s n u) (u0 : u 0 = 0) (hf : GrS t n f) (l : n ≤ 30) : GrS (s + t) n (cmpS u f) := fun k hk => by
  refine (zw_sum (e := (s + t) * k) (k + 1) fun j hj => ?_).red (by omega)
  rw [Nat.add_mul]
  match j, hj with
  | 0, _ =>
    rw [u0, Rat.zero_mul]
    exact Zw.zero
  | j + 1, hj => exact ((hu (j + 1) (by omega)).mono (Nat.mul_le_mul_left s (by omega))).mul (hf.pow l j k hk)
theorem Gr.cmp {s t : Nat} {qs rs : List Rat} (h : Gr s qs) (h' : Gr t rs) (l : qs.length = rs.length) (l30 : qs.length ≤ 30) : Gr (s + t) (cmpL qs rs) := fun k hk => by
  rw [cmpL_len] at hk
  rw [serS_cmp qs rs k (by omega)]
  have h2 : GrS t qs.length (serS rs) := by rw [l]; exact h'
  exact GrS.cmp h rfl h2 l30 k hk
theorem gr_of {e : Nat} {qs : List Rat} (h : AllZ e qs) : Gr e qs := fun k hk => by
  match k, hk with
  | 0, _ => exact Zq.zero
  | k + 1, _ => exact (h.getD k).mono (Nat.le_mul_of_pos_right _ (Nat.succ_pos _))
theorem Gr.all {s : Nat} {qs : List Rat} (h : Gr s qs) : AllZ (s * qs.length) qs := fun q hq => by
  obtain ⟨j, hj⟩ := List.getElem?_of_mem hq
  have hl : j < qs.length := by
    rcases Nat.lt_or_ge j qs.length with c | c
    · exact c
    · rw [List.getElem?_eq_none c] at hj; cases hj
  have := h (j + 1) (by omega)
  have e : serS qs (j + 1) = q := by
    show qs.getD j 0 = q
    rw [List.getD_eq_getElem?_getD, hj]
    rfl
  rw [e] at this
  exact this.mono (Nat.mul_le_mul_left s (by omega))
theorem Gr.mono {s t : Nat} {qs : List Rat} (h : Gr s qs) (l : s ≤ t) : Gr t qs := fun k hk => (h k hk).mono (Nat.mul_le_mul_right k l)
theorem Gr.take {s m : Nat} {qs : List Rat} (h : Gr s qs) : Gr s (qs.take m) := fun k hk => by
  rw [List.length_take] at hk
  rw [serS_take qs m k (by omega)]
  exact h k (by omega)
theorem powL_eq (rs : List Rat) (k : Nat) : powL (0 :: rs) k = toL (rs.length + 1) (powS (serS rs) (k + 1)) := by
  have e : (0 :: rs) = toL (rs.length + 1) (serS rs) := (toL_ser (0 :: rs)).symm
  rw [e, powL_toL]
theorem Gr.pows {s : Nat} {rs : List Rat} (h : Gr s rs) (l : rs.length ≤ 30) (k i : Nat) {q : Rat} (hq : (powL (0 :: rs) k)[i]? = some q) : Zq (s * i) q := by
  rw [powL_eq] at hq
  have hi : i < rs.length + 1 := by
    rcases Nat.lt_or_ge i (rs.length + 1) with c | c
    · exact c
    · rw [List.getElem?_eq_none (by rw [toL_len]; exact c)] at hq; cases hq
  rw [toL_get hi] at hq
  rw [← Option.some.inj hq]
  exact GrS.pow h l k i (by omega)
theorem Gr.powz {s : Nat} {rs : List Rat} (h : Gr s rs) (l : rs.length ≤ 30) (k : Nat) : AllZ (s * rs.length) (powL (0 :: rs) k) := fun q hq => by
  obtain ⟨i, hi⟩ := List.getElem?_of_mem hq
  have hl : i < rs.length + 1 := by
    rcases Nat.lt_or_ge i (rs.length + 1) with c | c
    · exact c
    · rw [List.getElem?_eq_none (by rw [powL_len, List.length_cons]; exact c)] at hi; cases hi
  exact (h.pows l k i hi).mono (Nat.mul_le_mul_left s (by omega))
theorem stL_gr (n : Nat) : Gr 1 (stL n) := gr_of (still_z (n - 1))
theorem itL_gr {s : Nat} {qs : List Rat} (h : Gr s qs) (l1 : 1 ≤ qs.length) (l : qs.length ≤ 30) : ∀ k, Gr (s * (k + 1)) (itL qs (k + 1))
  | 0 => by
    rw [itL_one, Nat.zero_add, Nat.mul_one]
    exact h
  | k + 1 => by
    have := h.cmp (itL_gr h l1 l k) (by rw [itL_len l1]) l
    rw [Nat.mul_add s (k + 1) 1, Nat.mul_one, Nat.add_comm]
    exact this
/-! ### the weights of a step turned back -/
def Zb (e N : Nat) (q : Rat) : Prop := ∃ z : Int, q * ((6 ^ e : Nat) : Rat) = (z : Rat) ∧ z.natAbs ≤ N
theorem Zb.zero {e N : Nat} : Zb e N 0 := ⟨0, by rw [Rat.zero_mul]; rfl, by simp⟩
theorem Zb.one : Zb 0 1 1 := ⟨1, by rw [Rat.one_mul]; rfl, by decide⟩
theorem Zq.b {e : Nat} {q : Rat} (h : Zq e q) : Zb e (2 ^ (30 * e)) q := by
  obtain ⟨z, hz, lz⟩ := h
  exact ⟨z, hz, by omega⟩
theorem Zb.mono {e N M : Nat} {q : Rat} (h : Zb e N q) (l : N ≤ M) : Zb e M q := by
  obtain ⟨z, hz, lz⟩ := h
  exact ⟨z, hz, Nat.le_trans lz l⟩
theorem Zb.add {e N M : Nat} {a b : Rat} (ha : Zb e N a) (hb : Zb e M b) : Zb e (N + M) (a + b) := by
  obtain ⟨x, hx, lx⟩ := ha
  obtain ⟨y, hy, ly⟩ := hb
  exact ⟨x + y, by rw [Rat.add_mul, hx, hy, Rat.intCast_add], Nat.le_trans (Int.natAbs_add_le x y) (by omega)⟩
theorem Zb.neg {e N : Nat} {a : Rat} (ha : Zb e N a) : Zb e N (-a) := by
  obtain ⟨x, hx, lx⟩ := ha
  exact ⟨-x, by rw [Rat.neg_mul, hx, Rat.intCast_neg], by rw [Int.natAbs_neg]; exact lx⟩
theorem Zb.mul {e f N M : Nat} {a b : Rat} (ha : Zb e N a) (hb : Zb f M b) : Zb (e + f) (N * M) (a * b) := by
  obtain ⟨x, hx, lx⟩ := ha
  obtain ⟨y, hy, ly⟩ := hb
  refine ⟨x * y, ?_, ?_⟩
  · rw [Rat.intCast_mul, ← hx, ← hy, Nat.pow_add, Rat.natCast_mul]
    grind
  · rw [Int.natAbs_mul]
    exact Nat.mul_le_mul lx ly
theorem Zb.up {e N d : Nat} {a : Rat} (ha : Zb e N a) : Zb (e + d) (2 ^ (3 * d) * N) a := by
  obtain ⟨x, hx, lx⟩ := ha
  refine ⟨x * ((6 ^ d : Nat) : Int), ?_, ?_⟩
  · rw [Rat.intCast_mul, ← hx, Nat.pow_add, Rat.natCast_mul]
    have : (((6 ^ d : Nat) : Int) : Rat) = ((6 ^ d : Nat) : Rat) := rfl
    rw [this]
    grind
  · rw [Int.natAbs_mul, Int.natAbs_natCast, Nat.mul_comm]
    exact Nat.mul_le_mul (pow6_le d) lx
theorem Zb.upTo {e f N M : Nat} {a : Rat} (ha : Zb e N a) (l : e ≤ f) (h : 2 ^ (3 * (f - e)) * N ≤ M) : Zb f M a := by
  have := ha.up (d := f - e)
  rw [show e + (f - e) = f by omega] at this
  exact this.mono h
theorem Zb.q {e N : Nat} {a : Rat} (ha : Zb e N a) (h : 32 * N ≤ 2 ^ (30 * e)) : Zq e a := by
  obtain ⟨x, hx, lx⟩ := ha
  exact ⟨x, hx, by rw [Nat.one_mul]; exact Nat.le_trans (Nat.mul_le_mul_left 32 lx) h⟩
def sumK (f : Nat → Nat) : Nat → Nat
  | 0 => 0
  | n + 1 => sumK f n + f n
theorem zb_sum {e : Nat} {f : Nat → Rat} {N : Nat → Nat} : ∀ m, (∀ i, i < m → Zb e (N i) (f i)) → Zb e (sumK N m) (sumN f m)
  | 0, _ => Zb.zero
  | m + 1, h => (zb_sum m fun i hi => h i (by omega)).add (h m (by omega))
theorem sum_shift (f : Nat → Rat) (a : Nat) : ∀ k, sumN f (a + k) = sumN f a + sumN (fun i => f (a + i)) k
  | 0 => by
    show _ = _ + (0 : Rat)
    rw [Rat.add_zero]
    rfl
  | k + 1 => by
    show sumN f (a + k) + f (a + k) = _ + (sumN _ k + f (a + k))
    rw [sum_shift f a k, Rat.add_assoc]
theorem geo_le (a b : Nat) : ∀ m, sumK (fun i => (a * b) ^ i * b ^ (m - i)) (m + 1) ≤ ((a + 1) * b) ^ m := by
  intro m
  have e : ∀ k, k ≤ m + 1 → sumK (fun i => (a * b) ^ i * b ^ (m - i)) k = sumK (fun i => a ^ i) k * b ^ m := by
    intro k
    induction k with
    | zero => intro _; show 0 = 0 * _; rw [Nat.zero_mul]
    | succ k ih =>
      intro hk
      show sumK _ k + (a * b) ^ k * b ^ (m - k) = (sumK _ k + a ^ k) * b ^ m
      rw [ih (by omega), Nat.add_mul, Nat.mul_pow, Nat.mul_assoc, ← Nat.pow_add, show k + (m - k) = m by omega]
  rw [e (m + 1) (Nat.le_refl _), Nat.mul_pow]
  refine Nat.mul_le_mul_right _ ?_
  clear e
  induction m with
  | zero => show 0 + a ^ 0 ≤ (a + 1) ^ 0; simp
  | succ m ih =>
    show sumK _ (m + 1) + a ^ (m + 1) ≤ (a + 1) ^ (m + 1)
    have h1 : a ^ m ≤ (a + 1) ^ m := Nat.pow_le_pow_left (by omega) m
    have h2 : a ^ m * a ≤ (a + 1) ^ m * a := Nat.mul_le_mul_right a h1
    rw [Nat.pow_succ, Nat.pow_succ, Nat.mul_add, Nat.mul_one]
    omega
theorem geo_two (d : Nat) : ∀ m, sumK (fun i => (2 * d) ^ i * d ^ (m - i)) m ≤ (2 * d) ^ m := by
  intro m
  have e : ∀ k, k ≤ m → sumK (fun i => (2 * d) ^ i * d ^ (m - i)) k ≤ 2 ^ k * d ^ m := by
    intro k
    induction k with
    | zero => intro _; exact Nat.zero_le _
    | succ k ih =>
      intro hk
      show sumK _ k + (2 * d) ^ k * d ^ (m - k) ≤ _
      have h1 := ih (by omega)
      rw [Nat.mul_pow, Nat.mul_assoc, ← Nat.pow_add, show k + (m - k) = m by omega, Nat.pow_succ]
      have : 2 ^ k * 2 * d ^ m = 2 ^ k * d ^ m + 2 ^ k * d ^ m := by rw [Nat.mul_comm (2 ^ k) 2, Nat.mul_assoc, Nat.two_mul]
      omega
  have := e m (Nat.le_refl m)
  rw [Nat.mul_pow]
  exact this
theorem sumK_mono {f g : Nat → Nat} : ∀ m, (∀ i, i < m → f i ≤ g i) → sumK f m ≤ sumK g m
  | 0, _ => Nat.le_refl _
  | m + 1, h => Nat.add_le_add (sumK_mono m fun i hi => h i (by omega)) (h m (by omega))
/-- the powers of a step with the lead 1 -/
theorem pow_zb {F : Ser} {n r b : Nat} (f0 : F 0 = 0) (h : ∀ m, 1 + m ≤ n → Zb (r * m) (b ^ m) (F (1 + m))) : ∀ a m, a + m ≤ n → Zb (r * m) ((a * b) ^ m) (powS F a (a + m))
  | 0, m, _ => by
    show Zb _ _ (if 0 + m = 0 then (1 : Rat) else 0)
    match m with
    | 0 => exact Zb.one
    | m + 1 =>
      rw [if_neg (by omega)]
      exact Zb.zero
  | a + 1, m, hm => by
    have e : powS F (a + 1) (a + 1 + m) = sumN (fun i => powS F a (a + i) * F (1 + (m - i))) (m + 1) := by
      show sumN (fun i => powS F a i * F (a + 1 + m - i)) (a + 1 + m + 1) = _
      show sumN (fun i => powS F a i * F (a + 1 + m - i)) (a + 1 + m) + powS F a (a + 1 + m) * F (a + 1 + m - (a + 1 + m)) = _
      rw [Nat.sub_self, f0, Rat.mul_zero, Rat.add_zero, show a + 1 + m = a + (m + 1) by omega, sum_shift, sum_zero fun i hi => by rw [powS_low f0 a i hi, Rat.zero_mul], Rat.zero_add]
      exact sum_congr fun i hi => by rw [show a + (m + 1) - (a + i) = 1 + (m - i) by omega]
    rw [e]
    refine (zb_sum (N := fun i => (a * b) ^ i * b ^ (m - i)) (m + 1) fun i hi => ?_).mono (geo_le a b m)
    have := (pow_zb f0 h a i (by omega)).mul (h (m - i) (by omega))
    rw [← Nat.mul_add, show i + (m - i) = m by omega] at this
    exact this
def cp (c : Rat) : Nat → Rat
  | 0 => 1
  | k + 1 => cp c k * c
theorem pow_cp (F : Ser) (c : Rat) : ∀ j k, powS (fun i => F i * c) j k = cp c j * powS F j k
  | 0, k => by
    show powS F 0 k = 1 * _
    rw [Rat.one_mul]
  | j + 1, k => by
    show sumN (fun i => powS (fun i => F i * c) j i * (F (k - i) * c)) (k + 1) = cp c j * c * sumN (fun i => powS F j i * F (k - i)) (k + 1)
    rw [← sum_mul]
    refine sum_congr fun i _ => ?_
    rw [pow_cp F c j i]
    grind
theorem cp_inv {c d : Rat} (h : c * d = 1) : ∀ k, cp c k * cp d k = 1
  | 0 => by show (1 : Rat) * 1 = 1; rw [Rat.one_mul]
  | k + 1 => by
    show cp c k * c * (cp d k * d) = 1
    have := cp_inv h k
    grind
theorem cp_zb {d : Rat} {e N : Nat} (h : Zb e N d) : ∀ k, Zb (e * k) (N ^ k) (cp d k)
  | 0 => Zb.one
  | k + 1 => (cp_zb h k).mul h
/-- the normed step turned back -/
theorem inv_zb {F G : Ser} {n r b : Nat} (n24 : n ≤ 24) (f0 : F 0 = 0) (f1 : F 1 = 1) (h : ∀ m, 1 + m ≤ n → Zb (r * m) (b ^ m) (F (1 + m))) (g0 : G 0 = 0) (hg : ∀ k, k ≤ n → cmpS G F k = xS k) : ∀ m, 1 + m ≤ n → Zb (r * m) ((48 * b) ^ m) (G (1 + m)) := by
  intro m
  induction m using Nat.strongRecOn with
  | _ m ih =>
    intro hm
    have d1 : ∀ k, powS F k k = 1 := fun k => by
      induction k with
      | zero => rfl
      | succ k ihk => rw [pow_dg f0, ihk, f1, Rat.one_mul]
    have e : xS (1 + m) = sumN (fun i => G (1 + i) * powS F (1 + i) (1 + i + (m - i))) m + G (1 + m) := by
      rw [← hg (1 + m) hm]
      show sumN (fun j => G j * powS F j (1 + m)) (1 + m) + G (1 + m) * powS F (1 + m) (1 + m) = _
      rw [d1, Rat.mul_one, sum_shift]
      congr 1
      show (0 : Rat) + G 0 * powS F 0 (1 + m) + _ = _
      rw [g0, Rat.zero_mul, Rat.add_zero, Rat.zero_add]
      exact sum_congr fun i hi => by rw [show 1 + i + (m - i) = 1 + m by omega]
    have eg : G (1 + m) = xS (1 + m) + -(sumN (fun i => G (1 + i) * powS F (1 + i) (1 + i + (m - i))) m) := by
      rw [e]
      grind
    match m, ih, hm, eg with
    | 0, _, _, eg =>
      rw [eg]
      show Zb 0 1 ((1 : Rat) + -(0 : Rat))
      rw [show (1 : Rat) + -(0 : Rat) = 1 by grind]
      exact Zb.one
    | m + 1, ih, hm, eg =>
      rw [eg]
      show Zb _ _ ((if 1 + (m + 1) = 1 then (1 : Rat) else 0) + _)
      rw [if_neg (by omega), Rat.zero_add]
      refine ((zb_sum (N := fun i => (2 * (24 * b)) ^ i * (24 * b) ^ (m + 1 - i)) (m + 1) fun i hi => ?_).mono (Nat.le_trans (geo_two (24 * b) (m + 1)) (Nat.le_of_eq (by rw [← Nat.mul_assoc])))).neg
      have t := (ih i (by omega) (by omega)).mul (pow_zb f0 h (1 + i) (m + 1 - i) (by omega))
      rw [← Nat.mul_add, show i + (m + 1 - i) = m + 1 by omega] at t
      refine t.mono (Nat.mul_le_mul (Nat.le_of_eq (by rw [← Nat.mul_assoc])) (Nat.pow_le_pow_left (Nat.mul_le_mul_right b (by omega)) _))
/-- the weights of a step turned back -/
theorem inv_gr {rs : List Rat} {s e : Nat} {d : Rat} (l1 : 1 ≤ rs.length) (l7 : rs.length ≤ 7) (s1 : 1 ≤ s) (e1 : 1 ≤ e) (h : Gr s rs) (hd : serS rs 1 * d = 1) (zd : Zb e (2 ^ (30 * e)) d) : Gr (2 * s + 2 * e) (invL rs) := by
  have ht : Trn rs := fun z => by rw [z, Rat.zero_mul] at hd; exact absurd hd (by decide)
  generalize hc : serS rs 1 = c at hd
  let F : Ser := fun k => serS rs k * d
  have fF : serS rs = fun k => F k * c := funext fun k => by
    show _ = serS rs k * d * c
    grind
  have f0 : F 0 = 0 := Rat.zero_mul _
  have f1 : F 1 = 1 := by
    show serS rs 1 * d = 1
    rw [hc]
    exact hd
  have hF : ∀ m, 1 + m ≤ rs.length → Zb ((2 * s + e) * m) ((2 ^ (63 * s + 33 * e)) ^ m) (F (1 + m)) := by
    intro m hm
    match m, hm with
    | 0, _ =>
      show Zb 0 1 (F 1)
      rw [f1]
      exact Zb.one
    | m + 1, hm =>
      have a1 := ((h (1 + (m + 1)) hm).b.mul zd)
      have q1 : s * (m + 1) = s * m + s := by rw [Nat.mul_add, Nat.mul_one]
      have q2 : e * (m + 1) = e * m + e := by rw [Nat.mul_add, Nat.mul_one]
      have q3 : (2 * s + e) * (m + 1) = 2 * (s * m) + 2 * s + e * m + e := by rw [Nat.add_mul, Nat.mul_assoc, q1, q2]; omega
      have q4 : s * (1 + (m + 1)) = s * m + 2 * s := by rw [Nat.mul_add, q1]; omega
      refine a1.upTo ?_ ?_
      · rw [q3, q4]
        omega
      · rw [← Nat.pow_add, ← Nat.pow_add, ← Nat.pow_mul]
        refine Nat.pow_le_pow_right (by decide) ?_
        have q5 : (63 * s + 33 * e) * (m + 1) = 63 * (s * m) + 63 * s + 33 * (e * m) + 33 * e := by rw [Nat.add_mul, Nat.mul_assoc, Nat.mul_assoc, q1, q2]; omega
        rw [q3, q4, q5]
        omega
  let G : Ser := fun k => serS (invL rs) k * cp c k
  have hg : ∀ k, k ≤ rs.length → cmpS G F k = xS k := by
    intro k hk
    have e1 := serS_cmp (invL rs) rs k (by rw [invL_len]; omega)
    rw [inv_cmp l1 ht, stL_eq l1] at e1
    rw [e1]
    refine sum_congr fun j _ => ?_
    show serS (invL rs) j * cp c j * powS F j k = serS (invL rs) j * powS (serS rs) j k
    rw [fF, pow_cp F c j k, Rat.mul_assoc]
  have hG := inv_zb (G := G) (by omega) f0 f1 hF (by show (0 : Rat) * _ = 0; exact Rat.zero_mul _) hg
  intro k hk
  rw [invL_len] at hk
  match k, hk with
  | 0, _ => exact Zq.zero
  | m + 1, hk =>
    have a1 := (hG m (by omega)).mul (cp_zb zd (1 + m))
    have ex : G (1 + m) * cp d (1 + m) = serS (invL rs) (m + 1) := by
      show serS (invL rs) (1 + m) * cp c (1 + m) * cp d (1 + m) = _
      rw [Rat.mul_assoc, cp_inv hd, Rat.mul_one, Nat.add_comm]
    rw [ex] at a1
    have q0 : ∀ a : Nat, 2 * a * (m + 1) = 2 * (a * m) + 2 * a := fun a => by rw [Nat.mul_add, Nat.mul_assoc, Nat.mul_one]
    have q1 : (2 * s + 2 * e) * (m + 1) = 2 * (s * m) + 2 * s + 2 * (e * m) + 2 * e := by rw [Nat.add_mul, q0, q0]; omega
    have q2 : (2 * s + e) * m = 2 * (s * m) + e * m := by rw [Nat.add_mul, Nat.mul_assoc]
    have q3 : e * (1 + m) = e * m + e := by rw [Nat.mul_add]; omega
    refine (a1.upTo (f := (2 * s + 2 * e) * (m + 1)) (M := 2 ^ (30 * ((2 * s + 2 * e) * (m + 1)) - 5)) (by rw [q1, q2, q3]; omega) ?_).q ?_
    · have b1 : (48 * 2 ^ (63 * s + 33 * e)) ^ m ≤ 2 ^ ((6 + (63 * s + 33 * e)) * m) := by
        rw [Nat.pow_mul]
        refine Nat.pow_le_pow_left ?_ m
        rw [Nat.pow_add 2 6]
        exact Nat.mul_le_mul_right _ (show 48 ≤ 2 ^ 6 by decide)
      refine Nat.le_trans (Nat.mul_le_mul_left _ (Nat.mul_le_mul_right _ b1)) ?_
      rw [← Nat.pow_mul 2 (30 * e), ← Nat.pow_add, ← Nat.pow_add]
      refine Nat.pow_le_pow_right (by decide) ?_
      have q4 : (6 + (63 * s + 33 * e)) * m = 6 * m + 63 * (s * m) + 33 * (e * m) := by rw [Nat.add_mul, Nat.add_mul, Nat.mul_assoc, Nat.mul_assoc]; omega
      have q5 : 30 * e * (1 + m) = 30 * (e * m) + 30 * e := by rw [Nat.mul_assoc, q3, Nat.mul_add]
      have m6 : s * m ≤ s * 6 := Nat.mul_le_mul_left s (by omega)
      have m7 : e * m ≤ e * 6 := Nat.mul_le_mul_left e (by omega)
      rw [q4, q5, q1, q2, q3]
      omega
    · rw [show (32 : Nat) = 2 ^ 5 by rfl, ← Nat.pow_add]
      refine Nat.pow_le_pow_right (by decide) ?_
      have : 1 ≤ (2 * s + 2 * e) * (m + 1) := Nat.mul_pos (by omega) (by omega)
      omega
end Kx
end
section
set_option maxHeartbeats 4000000
namespace Kx
open PySem PySem.Spec PyProof.Rows L2 RZ
/-! ### the program's putting in, with weights by place -/
def PowZ (g : Nat) (rs : List Rat) : Prop := ∀ k, k < rs.length → AllZ g (powL (0 :: rs) k)
theorem Gr.pz {s : Nat} {rs : List Rat} (h : Gr s rs) (l : rs.length ≤ 30) : PowZ (s * rs.length) rs := fun k _ => h.powz l k
theorem tabL_zG {g : Nat} {rs : List Rat} (h : PowZ g rs) : ∀ r ∈ tabL rs, AllZ g r := fun r hr => by
  unfold tabL at hr
  obtain ⟨k, hk, rfl⟩ := List.mem_map.mp hr
  exact fun q hq => h k (List.mem_range.mp hk) q (List.mem_of_mem_drop hq)
def spTabG (K : PySem.W.Frag) : Sp := fun vs H Q _ => ∃ (x : V) (qs : List Rat) (g : Nat), vs = [x] ∧ Ls K H x qs ∧ 1 ≤ qs.length ∧ qs.length ≤ 24 ∧ 1 ≤ g ∧ g ≤ 200 ∧ PowZ g qs ∧ GivesLL K H Q (tabL qs)
def spPutG (K : PySem.W.Frag) : Sp := fun vs H Q _ => ∃ (x y : V) (qs rs : List Rat) (e g : Nat), vs = [x, y] ∧ Ls K H x qs ∧ Ls K H y rs ∧ qs.length = rs.length ∧ 1 ≤ rs.length ∧ rs.length ≤ 24 ∧ 1 ≤ e ∧ 1 ≤ g ∧ e + g ≤ 200 ∧ AllZ e qs ∧ PowZ g rs ∧ GivesL K H Q (cmpL qs rs)
def spOpSG (K : PySem.W.Frag) (S CU : Addr) : Sp := fun vs H Q E => ∃ (x y : V) (qs rs : List Rat), vs = [x, y] ∧ StAt K S H x qs ∧ StAt K S H y rs ∧ (qs.length ≠ rs.length → Air H CU (fs2 "UnlikeOrders" "one" "other" [.int (qs.length : Int), .int (rs.length : Int)]) E) ∧
  (qs.length = rs.length → ∃ e g : Nat, 1 ≤ e ∧ 1 ≤ g ∧ e + g ≤ 200 ∧ AllZ e qs ∧ PowZ g rs ∧ GivesS K S H Q (cmpL qs rs))
section
variable {P : Program} {w : World} {K : PySem.W.Frag} {mg : Str → Option Value} {base : Heap} {f C S CF CO CU o0 : Addr} {fd : FuncData}
theorem ok_tabG (F : Fun K "table_lines" "table_lines" F_table_lines f fd) (k0 : KP K o0 0 1) (mZ : mg "ZERO" = some (.ref o0)) (mn : mg "len" = none) (UM : Use P w K mg base CX0 2 "multiplied" ["one", "other"] (spMulL K) []) : FnOk P w K mg base CX0 3 f fd ["numbers"] (spTabG K) := by
  refine F.ok scTb (fun vs H Q E h => ?_) (fun cdv A outer s H vs Q E hr h => ?_)
  · obtain ⟨x, qs, g, rfl, _⟩ := h
    rfl
  obtain ⟨x, qs, g, rfl, ⟨xa, xs, rfl, hx, nx⟩, l1, l24, g0, g2, bq, q⟩ := h
  refine ⟨_, pss_cons (ps_set (i := 1) scTb.nd rfl (Or.inl rfl) (pe_op op_cat (pe_lst (pa_cons (C8.pe_gc (v := .ref o0) rfl ⟨_, mZ, rfl⟩) pa_nil)) (pv 0)))
    (pss_cons (ps_set (i := 2) scTb.nd rfl (Or.inl rfl) (pe_lst (pa_cons (pv 1) pa_nil)))
    (pss_cons (ps_while PassesOwn.never (pt_cmpR op_lt (pe_callB call_len_seq rfl mn PySem.boot_len (pa_cons (pv 2) pa_nil)) (pe_callB call_len_seq rfl mn PySem.boot_len (pa_cons (pv 0) pa_nil)) (nomark _))
      (pss_one (ps_expr (pe_bm PySem.F.plainAttrs_list PySem.F.slot_list_append PySem.F.type_list_append mt_append (pv 2) (pa_cons (pe_use UM hr rfl pass0 (pa_cons (pe_ix ix_list (pv 2) (pe_un un_neg pe_int) (fun _ _ => rfl)) (pa_cons (pv 1) pa_nil))) pa_nil)))))
    (pss_one (ps_ret (pe_lc (own := [("power", 3)]) (g := gName 3) (tt := tYes) rfl scTb.nd (pi_list (pv 2)) (blkOk_by (N := nTb) (sc := defScope F_table_lines) (by decide +kernel))
      (fun _ _ _ _ _ => pg_name (i := 3) scTb.nd rfl (Or.inl rfl)) (fun _ _ _ _ _ => pts_nil) (fun _ _ _ _ _ => pe_slice (sll_at K rfl) (pv 3) (po_some pe_int) po_none)))))), ?_⟩
  have lx : xs.length = qs.length := nx.1
  refine ⟨(by show 1 ≤ sizeLine; decide), fun a na => ⟨_, rfl, a, xa, _, _, rfl, rfl, upd_same, new_same na _ _ _ hx, Nat.le_of_lt (small1000 (by show 1 + _ ≤ _; omega)), fun d nd => ?_⟩⟩
  have s1 := new_same na (.lst [V.ref o0])
  have s2 := s1.trans (new_same nd (.lst ([V.ref o0] ++ xs)))
  have ed : upd (upd H a (.lst [V.ref o0])) d (.lst ([V.ref o0] ++ xs)) d = some (.lst ([V.ref o0] ++ xs)) := upd_same
  have n1 : Nl K (upd (upd H a (.lst [V.ref o0])) d (.lst ([V.ref o0] ++ xs))) ([V.ref o0] ++ xs) (0 :: qs) := Nl.cons ⟨o0, rfl, .inr k0⟩ (nx.same s2)
  generalize upd (upd H a (.lst [V.ref o0])) d (.lst ([V.ref o0] ++ xs)) = H1 at s2 ed n1
  generalize [V.ref o0] ++ xs = us at ed n1
  have lu : us.length = qs.length + 1 := n1.1
  refine ⟨_, rfl, (by show 1 ≤ sizeLine; decide), fun pa np => ?_⟩
  have z0 : AllZ g (0 :: qs) := bq 0 (by omega)
  have s3 := new_same np (.lst [V.ref d])
  have nd3 : d ≠ pa := fun z => by rw [z, np] at ed; cases ed
  refine ⟨fun m σ H' => Same H1 H' ∧ σ = [some (.ref xa), some (.ref d), some (.ref pa), none] ∧ ∃ k ps, k ≤ qs.length ∧ 1 ≤ k ∧ m = qs.length - k ∧ H' pa = some (.lst ps) ∧ Lsl K H' ps ((List.range k).map (powL (0 :: qs))) ∧ ∀ x ∈ ps, x ≠ .ref pa, ⟨_, s3, rfl, 1, [.ref d], l1, Nat.le_refl _, rfl, upd_same, ⟨rfl, ?_⟩, ?_⟩, ?_⟩
  · intro i x r h1 h2
    match i, h1, h2 with
    | 0, h1, h2 =>
      obtain rfl : V.ref d = x := Option.some.inj h1
      obtain rfl : powL (0 :: qs) 0 = r := Option.some.inj h2
      exact ⟨d, us, rfl, s3 _ _ ed, n1.same s3⟩
    | _ + 1, h1, _ => simp at h1
  · intro x hx e
    obtain rfl := List.mem_singleton.mp hx
    exact nd3 (V.ref.inj e)
  rintro m σ H' ⟨s4, rfl, k, ps, kq, k1, rfl, hp, np', hne⟩
  have lp : ps.length = k := by rw [np'.1, List.length_map, List.length_range]
  have hx4 := s4 _ _ (s2 _ _ hx)
  refine ⟨_, rfl, pa, ps, rfl, .inl (SqL.of hp), _, rfl, xa, xs, rfl, .inl (SqL.of hx4), _, _, rfl, rfl, _, rfl, ite2 (fun c => ?_) (fun c => ?_)⟩
  · have c' : ps.length < xs.length := by
      have := of_decide_eq_true c
      omega
    refine ⟨fun σ' H2 => Same H1 H2 ∧ σ' = [some (.ref xa), some (.ref d), some (.ref pa), none] ∧ ∃ ps2, H2 pa = some (.lst ps2) ∧ Lsl K H2 ps2 ((List.range (k + 1)).map (powL (0 :: qs))) ∧ ∀ x ∈ ps2, x ≠ .ref pa, ?_, ?_⟩
    · rintro σ' H2 ⟨t1, rfl, ps2, t2, t3, t4⟩
      exact ⟨qs.length - (k + 1), by omega, t1, rfl, k + 1, ps2, by omega, by omega, rfl, t2, t3, t4⟩
    · obtain ⟨y, ey, ly⟩ := np'.get' (i := k - 1) (by rw [List.length_map, List.length_range]; omega)
      have er : ((List.range k).map (powL (0 :: qs)))[k - 1]'(by rw [List.length_map, List.length_range]; omega) = powL (0 :: qs) (k - 1) := by
        rw [List.getElem_map, List.getElem_range]
      rw [er] at ly
      have ed4 := s4 _ _ ed
      have n4 := n1.same s4
      refine ⟨_, rfl, .inl ⟨rfl, _, SqL.of hp⟩, _, rfl, _, rfl, pa, ps, -1, y, rfl, rfl, SqL.of hp, ?_, _, rfl, y, _, powL (0 :: qs) (k - 1), 0 :: qs, g, g, rfl, ly, ⟨d, us, rfl, ed4, n4⟩, powL_len _ _, by rw [powL_len, List.length_cons]; omega, g0, g0, g2, g2, bq (k - 1) (by omega), z0, fun b H5 zs s5 nb hb mz => ?_⟩
      · show (ixN ps.length (-1)).bind _ = _
        have : ixN ps.length (-1) = some (ps.length - 1) := by
          unfold ixN
          rw [if_neg (by decide)]
          split
          · congr 1; omega
          · omega
        rw [this, lp]
        exact ey
      · have hp5 := s5 _ _ hp
        have nb' : b ≠ pa := fun z => by rw [z, hp] at nb; cases nb
        refine ⟨pa, ps, _, rfl, rfl, hp5, small1000 (by omega), ?_, rfl, ps ++ [.ref b], upd_same, ?_, ?_⟩
        · intro c o hc
          have nc : c ≠ pa := fun z => by rw [z, np] at hc; cases hc
          rw [upd_ne nc]
          exact s5 _ _ (s4 _ _ hc)
        · have bu : But pa H5 (upd H5 pa (.lst (ps ++ [V.ref b]))) := fun e o n h => by rw [upd_ne n]; exact h
          have L5 := np'.same s5
          have r1 : (List.range (k + 1)).map (powL (0 :: qs)) = (List.range k).map (powL (0 :: qs)) ++ [mulL (powL (0 :: qs) (k - 1)) (0 :: qs)] := by
            rw [List.range_succ, List.map_append]
            obtain ⟨j, rfl⟩ : ∃ j, k = j + 1 := ⟨k - 1, by omega⟩
            rfl
          rw [r1]
          refine Lsl.snoc ⟨L5.1, fun i x r h1 h2 => (L5.2 i x r h1 h2).butL hp5 (hne x (List.mem_of_getElem? h1)) bu⟩ ?_
          exact (Ls.butL ⟨b, zs, rfl, hb, mz⟩ hp5 (fun z => nb' (V.ref.inj z)) bu)
        · intro x hx
          rcases List.mem_append.mp hx with hx | hx
          · exact hne x hx
          · obtain rfl := List.mem_singleton.mp hx
            exact fun z => nb' (V.ref.inj z)
  · have c' : ¬ (ps.length : Int) < (xs.length : Nat) := of_decide_eq_false (Bool.eq_false_iff.mpr c)
    have kl : k = qs.length := by omega
    refine ⟨_, rfl, pa, rfl, ⟨_, SqL.of hp⟩, fun D nD => ?_⟩
    refine lc_rows (K := K) (walk_list (K := K) (a := pa) (xs := ps)) (tabL qs) (by rw [tabL_len]; omega) nD (by omega) (fun H' s => SqL.of (s _ _ hp)) ?_ (fun H5 zs s h m _ => q D H5 zs ((s2.trans s4).trans s) ((s2.trans s4).free nD) h m)
    rintro i r x H2 H3 k' hq s5 ⟨rfl, hx2⟩ hk
    obtain ⟨r0, er0, lr0⟩ := np'.get hx2
    have hi : i < k := by
      rcases Nat.lt_or_ge i k with c | c
      · exact c
      · rw [List.getElem?_eq_none (by rw [List.length_map, List.length_range]; exact c)] at er0; cases er0
    have e1 : powL (0 :: qs) i = r0 := by
      rw [List.getElem?_map, List.getElem?_range hi] at er0
      exact Option.some.inj er0
    have e2 : (powL (0 :: qs) i).drop 1 = r := by
      unfold tabL at hq
      rw [List.getElem?_map, List.getElem?_range (by omega)] at hq
      exact Option.some.inj hq
    obtain ⟨ra, rxs, rfl, hra, nra⟩ := lr0.same s5
    refine ⟨rfl, _, rfl, 1, rfl, ra, rxs, rfl, SqL.of hra, fun p np5 => ?_⟩
    rw [show cutV rxs (some 1) none = rxs.drop 1 from cut_drop rxs 1]
    refine hk p _ (new_same np5 _) np5 ⟨p, _, rfl, upd_same, ?_⟩
    rw [← e2, e1]
    exact (nra.drop 1).same (new_same np5 _)
theorem ok_putG (F : Fun K "put_behind" "put_behind" F_put_behind f fd) (UM : Use P w K mg base CX0 3 "mixed" ["factors", "lists"] (spMix K) []) (UT : Use P w K mg base CX0 3 "table_lines" ["numbers"] (spTabG K) []) : FnOk P w K mg base CX0 4 f fd ["one", "other"] (spPutG K) := by
  refine F.ok scPb (fun vs H Q E h => ?_) (fun cdv A outer s H vs Q E hr h => ?_)
  · obtain ⟨x, y, qs, rs, e, g, rfl, _⟩ := h
    rfl
  obtain ⟨x, y, qs, rs, e, g, rfl, lx, ly, le, l1, l24, e0, g0, eg, bq, br, q⟩ := h
  refine ⟨_, pss_one (ps_ret (pe_use UM hr rfl pass0 (pa_cons (pv 0) (pa_cons (pe_use UT hr rfl pass0 (pa_cons (pv 1) pa_nil)) pa_nil)))), ?_⟩
  refine ⟨_, rfl, _, rfl, y, rs, g, rfl, ly, l1, l24, g0, by omega, br, fun b H1 xs s1 nb hb mb => ?_⟩
  refine ⟨x, _, qs, tabL rs, rs.length, e, g, rfl, lx.same s1, ⟨b, xs, rfl, hb, mb⟩, by rw [tabL_len]; exact l1, by rw [tabL_len]; omega, by omega, tabL_row, e0, g0, eg, bq, tabL_zG br, fun d H2 ys s2 nd hd md => ?_⟩
  rw [mix_step le] at md
  exact q d H2 ys (s1.trans s2) (s1.free nd) hd md
theorem ok_smulG (G : Fun K "__mul__" "Step.__mul__" C_Step_mul f fd) (k : StepK P w K mg base C S CF CO) (UO : Use P w K mg base (L2.CX P w) 3 "check_orders" ["one", "other"] (spCor K CU) []) (UT : Use P w K mg base CX0 4 "put_behind" ["one", "other"] (spPutG K) []) (UN : MUse P w K mg base CX0 1 S "numbers" ["self"] (spNuS K S) []) :
    FnOk P w K mg base (L2.CX P w) 8 f fd ["self", "other"] (spOpSG K S CU) := by
  refine G.okX scSm (fun vs H Q E h => ?_) (fun cdv A outer s H vs Q E hr h => ?_)
  · obtain ⟨x, y, qs, rs, rfl, _⟩ := h
    rfl
  obtain ⟨v, u, qs, rs, rfl, hR, hS, h1, h2⟩ := h
  obtain ⟨x, dx, b, xs, fs, ev, hx, hb, nx, f1, f2, l2, l24⟩ := hR.num
  obtain ⟨y, dy, c, ys, gs, eu, hy, hc, ny, g1, g2, m2, m24⟩ := hS.num
  have g4 : gs.lookup ("numbers" : Str) = none := by
    obtain ⟨_, _, _, _, _, _, _, e, h, _⟩ := hS
    rw [eu] at e
    obtain rfl := V.ref.inj e
    rw [hy] at h
    cases h
    rfl
  obtain ⟨fI, fdI, M, FI, bI⟩ := k.ini
  refine ⟨_, pss_cons (ps_expr (pe_use (E := E) UO (hr.mono (by decide)) rfl (passes_call (takes_of rfl rfl rfl rfl) (fun _ _ _ _ h => h)) (pa_cons (pv 0) (pa_cons (pv 1) pa_nil))))
    (pss_one (ps_ret (pe_make (E := E) M FI hr rfl k.m bI .nil (passes_call (takes_of rfl rfl rfl rfl) (fun _ _ _ _ h => h)) (pa_cons (pe_use UT (hr.mono (by decide)) rfl pass0 (pa_cons (pe_fld (pv 0) rfl) (pa_cons (pe_mu0 UN (pv 1) (hr.mono (by decide)) pass0) pa_nil))) pa_nil)))), ?_⟩
  subst ev
  subst eu
  refine ⟨_, rfl, _, rfl, .ref x, .ref y, (qs.length : Int), (rs.length : Int), rfl, ⟨x, S, dx, fs, rfl, hx, k.c, k.nA _ (by simp [stN]), f2⟩, ⟨y, S, dy, gs, rfl, hy, k.c, k.nA _ (by simp [stN]), g2⟩, fun e => ?_, fun e => h1 (fun z => e (by rw [z]))⟩
  have le : qs.length = rs.length := by omega
  obtain ⟨e, g, e0, g0, eg, bq, br, gv⟩ := h2 le
  refine ⟨_, rfl, x, S, dx, _, _, rfl, hx, k.c, k.nA _ (by simp [stN]), f1, _, rfl, y, dy, _, rfl, hy, g4, .ref y, rs, rfl, hS, fun d H1 zs s1 n1 e1 m1 => ?_⟩
  refine ⟨_, _, qs, rs, e, g, rfl, ⟨b, xs, rfl, s1 _ _ hb, nx.same s1⟩, ⟨d, zs, rfl, e1, m1⟩, le, by omega, m24, e0, g0, eg, bq, br, fun d2 H2 ws s2 n2 e2 m2 => ?_⟩
  exact step_new (s1.trans s2) (.inl e2) m2 (by rw [cmpL_len]; exact l2) (by rw [cmpL_len]; exact l24) gv
end
/-! ### differences and quotients of fractions -/
theorem rat_quo (a b : Rat) (hb : b ≠ 0) : a / b = Rat.divInt (a.num * b.den) (a.den * b.num) := by
  have ha := up_val (q := a) (L := a.den) (Nat.dvd_refl _)
  have hb' := up_val (q := b) (L := b.den) (Nat.dvd_refl _)
  rw [Int.ediv_self (den_ne a), Int.mul_one] at ha
  rw [Int.ediv_self (den_ne b), Int.mul_one] at hb'
  have d1 : ((a.den : Nat) : Rat) ≠ 0 := fun h => a.den_nz (by exact_mod_cast h)
  have d2 : ((b.den : Nat) : Rat) ≠ 0 := fun h => b.den_nz (by exact_mod_cast h)
  rw [Rat.divInt_eq_div, Rat.intCast_mul, Rat.intCast_mul, ha, hb']
  show a / b = a * ((a.den : Nat) : Rat) * ((b.den : Nat) : Rat) / (((a.den : Nat) : Rat) * (b * ((b.den : Nat) : Rat)))
  generalize ((a.den : Nat) : Rat) = u at d1
  generalize ((b.den : Nat) : Rat) = v at d2
  grind
def spDifQ (K : PySem.W.Frag) : Sp := fun vs H Q _ => ∃ (x y : V) (a b : Rat), vs = [x, y] ∧ Nq K H x a ∧ Nq K H y b ∧ Bq 4000 a ∧ Bq 4000 b ∧ GivesQ H Q (a - b)
def spQuoQ (K : PySem.W.Frag) : Sp := fun vs H Q _ => ∃ (x y : V) (a b : Rat), vs = [x, y] ∧ Nq K H x a ∧ Nq K H y b ∧ Bq 4000 a ∧ Bq 4000 b ∧ b ≠ 0 ∧ GivesQ H Q (a / b)
section
variable {P : Program} {w : World} {K : PySem.W.Frag} {mg : Str → Option Value} {base : Heap} {f C S CF CO CU o0 : Addr} {fd : FuncData}
theorem scDif : FnScope ["one", "other"] ["one", "other"] (defScope F_difference_of) := ⟨rfl, rfl, rfl, by decide +kernel, rfl, by decide +kernel, by decide +kernel⟩
theorem scQuo : FnScope ["one", "other"] ["one", "other"] (defScope F_quotient_of) := ⟨rfl, rfl, rfl, by decide +kernel, rfl, by decide +kernel, by decide +kernel⟩
theorem ok_difference (F : Fun K "difference_of" "difference_of" F_difference_of f fd) (UR : Use P w K mg base CX0 1 "ratio" ["upper", "lower"] spLowQ []) : FnOk P w K mg base CX0 2 f fd ["one", "other"] (spDifQ K) := by
  refine F.ok scDif (fun vs H Q E h => ?_) (fun cdv A outer s H vs Q E hr h => ?_)
  · obtain ⟨x, y, a, b, rfl, _⟩ := h
    rfl
  obtain ⟨x, y, a, b, rfl, hx, hy, ba, bb, q⟩ := h
  obtain ⟨xa, rfl, sx, _⟩ := hx.sq
  obtain ⟨ya, rfl, sy, _⟩ := hy.sq
  refine ⟨_, pss_one (ps_ret (pe_use UR hr rfl pass0 (pa_cons (pe_op op_sub (pe_op op_mulW (pe_ix ix_tup (pv 0) pe_int (fun _ _ => rfl)) (pe_ix ix_tup (pv 1) pe_int (fun _ _ => rfl))) (pe_op op_mulW (pe_ix ix_tup (pv 1) pe_int (fun _ _ => rfl)) (pe_ix ix_tup (pv 0) pe_int (fun _ _ => rfl))))
      (pa_cons (pe_op op_mulW (pe_ix ix_tup (pv 0) pe_int (fun _ _ => rfl)) (pe_ix ix_tup (pv 1) pe_int (fun _ _ => rfl))) pa_nil)))), ?_⟩
  exact ⟨_, rfl, xa, _, 0, _, rfl, rfl, sx, rfl, _, rfl, ya, _, 1, _, rfl, rfl, sy, rfl, a.num, (b.den : Nat), rfl, rfl, wide_mul ba.1 bb.dn (by decide) (by decide) (by decide),
      _, rfl, ya, _, 0, _, rfl, rfl, sy, rfl, _, rfl, xa, _, 1, _, rfl, rfl, sx, rfl, b.num, (a.den : Nat), rfl, rfl, wide_mul bb.1 ba.dn (by decide) (by decide) (by decide), _, _, rfl, rfl,
      _, rfl, xa, _, 1, _, rfl, rfl, sx, rfl, _, rfl, ya, _, 1, _, rfl, rfl, sy, rfl, (a.den : Nat), (b.den : Nat), rfl, rfl, wide_mul ba.dn bb.dn (by decide) (by decide) (by decide),
      _, _, rfl, Int.mul_ne_zero (den_ne a) (den_ne b), Nat.lt_trans (log_bd (lt_mul ba.dn bb.dn) (by decide)) (by decide), by rw [← rat_sub]; exact q⟩
theorem ok_quotient (F : Fun K "quotient_of" "quotient_of" F_quotient_of f fd) (UR : Use P w K mg base CX0 1 "ratio" ["upper", "lower"] spLowQ []) : FnOk P w K mg base CX0 2 f fd ["one", "other"] (spQuoQ K) := by
  refine F.ok scQuo (fun vs H Q E h => ?_) (fun cdv A outer s H vs Q E hr h => ?_)
  · obtain ⟨x, y, a, b, rfl, _⟩ := h
    rfl
  obtain ⟨x, y, a, b, rfl, hx, hy, ba, bb, b0, q⟩ := h
  obtain ⟨xa, rfl, sx, _⟩ := hx.sq
  obtain ⟨ya, rfl, sy, _⟩ := hy.sq
  refine ⟨_, pss_one (ps_ret (pe_use UR hr rfl pass0 (pa_cons (pe_op op_mulW (pe_ix ix_tup (pv 0) pe_int (fun _ _ => rfl)) (pe_ix ix_tup (pv 1) pe_int (fun _ _ => rfl)))
      (pa_cons (pe_op op_mulW (pe_ix ix_tup (pv 0) pe_int (fun _ _ => rfl)) (pe_ix ix_tup (pv 1) pe_int (fun _ _ => rfl))) pa_nil)))), ?_⟩
  exact ⟨_, rfl, xa, _, 0, _, rfl, rfl, sx, rfl, _, rfl, ya, _, 1, _, rfl, rfl, sy, rfl, a.num, (b.den : Nat), rfl, rfl, wide_mul ba.1 bb.dn (by decide) (by decide) (by decide),
      _, rfl, xa, _, 1, _, rfl, rfl, sx, rfl, _, rfl, ya, _, 0, _, rfl, rfl, sy, rfl, (a.den : Nat), b.num, rfl, rfl, wide_mul ba.dn bb.1 (by decide) (by decide) (by decide),
      _, _, rfl, Int.mul_ne_zero (den_ne a) (fun z => b0 (Rat.num_eq_zero.mp z)), Nat.lt_trans (log_bd (lt_mul ba.dn bb.1) (by decide)) (by decide), by rw [← rat_quo a b b0]; exact q⟩
end
/-! ### lines solved -/
def spSolv (K : PySem.W.Frag) : Sp := fun vs H Q _ => ∃ (x y : V) (rows : List (List Rat)) (ws : List Rat) (e g : Nat), vs = [x, y] ∧ Lss K H x rows ∧ Ls K H y ws ∧ rows.length = ws.length ∧ 1 ≤ ws.length ∧ ws.length ≤ 24 ∧ (∀ r ∈ rows, r.length = ws.length) ∧ 1 ≤ e ∧ 1 ≤ g ∧ e + g ≤ 130 ∧
  AllZ e (slvL rows ws ws.length) ∧ (∀ r ∈ rows, AllZ g r) ∧ AllZ 1 ws ∧ (∀ k, k < ws.length → tt rows k k ≠ 0) ∧ GivesL K H Q (slvL rows ws ws.length)
abbrev nSv : List Str := ["lines", "wanted", "found", "at", "number", "have", "line"]
theorem slv_z {rows : List (List Rat)} {ws : List Rat} {e n : Nat} (h : AllZ e (slvL rows ws n)) {k : Nat} (hk : k ≤ n) : AllZ e (slvL rows ws k) := fun q hq => by
  obtain ⟨i, hi⟩ := List.getElem?_of_mem hq
  have l := slvL_len rows ws k
  have hl : i < k := by
    rcases Nat.lt_or_ge i k with c | c
    · exact c
    · rw [List.getElem?_eq_none (by omega)] at hi; cases hi
  have e1 := slvL_pre rows ws k n hk i hl
  have e2 : ser (slvL rows ws k) i = q := by
    show List.getD _ _ _ = q
    rw [List.getD_eq_getElem?_getD, hi]
    rfl
  rw [← e2, ← e1]
  exact h.getD i
section
variable {P : Program} {w : World} {K : PySem.W.Frag} {mg : Str → Option Value} {base : Heap} {f C S CF CO CU o0 : Addr} {fd : FuncData}
theorem scSv : FnScope nSv ["lines", "wanted"] (defScope F_solved) := ⟨rfl, rfl, rfl, by decide +kernel, rfl, by decide +kernel, by decide +kernel⟩
theorem ok_solved (F : Fun K "solved" "solved" F_solved f fd) (me : mg "enumerate" = none) (UD : Use P w K mg base CX0 2 "dot" ["ones", "others"] (spDot K) []) (UF : Use P w K mg base CX0 2 "difference_of" ["one", "other"] (spDifQ K) []) (UQ : Use P w K mg base CX0 2 "quotient_of" ["one", "other"] (spQuoQ K) []) : FnOk P w K mg base CX0 3 f fd ["lines", "wanted"] (spSolv K) := by
  refine F.ok scSv (fun vs H Q E h => ?_) (fun cdv A outer s H vs Q E hr h => ?_)
  · obtain ⟨x, y, rows, ws, e, g, rfl, _⟩ := h
    rfl
  obtain ⟨x, y, rows, ws, e, g, rfl, ⟨la, ls, rfl, hl, ml⟩, ⟨wa, wv, rfl, hw, mw⟩, lr, l1, l24, sq, e0, g0, eg, ze, zg, zw, dg, q⟩ := h
  refine ⟨_, pss_cons (ps_set (i := 2) scSv.nd rfl (Or.inl rfl) (pe_lst pa_nil))
    (pss_cons (ps_for PassesOwn.never rfl (pi_enumA rfl me (pa_cons (pv 1) pa_nil)) (pg_tup rfl (pgs_cons (pg_name (i := 3) scSv.nd rfl (Or.inr rfl)) (pgs_cons (pg_name (i := 4) scSv.nd rfl (Or.inl rfl)) pgs_nil)))
      (C8.pss_cut (ps_set (i := 5) scSv.nd rfl (Or.inl rfl) (pe_use UD hr rfl pass0 (pa_cons (pv 2) (pa_cons (pe_lc (own := [("line", 6)]) (g := gName 6) (tt := tYes) rfl scSv.nd (pi_list (pv 0)) (blkOk_by (N := nSv) (sc := defScope F_solved) (by decide +kernel)) (fun _ _ _ _ _ => pg_name (i := 6) scSv.nd rfl (Or.inl rfl)) (fun _ _ _ _ _ => pts_nil) (fun _ _ _ _ _ => pe_ix (ixl_at K rfl) (pv 6) (pv 3) (fun _ _ => rfl))) pa_nil))))
      (pss_one (ps_expr (pe_bm PySem.F.plainAttrs_list PySem.F.slot_list_append PySem.F.type_list_append mt_append (pv 2) (pa_cons (pe_use UQ hr rfl pass0 (pa_cons (pe_use UF hr rfl pass0 (pa_cons (pv 4) (pa_cons (pv 5) pa_nil))) (pa_cons (pe_ix ix_list (pe_ix ix_list (pv 0) (pv 3) (fun _ _ => rfl)) (pv 3) (fun _ _ => rfl)) pa_nil))) pa_nil))))))
    (pss_one (ps_ret (pv 2)))), ?_⟩
  have ll := ml.1
  have lw := mw.1
  refine ⟨(by show 0 ≤ sizeLine; decide), fun fb nf => ?_⟩
  have s1 := new_same nf (HO.lst [])
  refine ⟨_, rfl, wa, wv, rfl, .inl ⟨SqL.of (s1 _ _ hw), ?_⟩⟩
  refine for_it (walk_enum (K := K) (a := wa) (xs := wv)) (fun i σ H' => Same H H' ∧ (∃ v3 v4 v5 v6, σ = [some (.ref la), some (.ref wa), some (.ref fb), v3, v4, v5, v6]) ∧ ∃ zs, H' fb = some (.lst zs) ∧ Nl K H' zs (slvL rows ws i)) ⟨s1, ⟨none, none, none, none, rfl⟩, [], upd_same, Nl.nil⟩ (fun i σ H' _ h => SqL.of (h.1 _ _ hw)) ?_ ?_
  · rintro k x σ H2 H3 hk ⟨s2, ⟨v3, v4, v5, v6, rfl⟩, zs, hz, mz⟩ ⟨T, y, z, rfl, hT, rfl, hy, hzz⟩
    obtain rfl : y = .int ((k : Nat) : Int) := (Option.some.inj hy).symm
    have hk' : k < ws.length := by omega
    have s3 := s2.trans (new_same hT (.tup [.int (k : Nat), z]))
    have hz3 := new_same hT (.tup [.int (k : Nat), z]) _ _ hz
    have mz3 := mz.same (new_same hT (.tup [.int (k : Nat), z]))
    obtain ⟨wq, ewq, nwq⟩ := mw.get hzz
    have lz : zs.length = k := by rw [mz.1, slvL_len]
    refine ⟨T, [_, _], rfl, SqT.of upd_same, rfl, _, [_], rfl, _, [], rfl, rfl, ?_⟩
    generalize upd H2 T (.tup [.int (k : Nat), z]) = H3 at s3 hz3 mz3
    have nwq3 := nwq.same s3
    refine ⟨fun σ G => Same H3 G ∧ ∃ hv v6, σ = [some (.ref la), some (.ref wa), some (.ref fb), some (.int (k : Nat)), some z, some hv, v6] ∧ Nq K G hv (dotL (slvL rows ws k) (colL rows k)), ?_, ?_⟩
    · refine ⟨_, rfl, _, rfl, la, rfl, ⟨_, SqL.of (s3 _ _ hl)⟩, fun D nD => ?_⟩
      refine lc_nums (K := K) (walk_list (K := K) (a := la) (xs := ls)) (colL rows k) (by rw [colL_len]; omega) nD (by omega) (fun H' s => SqL.of (s _ _ (s3 _ _ hl))) ?_ (fun H5 cs s5 hD md => ?_)
      · rintro i qi x H4 H5 kk hq s4 ⟨rfl, hx2⟩ hkk
        obtain ⟨r, er, ra, rxs, rfl, hra, nra⟩ := ml.get hx2
        have lr' := sq r (List.mem_of_getElem? er)
        obtain ⟨v, ev, nv⟩ := nra.get' (i := k) (by omega)
        have eq' : r[k]'(by omega) = qi := by
          unfold colL at hq
          rw [List.getElem?_map, er] at hq
          have := Option.some.inj hq
          rw [← this]
          show _ = r.getD k 0
          rw [List.getD_eq_getElem?_getD, List.getElem?_eq_getElem (by omega)]
          rfl
        rw [eq'] at nv
        exact ⟨rfl, _, rfl, _, rfl, ra, rxs, (k : Nat), v, rfl, rfl, SqL.of ((s3.trans s4) _ _ hra), at_of (j := k) rfl ev, hkk v _ (Same.refl _) (nv.same (s3.trans s4))⟩
      · have zc : AllZ g (colL rows k) := fun p hp => by
          obtain ⟨r, hr', rfl⟩ := List.mem_map.mp hp
          exact (zg r hr').getD k
        refine ⟨.ref fb, .ref D, slvL rows ws k, colL rows k, e, g, rfl, ⟨fb, zs, rfl, s5 _ _ hz3, mz3.same s5⟩, ⟨D, cs, rfl, hD, md⟩, by rw [slvL_len, colL_len]; omega, e0, g0, by omega, slv_z ze (by omega), zc, fun d H6 s6 n6 e6 => ⟨s5.trans s6, .ref d, _, rfl, .at e6⟩⟩
    · rintro σ G ⟨s4, hv, v6', rfl, nh⟩
      have sG := s3.trans s4
      have hzG := s4 _ _ hz3
      have zc : AllZ g (colL rows k) := fun p hp => by
        obtain ⟨r, hr', rfl⟩ := List.mem_map.mp hp
        exact (zg r hr').getD k
      have zh : Zq (e + g) (dotL (slvL rows ws k) (colL rows k)) := dotL_z (slv_z ze (by omega)) zc (by rw [slvL_len, colL_len]; omega)
      have ewq' : ws.getD k 0 = wq := by rw [List.getD_eq_getElem?_getD, ewq]; rfl
      have ed : wq - dotL (slvL rows ws k) (colL rows k) = ser (slvL rows ws ws.length) k * tt rows k k := by
        rw [slvL_pre rows ws (k + 1) ws.length (by omega) k (by omega), slvL_last, Rat.div_mul_cancel (dg k hk'), ewq']
      have zt : Zq g (tt rows k k) := by
        rw [← col_at]
        exact zc.getD k
      have zd : Zq (e + g) (wq - dotL (slvL rows ws k) (colL rows k)) := by
        rw [ed]
        exact Zq.mulq (ze.getD k) zt
      obtain ⟨lv, elv, llv⟩ := ml.get' (i := k) (by omega)
      have er := List.getElem?_eq_getElem (l := rows) (i := k) (by omega)
      have lrk := sq _ (List.getElem_mem (l := rows) (n := k) (by omega))
      obtain ⟨ra, rxs, rfl, hra, nra⟩ := llv
      obtain ⟨v, ev, nv⟩ := nra.get' (i := k) (by omega)
      have et : (rows[k]'(by omega))[k]'(by omega) = tt rows k k := by
        unfold tt
        rw [List.getD_eq_getElem?_getD (l := rows), er]
        show _ = (rows[k]'(by omega)).getD k 0
        rw [List.getD_eq_getElem?_getD, List.getElem?_eq_getElem (by omega)]
        rfl
      rw [et] at nv
      refine ⟨_, rfl, .inl ⟨rfl, _, SqL.of hzG⟩, _, rfl, _, rfl, z, hv, wq, dotL (slvL rows ws k) (colL rows k), rfl, nwq3.same s4, nh, ?_, (zh.bq (by omega)).mono (by omega), fun d H6 s6 n6 e6 => ?_⟩
      · exact ((zw wq (List.mem_of_getElem? ewq)).bq (by decide)).mono (by decide)
      have sG6 := sG.trans s6
      refine ⟨_, rfl, _, rfl, la, ls, (k : Nat), _, rfl, rfl, SqL.of (sG6 _ _ hl), at_of (j := k) rfl elv, _, rfl, ra, rxs, (k : Nat), v, rfl, rfl, SqL.of (sG6 _ _ hra), at_of (j := k) rfl ev, ?_⟩
      refine ⟨.ref d, v, _, tt rows k k, rfl, .at e6, nv.same sG6, (zd.bq (by omega)).mono (by omega), (zt.bq g0).mono (by omega), dg k hk', fun d2 H7 s7 n7 e7 => ?_⟩
      have s67 := s6.trans s7
      refine ⟨fb, zs, _, rfl, rfl, s67 _ _ hzG, small1000 (by omega), fun b o hb => ?_, ⟨_, _, _, _, rfl⟩, zs ++ [.ref d2], upd_same, ?_⟩
      · rw [upd_ne (fun y => by rw [y, nf] at hb; cases hb)]
        exact (sG.trans s67) b o hb
      · have nb : Nl K H7 (zs ++ [V.ref d2]) (slvL rows ws (k + 1)) := by
          show Nl K H7 _ (slvL rows ws k ++ [(ws.getD k 0 - dotL (slvL rows ws k) (colL rows k)) / tt rows k k])
          rw [ewq']
          exact (mz3.same (s4.trans s67)).snoc (.at e7)
        exact ⟨nb.1, fun j x r h1 h2 => (nb.2 j x r h1 h2).butL (s67 _ _ hzG) (fun b o n h => by rw [upd_ne n]; exact h)⟩
  · rintro σ H2 ⟨s2, ⟨v3, v4, v5, v6, rfl⟩, zs, hz, mz⟩
    rw [lw] at mz
    exact ⟨_, rfl, q fb H2 zs s2 nf hz mz⟩
end
/-! ### turned back -/
def spTrn (K : PySem.W.Frag) : Sp := fun vs H Q _ => ∃ (x : V) (rs : List Rat) (e g : Nat), vs = [x] ∧ Ls K H x rs ∧ 2 ≤ rs.length ∧ rs.length ≤ 24 ∧ Trn rs ∧ 1 ≤ e ∧ 1 ≤ g ∧ e + g ≤ 130 ∧ AllZ e (invL rs) ∧ PowZ g rs ∧ GivesL K H Q (invL rs)
section
variable {P : Program} {w : World} {K : PySem.W.Frag} {mg : Str → Option Value} {base : Heap} {f C S CF CO CU o0 : Addr} {fd : FuncData}
theorem scTrb : FnScope ["numbers"] ["numbers"] (defScope F_turned_back) := ⟨rfl, rfl, rfl, by decide +kernel, rfl, by decide +kernel, by decide +kernel⟩
theorem ok_turned (F : Fun K "turned_back" "turned_back" F_turned_back f fd) (mn : mg "len" = none) (US : Use P w K mg base CX0 3 "solved" ["lines", "wanted"] (spSolv K) []) (UT : Use P w K mg base CX0 3 "table_lines" ["numbers"] (spTabG K) []) (UN : Use P w K mg base CX0 1 "still_numbers" ["order"] (spSn K) []) : FnOk P w K mg base CX0 4 f fd ["numbers"] (spTrn K) := by
  refine F.ok scTrb (fun vs H Q E h => ?_) (fun cdv A outer s H vs Q E hr h => ?_)
  · obtain ⟨x, rs, e, g, rfl, _⟩ := h
    rfl
  obtain ⟨x, rs, e, g, rfl, hx, l2, l24, ht, e0, g0, eg, ze, zp, q⟩ := h
  refine ⟨_, pss_one (ps_ret (pe_use US hr rfl pass0 (pa_cons (pe_use UT hr rfl pass0 (pa_cons (pv 0) pa_nil)) (pa_cons (pe_use UN (hr.mono (by decide)) rfl pass0 (pa_cons (pe_callB call_len_seq rfl mn PySem.boot_len (pa_cons (pv 0) pa_nil)) pa_nil)) pa_nil)))), ?_⟩
  refine ⟨_, rfl, x, rs, g, rfl, hx, by omega, l24, g0, by omega, zp, fun b H1 xs s1 nb hb mb => ?_⟩
  obtain ⟨xa, xv, rfl, hxa, nx⟩ := id hx
  have lx := nx.1
  refine ⟨_, rfl, xa, xv, rfl, .inl (SqL.of (s1 _ _ hxa)), xv.length, rfl, by omega, by omega, fun c H2 ys s2 nc hc mc => ?_⟩
  rw [lx] at mc
  have lst := stL_len (n := rs.length) (by omega)
  refine ⟨.ref b, .ref c, tabL rs, stL rs.length, e, g, rfl, ⟨b, xs, rfl, s2 _ _ hb, mb.same s2⟩, ⟨c, ys, rfl, hc, mc⟩, by rw [tabL_len, lst], by omega, by omega, fun r hr' => by rw [tabL_row r hr', lst], e0, g0, eg, ?_, tabL_zG zp, still_z _, fun k hk => ?_, fun d H3 zs s3 nd hd md => ?_⟩
  · rw [lst]
    exact ze
  · rw [lst] at hk
    rw [tt_tab hk hk]
    exact pow_dg_ne (serS_zero rs) ht _
  · rw [lst] at md
    exact q d H3 zs (s1.trans (s2.trans s3)) (s1.free (s2.free nd)) hd md
end
/-! ### done so many times -/
def spDone (K : PySem.W.Frag) (N : Nat) : Sp := fun vs H Q _ => ∃ (x : V) (qs : List Rat) (t s : Nat), vs = [x, .int (t : Nat)] ∧ Ls K H x qs ∧ 2 ≤ qs.length ∧ qs.length ≤ 24 ∧ 1 ≤ t ∧ t < 2 ^ (N + 1) ∧ 1 ≤ s ∧ s * t * qs.length ≤ 200 ∧ Gr s qs ∧ ∀ v H', Same H H' → Ls K H' v (itL qs t) → Q v H'
abbrev nDn : List Str := ["numbers", "times", "half", "twice"]
section
variable {P : Program} {w : World} {K : PySem.W.Frag} {mg : Str → Option Value} {base : Heap} {f C S CF CO CU o0 : Addr} {fd : FuncData}
theorem scDn : FnScope nDn ["numbers", "times"] (defScope F_done_times) := ⟨rfl, rfl, rfl, by decide +kernel, rfl, by decide +kernel, by decide +kernel⟩
theorem ok_done {N : Nat} (F : Fun K "done_times" "done_times" F_done_times f fd) (G : ∀ N', N = N' + 1 → Use P w K mg base CX0 (N + 4) "done_times" ["numbers", "times"] (spDone K N') []) (UP : Use P w K mg base CX0 4 "put_behind" ["one", "other"] (spPutG K) []) : FnOk P w K mg base CX0 (N + 5) f fd ["numbers", "times"] (spDone K N) := by
  refine F.ok scDn (fun vs H Q E h => ?_) (fun cdv A outer s H vs Q E hr h => ?_)
  · obtain ⟨x, qs, t, s, rfl, _⟩ := h
    rfl
  obtain ⟨x, qs, t, s, rfl, hx, l2, l24, t1, tN, s1, st, gq, q⟩ := h
  have hr4 := hr.mono (show 4 ≤ N + 4 by omega)
  match N, G, hr, tN with
  | 0, _, hr, tN =>
    obtain rfl : t = 1 := by
      have : 2 ^ (0 + 1) = 2 := rfl
      omega
    refine ⟨_, pss_cons (ps_if (pt_cmpR op_eq (pv 1) pe_int (nomark _)) (pss_one ps_never) pss_nil)
      (pss_cons (ps_if (pt_cmpR op_eq (pv 1) pe_int (nomark _)) (pss_one (ps_ret (pv 0))) pss_nil)
      (pss_cons ps_never (pss_cons ps_never (pss_one ps_never)))), ?_⟩
    refine ⟨_, rfl, rfl, _, rfl, iteF ⟨_, rfl, rfl, _, rfl, iteT ⟨_, rfl, q x H (Same.refl H) ?_⟩⟩⟩
    rw [itL_one]
    exact hx
  | N + 1, G, hr, tN =>
    have UD := G N rfl
    refine ⟨_, pss_cons (ps_if (pt_cmpR op_eq (pv 1) pe_int (nomark _)) (pss_one ps_never) pss_nil)
      (pss_cons (ps_if (pt_cmpR op_eq (pv 1) pe_int (nomark _)) (pss_one (ps_ret (pv 0))) pss_nil)
      (pss_cons (ps_set (i := 2) scDn.nd rfl (Or.inl rfl) (pe_use UD hr rfl pass0 (pa_cons (pv 0) (pa_cons (pe_op op_fdivA (pv 1) pe_int) pa_nil))))
      (pss_cons (ps_set (i := 3) scDn.nd rfl (Or.inl rfl) (pe_use UP hr4 rfl pass0 (pa_cons (pv 2) (pa_cons (pv 2) pa_nil))))
      (pss_one (ps_ret (pe_ifExp (pt_cmpR op_eq (pe_op op_mod (pv 1) pe_int) pe_int (nomark _)) (pv 3) (pe_use UP hr4 rfl pass0 (pa_cons (pv 0) (pa_cons (pv 3) pa_nil))))))))), ?_⟩
    refine ⟨_, rfl, rfl, _, rfl, ?_⟩
    rw [decide_eq_false (fun z => by have := V.int.inj z; omega)]
    refine iteF ⟨_, rfl, rfl, _, rfl, ?_⟩
    by_cases c : t = 1
    · subst c
      refine iteT ⟨_, rfl, q x H (Same.refl H) ?_⟩
      rw [itL_one]
      exact hx
    rw [decide_eq_false (fun z => c (by have := V.int.inj z; omega))]
    refine iteF ?_
    have ed : ((t : Nat) : Int).fdiv 2 = ((t / 2 : Nat) : Int) := by
      rw [Int.fdiv_eq_ediv_of_nonneg _ (by decide)]
      rfl
    refine ⟨_, rfl, _, rfl, (t : Nat), 2, rfl, rfl, ⟨by decide, by decide⟩, ?_⟩
    have h2 : 1 ≤ t / 2 := by omega
    have hp : t / 2 < 2 ^ (N + 1) := by
      have : 2 ^ (N + 1 + 1) = 2 ^ (N + 1) * 2 := Nat.pow_succ _ _
      omega
    have l1 : 1 ≤ qs.length := by omega
    have w2 : s * (t / 2) * qs.length + s * (t / 2) * qs.length ≤ s * t * qs.length := by
      rw [← Nat.add_mul, ← Nat.mul_add]
      exact Nat.mul_le_mul_right _ (Nat.mul_le_mul_left _ (by omega))
    refine ⟨x, qs, t / 2, s, (by show [x, V.int (((t : Nat) : Int).fdiv 2)] = _; rw [ed]), hx, l2, l24, h2, hp, s1, by omega, gq, fun v H1 g1 hv => ?_⟩
    have gh : Gr (s * (t / 2)) (itL qs (t / 2)) := by
      have := itL_gr gq l1 (by omega) (t / 2 - 1)
      rw [show t / 2 - 1 + 1 = t / 2 by omega] at this
      exact this
    have lh := itL_len l1 (t / 2)
    have pos : 1 ≤ s * (t / 2) * qs.length := Nat.mul_pos (Nat.mul_pos s1 h2) l1
    have zh := gh.all
    have ph := gh.pz (by omega)
    rw [lh] at zh ph
    refine ⟨_, rfl, _, rfl, v, v, itL qs (t / 2), itL qs (t / 2), _, _, rfl, hv, hv, rfl, by omega, by omega, pos, pos, by omega, zh, ph, fun b H2 zs g2 nb hb mb => ?_⟩
    rw [← itL_add l1] at mb
    refine ⟨_, rfl, (t : Nat), 2, rfl, rfl, (by show (0 : Int) < 2; decide), rfl, _, rfl, ?_⟩
    by_cases ev : t % 2 = 0
    · rw [decide_eq_true (show V.int (((t : Nat) : Int) % 2) = V.int 0 by rw [show ((t : Nat) : Int) % 2 = 0 by omega])]
      refine iteT ⟨_, rfl, q _ _ (g1.trans g2) ⟨b, zs, rfl, hb, ?_⟩⟩
      rw [show t / 2 + t / 2 = t by omega] at mb
      exact mb
    · rw [decide_eq_false (fun z => ev (by have := V.int.inj z; omega))]
      have gt : Gr (s * (t / 2 + t / 2)) (itL qs (t / 2 + t / 2)) := by
        have := itL_gr gq l1 (by omega) (t / 2 + t / 2 - 1)
        rw [show t / 2 + t / 2 - 1 + 1 = t / 2 + t / 2 by omega] at this
        exact this
      have lt := itL_len l1 (t / 2 + t / 2)
      have pt := gt.pz (by omega)
      rw [lt] at pt
      have e1 : s * t * qs.length = s * qs.length + s * (t / 2 + t / 2) * qs.length := by
        rw [← Nat.add_mul, show s + s * (t / 2 + t / 2) = s * (t / 2 + t / 2 + 1) by rw [Nat.mul_add s _ 1, Nat.mul_one, Nat.add_comm], show t / 2 + t / 2 + 1 = t by omega]
      refine iteF ⟨_, rfl, _, rfl, x, .ref b, qs, itL qs (t / 2 + t / 2), s * qs.length, s * (t / 2 + t / 2) * qs.length, rfl, hx.same (g1.trans g2), ⟨b, zs, rfl, hb, mb⟩, lt.symm, by omega, by omega, Nat.mul_pos s1 l1, Nat.mul_pos (Nat.mul_pos s1 (by omega)) l1, by omega, gq.all, pt, fun d H3 us g3 nd hd md => ?_⟩
      refine q _ _ (g1.trans (g2.trans g3)) ⟨d, us, rfl, hd, ?_⟩
      have : itL qs t = cmpL qs (itL qs (t / 2 + t / 2)) := by
        have e : t = (t / 2 + t / 2) + 1 := by omega
        rw [show itL qs t = itL qs ((t / 2 + t / 2) + 1) from congrArg _ e]
        rfl
      rw [this]
      exact md
end
end Kx
end
section
set_option maxHeartbeats 4000000
namespace Kx
open PySem PySem.Spec PyProof.Rows L2 RZ
/-! ### steps compared (from k10) -/
def spEqF (K : PySem.W.Frag) (S : Addr) : Sp := fun vs H Q _ => ∃ (x y : V) (qs : List Rat), vs = [x, y] ∧ StAt K S H x qs ∧ ((∃ rs, StAt K S H y rs ∧ Q (.bl (decide (qs = rs))) H) ∨ (∃ T, TyX K H y T ∧ PySem.W.kitOne K T (.ref S) = some false ∧ Q (.bl false) H))
section
variable {P : Program} {w : World} {K : PySem.W.Frag} {mg : Str → Option Value} {base : Heap} {f C S CF CO : Addr} {fd : FuncData} {H : Hp}
theorem ok_seqF (G : Fun K "__eq__" "Step.__eq__" C_Step_eq f fd) (k : StepK P w K mg base C S CF CO) (mI : mg "isinstance" = none) : FnOk P w K mg base CX0 1 f fd ["self", "other"] (spEqF K S) := by
  refine G.ok scSE (fun vs H Q E h => ?_) (fun cdv A outer s H vs Q E hr h => ?_)
  · obtain ⟨x, y, qs, rfl, _⟩ := h
    rfl
  obtain ⟨v, u, qs, rfl, hS, hh⟩ := h
  obtain ⟨x, dx, b, xs, fs, rfl, hx, hb, nx, f1, _⟩ := hS.num
  refine ⟨_, pss_one (ps_ret (pe_and (pe_callB call_isi rfl mI (by decide +kernel) (pa_cons (pv 1) (pa_cons (C8.pe_gc (v := .ref S) rfl ⟨_, k.m, rfl⟩) pa_nil))) (pe_one (pe_cmpR (op_eqD hr.units) (pe_fld (pv 0) rfl) (pe_fld (pv 1) rfl) (nomark _))))), ?_⟩
  rcases hh with ⟨rs, hT, q⟩ | ⟨T, ty, kt, q⟩
  · obtain ⟨y, dy, c, ys, gs, rfl, hy, hc, ny, g1, _⟩ := hT.num
    refine ⟨_, rfl, .ref y, .ref S, .ref S, .ref S, true, rfl, .own S, k.ty _ _ _ _ hy, k.kit, _, rfl, iteT ?_⟩
    refine ⟨_, rfl, x, S, dx, _, _, rfl, hx, k.c, k.nA _ (by simp [stN]), f1, _, rfl, y, S, dy, _, _, rfl, hy, k.c, k.nA _ (by simp [stN]), g1, datL qs, datL rs, nx.dp hb, ny.dp hc, shaped_list _, shaped_list _, ?_⟩
    rw [eqv_list]
    exact q
  · exact ⟨_, rfl, u, .ref S, T, .ref S, false, rfl, .own S, ty, kt, _, rfl, iteF q⟩
/-- it serves like, too -/
theorem ok_seqS (h : FnOk P w K mg base CX0 1 f fd ["self", "other"] (spEqF K S)) : FnOk P w K mg base CX0 1 f fd ["self", "other"] (spEqS K S) :=
  h.imp fun vs H Q E ⟨x, y, qs, e, hS, hh⟩ => by
    refine ⟨x, y, qs, e, hS, ?_⟩
    rcases hh with ⟨rfl, q⟩ | ⟨T, ty, kt, q⟩
    · exact .inl ⟨qs, hS, by rw [decide_eq_true rfl]; exact q⟩
    · exact .inr ⟨T, ty, kt, q⟩
/-- two steps compared -/
theorem rd_eqS {vx vy : V} {qs rs : List Rat} {E : XK} {R : VK} (k : StepK P w K mg base C S CF CO) (hX : StAt K S H vx qs) (hY : StAt K S H vy rs) (q : R (.bl (decide (qs = rs))) H) : rEqO K S (spEqF K S) E vx vy H R := by
  have nf : PySem.W.notFirst K S (.ref S) = true := by
    unfold PySem.W.notFirst
    rw [beq_self_eq_true]
    rfl
  obtain ⟨x, dx, b, xs, x0, fv, sv, e, hx, _⟩ := id hX
  obtain ⟨y, dy, d, ys, y0, fw, sw, rfl, hy, _⟩ := id hY
  exact ⟨x, dx, _, .ref S, e, hx, k.ty _ _ _ _ hy, nf, vx, _, qs, rfl, hX, .inl ⟨rs, hY, q⟩⟩
end
section
variable {K : PySem.W.Frag} {S : Addr}
def RSt (K : PySem.W.Frag) (S : Addr) (a b : Addr) (H : Hp) : Prop := ∃ qs, StAt K S H (.ref a) qs ∧ StAt K S H (.ref b) qs
/-- ["told", a step] == ["told", an equal one] -/
def rTl (K : PySem.W.Frag) (S : Addr) : R2 := fun x y H Q => ∃ a b v u c qs, x = .ref a ∧ y = .ref b ∧ H a = some (.lst [.str c, v]) ∧ H b = some (.lst [.str c, u]) ∧ StAt K S H v qs ∧ StAt K S H u qs ∧ ∀ H', Same H H' → Q (.bl true) H'
theorem op_tl {X : Cx} (O : OpM X.prog X.w X.K X.mg X.base CX0 1 S "__eq__" (spEqF X.K S)) (hr : Room 2 X.A) : OpR X (compareOp .Eq) (rTl X.K S) := by
  intro pins s σ H x y v u Q I rx ry h
  obtain ⟨a, b, v1, u1, c, qs, rfl, rfl, ha, hb, hv, hu, q⟩ := h
  obtain ⟨g, fd, ps, h1, h2, F, hb'⟩ := O.ex
  have F2 : FnOk X.prog X.w X.K X.mg X.base CX0 1 g fd ps (spEq (RSt X.K S)) := F.imp fun vs H Q E ⟨a, b, e, ⟨qs, ha, hb⟩, q⟩ => ⟨.ref a, .ref b, qs, e, ha, .inl ⟨qs, hb, by rw [decide_eq_true rfl]; exact q H Ext.rfl'⟩⟩
  have mS : Mon (DIns S (RSt X.K S)) := mon_ins fun a b H H' e ⟨qs, h, h'⟩ => ⟨qs, h.same e, h'.same e⟩
  have G : EqG X 1 (fun x y H => DFlat x y H ∨ DIns S (RSt X.K S) x y H) := (eqG_flat.mono (Nat.zero_le 1)).or (eqG_ins F2 h1 h2 hb' pass0)
  refine op_eqG (rcG_list (mon_flat.or mS) G) hr pins s σ H _ _ _ _ Q I rx ry ⟨⟨a, b, _, _, rfl, rfl, ha, hb, .cons (.inl ⟨rfl, rfl, by show (c == c) = true; exact beq_self_eq_true c⟩) (.cons (.inr ?_) .nil)⟩, q⟩
  obtain ⟨x1, d1, _, _, _, _, _, rfl, e1, _⟩ := id hv
  obtain ⟨x2, d2, _, _, _, _, _, rfl, e2, _⟩ := id hu
  exact ⟨x1, x2, d1, d2, _, _, rfl, rfl, e1, e2, qs, hv, hu⟩
end
/-! ### the error of a step that cannot be turned back -/
def fs0 (nm : Str) (ws : List V) : List (Str × V) := match ws with
  | [] => [("code", .str nm)]
  | _ => []
section
variable {P : Program} {w : World} {K : PySem.W.Frag} {mg : Str → Option Value} {base : Heap} {f C : Addr} {fd : FuncData}
theorem scI0 : FnScope ["self"] ["self"] (defScope C_CantTurn_init) := ⟨rfl, rfl, rfl, by decide +kernel, rfl, by decide +kernel, by decide +kernel⟩
theorem init_C (F : Fun K "__init__" "CantTurn.__init__" C_CantTurn_init f fd) (T : XC K C) (n0 : PySem.W.findIn K (.ref C) "code" = some none) : FnOk P w K mg base CX0 1 f fd ["self"] (spIn C 0 (fs0 "CantTurn")) := by
  refine F.ok scI0 (fun vs H Q E h => ?_) (fun cdv A outer s H vs Q E hr h => ?_)
  · obtain ⟨a, ws, rfl, l, _⟩ := h
    exact congrArg Nat.succ l
  obtain ⟨a, ws, rfl, l, ha, q⟩ := h
  obtain rfl : ws = [] := List.eq_nil_of_length_eq_zero l
  refine ⟨_, pss_one (ps_xst (pv 0) pe_str), ?_⟩
  refine ⟨_, rfl, a, _, rfl, T, n0, .inl ⟨ha, fun e H1 ne he h1 h2 h3 => ?_⟩⟩
  exact q e _ ne he h1 h2 h3
end
/-! ### ~ of an own class -/
section
variable {X : Cx} {CX : CXT} {k : Nat} {C : Addr} {sp : Sp} {E : XK}
theorem un_inv (O : OpM X.prog X.w X.K X.mg X.base CX k C "__invert__" sp) (hr : Room k X.A) (hx : Passes CX X E) : UnR X (unaryOp .Invert) (rUnO C sp E) := by
  intro pins s σ H x v Q I rx h
  obtain ⟨a, dx, fs, rfl, ha, hsp⟩ := h
  obtain ⟨g, fd, ps, h1, h2, F, hb⟩ := O.ex
  cases rx
  obtain ⟨mA, J, _⟩ := ins_get I.hok ha
  obtain ⟨od, J, _⟩ := J.look
  obtain ⟨m, hF⟩ := I.fr
  refine PySem.W.ksp_inv hF I.ok.mod.kin J h1 h2 ?_
  exact run_fn (us := [.ref a]) (vs := [.ref a]) F hr hb .nil hx I (.cons rfl .nil) (by rw [List.append_nil]; exact hsp)
end
/-! ### the steps' methods -/
def spCkT (K : PySem.W.Frag) (S CC : Addr) : Sp := fun vs H Q E => ∃ (v : V) (qs : List Rat), vs = [v] ∧ StAt K S H v qs ∧ (Trn qs → Q .non H) ∧ (¬ Trn qs → Air H CC (fs0 "CantTurn" []) E)
def spInv (K : PySem.W.Frag) (S CC : Addr) : Sp := fun vs H Q E => ∃ (v : V) (qs : List Rat), vs = [v] ∧ StAt K S H v qs ∧ (¬ Trn qs → Air H CC (fs0 "CantTurn" []) E) ∧
  (Trn qs → ∃ s t : Nat, 1 ≤ s ∧ 1 ≤ t ∧ Gr s qs ∧ Gr t (invL qs) ∧ (s + t) * qs.length ≤ 130 ∧ GivesS K S H Q (invL qs))
def spPwS (K : PySem.W.Frag) (S CC : Addr) : Sp := fun vs H Q E => ∃ (v : V) (qs : List Rat) (t : Int), vs = [v, .int t] ∧ StAt K S H v qs ∧
  ((∃ k : Nat, t = -((k : Nat) : Int) ∧ 1 ≤ k ∧ k < 8 ∧ (¬ Trn qs → Air H CC (fs0 "CantTurn" []) E) ∧ (Trn qs → ∃ a b : Nat, 1 ≤ a ∧ 1 ≤ b ∧ Gr a qs ∧ Gr b (invL qs) ∧ (a + b) * qs.length ≤ 130 ∧ b * k * qs.length ≤ 200 ∧ GivesS K S H Q (itL (invL qs) k))) ∨
   (∃ k : Nat, t = ((k : Nat) : Int) ∧ 1 ≤ k ∧ k < 8 ∧ ∃ a : Nat, 1 ≤ a ∧ Gr a qs ∧ a * k * qs.length ≤ 200 ∧ GivesS K S H Q (itL qs k)))
def spRen (K : PySem.W.Frag) (S CU CC : Addr) : Sp := fun vs H Q E => ∃ (v u : V) (qs rs : List Rat), vs = [v, u] ∧ StAt K S H v qs ∧ StAt K S H u rs ∧ (qs.length ≠ rs.length → Air H CU (fs2 "UnlikeOrders" "one" "other" [.int (qs.length : Int), .int (rs.length : Int)]) E) ∧
  (qs.length = rs.length → ∃ a b c : Nat, 1 ≤ a ∧ 1 ≤ b ∧ 1 ≤ c ∧ Gr a qs ∧ Gr b rs ∧ (Trn rs → Gr c (invL rs)) ∧ (a + b + c) * qs.length ≤ 130 ∧ (¬ Trn rs → Air H CC (fs0 "CantTurn" []) E) ∧ (Trn rs → GivesS K S H Q (cmpL (cmpL rs qs) (invL rs))))
def spTrd (K : PySem.W.Frag) (S CU : Addr) : Sp := fun vs H Q E => ∃ (v u : V) (qs rs : List Rat), vs = [v, u] ∧ StAt K S H v qs ∧ StAt K S H u rs ∧ (qs.length ≠ rs.length → Air H CU (fs2 "UnlikeOrders" "one" "other" [.int (qs.length : Int), .int (rs.length : Int)]) E) ∧
  (qs.length = rs.length → ∃ a b : Nat, 1 ≤ a ∧ 1 ≤ b ∧ Gr a qs ∧ Gr b rs ∧ (a + b) * qs.length ≤ 200 ∧ ∀ H', Same H H' → Q (.bl (decide (cmpL qs rs = cmpL rs qs))) H')
def spExc (K : PySem.W.Frag) (S CU CC : Addr) : Sp := fun vs H Q E => ∃ (v u : V) (qs rs : List Rat), vs = [v, u] ∧ StAt K S H v qs ∧ StAt K S H u rs ∧ (qs.length ≠ rs.length → Air H CU (fs2 "UnlikeOrders" "one" "other" [.int (qs.length : Int), .int (rs.length : Int)]) E) ∧
  (qs.length = rs.length → ∃ a b c d : Nat, 1 ≤ a ∧ 1 ≤ b ∧ 1 ≤ c ∧ 1 ≤ d ∧ Gr a qs ∧ Gr b rs ∧ (Trn qs → Gr c (invL qs)) ∧ (Trn rs → Gr d (invL rs)) ∧ (a + b + c + d) * qs.length ≤ 130 ∧ ((¬ Trn qs ∨ ¬ Trn rs) → Air H CC (fs0 "CantTurn" []) E) ∧ (Trn qs → Trn rs → GivesS K S H Q (cmpL (cmpL (cmpL qs rs) (invL qs)) (invL rs))))
section
variable {P : Program} {w : World} {K : PySem.W.Frag} {mg : Str → Option Value} {base : Heap} {f C S CF CO CU CC o0 : Addr} {fd : FuncData} {H : Hp}
theorem StAt.ld {v : V} {qs : List Rat} (h : StAt K S H v qs) : ∃ (x dx : Addr) (fs : List (Str × V)) (x0 : V), v = .ref x ∧ H x = some (.ins S dx fs) ∧ fs.lookup ("lead" : Str) = some x0 ∧ Nq K H x0 (serS qs 1) ∧ fs.lookup ("numbers" : Str) = none ∧ fs.lookup ("power" : Str) = none ∧ fs.lookup ("renamed" : Str) = none ∧ fs.lookup ("cut" : Str) = none := by
  obtain ⟨x, dx, b, xs, x0, fv, sv, e, h1, h2, h3, h4, h5, h6⟩ := h
  obtain ⟨y0, e0, n0⟩ := h3.get' (i := 0) (by omega)
  rw [h4] at e0
  obtain rfl := Option.some.inj e0
  have g0 : serS qs 1 = qs[0] := by
    show qs.getD 0 0 = _
    rw [List.getD_eq_getElem?_getD, List.getElem?_eq_getElem (by omega)]
    rfl
  exact ⟨x, dx, _, x0, e, h1, rfl, by rw [g0]; exact n0, rfl, rfl, rfl, rfl⟩
theorem StAt.le {v : V} {qs : List Rat} (h : StAt K S H v qs) : 2 ≤ qs.length ∧ qs.length ≤ 24 := by
  obtain ⟨_, _, _, _, _, _, _, _, _, _, _, _, h5, h6⟩ := h
  exact ⟨h5, h6⟩
theorem StAt.nb {v : V} {qs : List Rat} (h : StAt K S H v qs) : ∃ (x dx b : Addr) (xs : List V) (fs : List (Str × V)), v = .ref x ∧ H x = some (.ins S dx fs) ∧ H b = some (.lst xs) ∧ Nl K H xs qs ∧ fs.lookup ("_numbers" : Str) = some (.ref b) ∧ fs.lookup ("order" : Str) = some (.int (qs.length : Int)) := by
  obtain ⟨x, dx, b, xs, fs, e, h1, h2, h3, h4, h5, _⟩ := h.num
  exact ⟨x, dx, b, xs, fs, e, h1, h2, h3, h4, h5⟩
theorem scCkT : FnScope ["step"] ["step"] (defScope F_check_turnable) := ⟨rfl, rfl, rfl, by decide +kernel, rfl, by decide +kernel, by decide +kernel⟩
theorem ok_cturn (G : Fun K "check_turnable" "check_turnable" F_check_turnable f fd) (k : StepK P w K mg base C S CF CO) (k0 : KP K o0 0 1) (mZ : mg "ZERO" = some (.ref o0)) (Z : ErrC P w K mg base "CantTurn" 0 (fs0 "CantTurn") CC) : FnOk P w K mg base (L2.CX P w) 3 f fd ["step"] (spCkT K S CC) := by
  refine G.okX scCkT (fun vs H Q E h => ?_) (fun cdv A outer s H vs Q E hr h => ?_)
  · obtain ⟨v, qs, rfl, _⟩ := h
    rfl
  obtain ⟨v, qs, rfl, hX, h1, h2⟩ := h
  obtain ⟨x, dx, fs, x0, rfl, hx, fl, nq, _⟩ := hX.ld
  obtain ⟨fI, fdI, ps, i1, i2, i3, i4⟩ := Z.i
  refine ⟨_, pss_one (ps_if (pt_cmpR (op_eqD hr.units) (pe_fld (pv 0) rfl) (C8.pe_gc (v := .ref o0) rfl ⟨_, mZ, rfl⟩) (nomark _)) (pss_one (ps_raise rfl (takes_of rfl rfl rfl rfl) (pmk_xo0 Z.T Z.ty i1 i2 i3 (hr.mono (by decide)) i4 pass0 rfl Z.m))) pss_nil), ?_⟩
  refine ⟨_, rfl, x, S, dx, _, _, rfl, hx, k.c, k.nA _ (by simp [stN]), fl, tupQ (serS qs 1), tupQ 0, nq.dp, k0.dp _, rfl, rfl, _, rfl, ?_⟩
  rw [eqv_num]
  by_cases c : serS qs 1 = 0
  · rw [decide_eq_true c]
    exact iteT ⟨(by show 0 ≤ 1000; decide), fun a na => air_of (C := CC) (n := 0) (ws := []) na rfl (h2 fun z => z c)⟩
  · rw [decide_eq_false c]
    exact iteF (h1 c)
theorem scInv : FnScope ["self"] ["self"] (defScope C_Step_invert) := ⟨rfl, rfl, rfl, by decide +kernel, rfl, by decide +kernel, by decide +kernel⟩
theorem ok_invert (G : Fun K "__invert__" "Step.__invert__" C_Step_invert f fd) (k : StepK P w K mg base C S CF CO) (UC : Use P w K mg base (L2.CX P w) 3 "check_turnable" ["step"] (spCkT K S CC) []) (UT : Use P w K mg base CX0 4 "turned_back" ["numbers"] (spTrn K) []) : FnOk P w K mg base (L2.CX P w) 8 f fd ["self"] (spInv K S CC) := by
  refine G.okX scInv (fun vs H Q E h => ?_) (fun cdv A outer s H vs Q E hr h => ?_)
  · obtain ⟨v, qs, rfl, _⟩ := h
    rfl
  obtain ⟨v, qs, rfl, hX, h1, h2⟩ := h
  obtain ⟨x, dx, b, xs, fs, rfl, hx, hb, nx, f1, f2⟩ := hX.nb
  obtain ⟨l2, l24⟩ := hX.le
  obtain ⟨fI, fdI, M, FI, bI⟩ := k.ini
  refine ⟨_, pss_cons (ps_expr (pe_use (E := E) UC (hr.mono (by decide)) rfl (passes_call (takes_of rfl rfl rfl rfl) (fun _ _ _ _ h => h)) (pa_cons (pv 0) pa_nil)))
    (pss_one (ps_ret (pe_make (E := E) M FI hr rfl k.m bI .nil (passes_call (takes_of rfl rfl rfl rfl) (fun _ _ _ _ h => h)) (pa_cons (pe_use UT (hr.mono (by decide)) rfl pass0 (pa_cons (pe_fld (pv 0) rfl) pa_nil)) pa_nil)))), ?_⟩
  refine ⟨_, rfl, .ref x, qs, rfl, hX, fun ht => ?_, h1⟩
  obtain ⟨s', t, s1, t1, gs, gt, st, gv⟩ := h2 ht
  have zt := gt.all
  rw [invL_len] at zt
  have l1 : 1 ≤ qs.length := by omega
  refine ⟨_, rfl, x, S, dx, _, _, rfl, hx, k.c, k.nA _ (by simp [stN]), f1, .ref b, qs, t * qs.length, s' * qs.length, rfl, ⟨b, xs, rfl, hb, nx⟩, l2, l24, ht, Nat.mul_pos t1 l1, Nat.mul_pos s1 l1, by rw [Nat.add_mul] at st; omega, zt, gs.pz (by omega), fun d H1 zs s1 nd hd md => ?_⟩
  exact step_new s1 (.inl hd) md (by rw [invL_len]; exact l2) (by rw [invL_len]; exact l24) gv
theorem scPwS : FnScope ["self", "t", "found"] ["self", "t"] (defScope C_Step_power) := ⟨rfl, rfl, rfl, by decide +kernel, rfl, by decide +kernel, by decide +kernel⟩
theorem ok_spower (G : Fun K "power" "Step.power" C_Step_power f fd) (k : StepK P w K mg base C S CF CO) (UB : Use P w K mg base CX0 2 "is_between" ["value", "low", "high"] (spBtw K) []) (UC : Use P w K mg base (L2.CX P w) 3 "check_turnable" ["step"] (spCkT K S CC) []) (UT : Use P w K mg base CX0 4 "turned_back" ["numbers"] (spTrn K) []) (UD : Use P w K mg base CX0 7 "done_times" ["numbers", "times"] (spDone K 2) [])
    (mM : ∃ u, mg "MOST_POWER" = some u ∧ RelV (.int 64) u) : FnOk P w K mg base (L2.CX P w) 8 f fd ["self", "t"] (spPwS K S CC) := by
  refine G.okX scPwS (fun vs H Q E h => ?_) (fun cdv A outer s H vs Q E hr h => ?_)
  · obtain ⟨v, qs, t, rfl, _⟩ := h
    rfl
  obtain ⟨v, qs, t, rfl, hX, hh⟩ := h
  obtain ⟨x, dx, b, xs, fs, rfl, hx, hb, nx, f1, f2⟩ := hX.nb
  obtain ⟨l2, l24⟩ := hX.le
  have l1 : 1 ≤ qs.length := by omega
  have li := invL_len qs
  obtain ⟨fI, fdI, M, FI, bI⟩ := k.ini
  refine ⟨_, pss_cons (ps_if (pt_val (pe_use UB (hr.mono (by decide)) rfl pass0 (pa_cons (pv 1) (pa_cons (pe_un un_neg (C8.pe_gc rfl mM)) (pa_cons (C8.pe_gc rfl mM) pa_nil)))))
      (pss_cons (ps_if (pt_cmpR op_lt (pv 1) pe_int (nomark _)) (pss_cons (ps_expr (pe_use (E := E) UC (hr.mono (by decide)) rfl (passes_call (takes_of rfl rfl rfl rfl) (fun _ _ _ _ h => h)) (pa_cons (pv 0) pa_nil)))
          (pss_one (ps_ret (pe_make (E := E) M FI hr rfl k.m bI .nil (passes_call (takes_of rfl rfl rfl rfl) (fun _ _ _ _ h => h)) (pa_cons (pe_use UD hr rfl pass0 (pa_cons (pe_use UT (hr.mono (by decide)) rfl pass0 (pa_cons (pe_fld (pv 0) rfl) pa_nil)) (pa_cons (pe_un un_neg (pv 1)) pa_nil))) pa_nil))))) pss_nil)
      (pss_one (ps_ret (pe_make (E := E) M FI hr rfl k.m bI .nil (passes_call (takes_of rfl rfl rfl rfl) (fun _ _ _ _ h => h)) (pa_cons (pe_use UD hr rfl pass0 (pa_cons (pe_fld (pv 0) rfl) (pa_cons (pv 1) pa_nil))) pa_nil))))) pss_nil)
    (pss_cons ps_never (pss_cons ps_never (pss_cons ps_never (pss_one ps_never)))), ?_⟩
  rcases hh with ⟨m, rfl, m1, m8, h1, h2⟩ | ⟨m, rfl, m1, m8, a, a1, ga, w1, gv⟩
  · refine ⟨_, rfl, 64, rfl, _, -64, 64, true, rfl, .yes (by omega) (by omega), _, rfl, iteT ⟨_, rfl, _, 0, rfl, rfl, _, rfl, ?_⟩⟩
    rw [decide_eq_true (show -((m : Nat) : Int) < 0 by omega)]
    refine iteT ⟨_, rfl, .ref x, qs, rfl, hX, fun ht => ?_, h1⟩
    obtain ⟨a, b', a1, b1, ga, gb, w1, w2, gv⟩ := h2 ht
    have zt := gb.all
    rw [li] at zt
    refine ⟨_, rfl, x, S, dx, _, _, rfl, hx, k.c, k.nA _ (by simp [stN]), f1, .ref b, qs, b' * qs.length, a * qs.length, rfl, ⟨b, xs, rfl, hb, nx⟩, l2, l24, ht, Nat.mul_pos b1 l1, Nat.mul_pos a1 l1, by rw [Nat.add_mul] at w1; omega, zt, ga.pz (by omega), fun d H1 zs s1 nd hd md => ?_⟩
    refine ⟨_, rfl, -((m : Nat) : Int), rfl, ?_⟩
    refine ⟨.ref d, invL qs, m, b', (by show [V.ref d, V.int (- -((m : Nat) : Int))] = _; rw [Int.neg_neg]), ⟨d, zs, rfl, hd, md⟩, by omega, by omega, m1, m8, b1, by rw [li]; exact w2, gb, fun v H2 s2 lv => ?_⟩
    obtain ⟨c, us, rfl, hc, mc⟩ := lv
    exact step_new (s1.trans s2) (.inl hc) mc (by rw [itL_len (by omega)]; omega) (by rw [itL_len (by omega)]; omega) gv
  · refine ⟨_, rfl, 64, rfl, _, -64, 64, true, rfl, .yes (by omega) (by omega), _, rfl, iteT ⟨_, rfl, _, 0, rfl, rfl, _, rfl, ?_⟩⟩
    rw [decide_eq_false (show ¬ ((m : Nat) : Int) < 0 by omega)]
    refine iteF ⟨_, rfl, x, S, dx, _, _, rfl, hx, k.c, k.nA _ (by simp [stN]), f1, _, rfl, .ref b, qs, m, a, rfl, ⟨b, xs, rfl, hb, nx⟩, l2, l24, m1, m8, a1, w1, ga, fun v H2 s2 lv => ?_⟩
    obtain ⟨c, us, rfl, hc, mc⟩ := lv
    exact step_new s2 (.inl hc) mc (by rw [itL_len l1]; omega) (by rw [itL_len l1]; omega) gv
/-- readings of * and ~ -/
theorem rd_smG {vx vy : V} {qs rs : List Rat} {a b : Nat} {E : XK} {R : VK} (hX : StAt K S H vx qs) (hY : StAt K S H vy rs) (le : qs.length = rs.length) (a1 : 1 ≤ a) (b1 : 1 ≤ b) (ga : Gr a qs) (gb : Gr b rs) (w1 : (a + b) * qs.length ≤ 200) (q : ∀ H' y, Same H H' → StAt K S H' y (cmpL qs rs) → R y H') : rBin S (spOpSG K S CU) E vx vy H R := by
  obtain ⟨l2, l24⟩ := hX.le
  obtain ⟨x, dx, _, _, _, _, _, ex, hx, _⟩ := id hX
  obtain ⟨y, dy, _, _, _, _, _, ey, hy, _⟩ := id hY
  refine ⟨x, y, dx, dy, _, _, ex, ey, hx, hy, vx, vy, qs, rs, rfl, hX, hY, fun n => absurd le n, fun _ => ⟨a * qs.length, b * qs.length, Nat.mul_pos a1 (by omega), Nat.mul_pos b1 (by omega), by rw [← Nat.add_mul]; exact w1, ga.all, ?_, q⟩⟩
  have := gb.pz (by omega)
  rw [← le] at this
  exact this
theorem rd_smX {vx vy : V} {qs rs : List Rat} {E : XK} {R : VK} (hX : StAt K S H vx qs) (hY : StAt K S H vy rs) (ne : qs.length ≠ rs.length) (h : Air H CU (fs2 "UnlikeOrders" "one" "other" [.int (qs.length : Int), .int (rs.length : Int)]) E) : rBin S (spOpSG K S CU) E vx vy H R := by
  obtain ⟨x, dx, _, _, _, _, _, ex, hx, _⟩ := id hX
  obtain ⟨y, dy, _, _, _, _, _, ey, hy, _⟩ := id hY
  exact ⟨x, y, dx, dy, _, _, ex, ey, hx, hy, vx, vy, qs, rs, rfl, hX, hY, fun _ => h, fun e => absurd e ne⟩
theorem rd_inG {vx : V} {qs : List Rat} {a b : Nat} {E : XK} {R : VK} (hX : StAt K S H vx qs) (ht : Trn qs) (a1 : 1 ≤ a) (b1 : 1 ≤ b) (ga : Gr a qs) (gb : Gr b (invL qs)) (w1 : (a + b) * qs.length ≤ 130) (q : ∀ H' y, Same H H' → StAt K S H' y (invL qs) → R y H') : rUnO S (spInv K S CC) E vx H R := by
  obtain ⟨x, dx, _, _, _, _, _, ex, hx, _⟩ := id hX
  exact ⟨x, dx, _, ex, hx, vx, qs, rfl, hX, fun n => absurd ht n, fun _ => ⟨a, b, a1, b1, ga, gb, w1, q⟩⟩
theorem rd_inX {vx : V} {qs : List Rat} {E : XK} {R : VK} (hX : StAt K S H vx qs) (ht : ¬ Trn qs) (h : Air H CC (fs0 "CantTurn" []) E) : rUnO S (spInv K S CC) E vx H R := by
  obtain ⟨x, dx, _, _, _, _, _, ex, hx, _⟩ := id hX
  exact ⟨x, dx, _, ex, hx, vx, qs, rfl, hX, fun _ => h, fun t => absurd t ht⟩
theorem scRen : FnScope ["self", "step"] ["self", "step"] (defScope C_Step_renamed) := ⟨rfl, rfl, rfl, by decide +kernel, rfl, by decide +kernel, by decide +kernel⟩
theorem ok_renamed (G : Fun K "renamed" "Step.renamed" C_Step_renamed f fd) (k : StepK P w K mg base C S CF CO) (UO : Use P w K mg base (L2.CX P w) 3 "check_orders" ["one", "other"] (spCor K CU) []) (OM' : OpM P w K mg base (L2.CX P w) 8 S "__mul__" (spOpSG K S CU)) (OI : OpM P w K mg base (L2.CX P w) 8 S "__invert__" (spInv K S CC)) : FnOk P w K mg base (L2.CX P w) 9 f fd ["self", "step"] (spRen K S CU CC) := by
  refine G.okX scRen (fun vs H Q E h => ?_) (fun cdv A outer s H vs Q E hr h => ?_)
  · obtain ⟨v, u, qs, rs, rfl, _⟩ := h
    rfl
  obtain ⟨v, u, qs, rs, rfl, hX, hY, h1, h2⟩ := h
  obtain ⟨x, dx, _, _, fs, ex, hx, _, _, _, f2⟩ := hX.nb
  obtain ⟨y, dy, _, _, gs, ey, hy, _, _, _, g2⟩ := hY.nb
  refine ⟨_, pss_cons (ps_expr (pe_use (E := E) UO (hr.mono (by decide)) rfl (passes_call (takes_of rfl rfl rfl rfl) (fun _ _ _ _ h => h)) (pa_cons (pv 0) (pa_cons (pv 1) pa_nil))))
    (pss_one (ps_ret (pe_op (op_bin (E := E) OM' rfl hr (passes_call (takes_of rfl rfl rfl rfl) (fun _ _ _ _ h => h))) (pe_op (op_bin (E := E) OM' rfl hr (passes_call (takes_of rfl rfl rfl rfl) (fun _ _ _ _ h => h))) (pv 1) (pv 0)) (pe_un (un_inv (E := E) OI hr (passes_call (takes_of rfl rfl rfl rfl) (fun _ _ _ _ h => h))) (pv 1))))), ?_⟩
  refine ⟨_, rfl, _, rfl, v, u, (qs.length : Int), (rs.length : Int), rfl, ⟨x, S, dx, fs, ex, hx, k.c, k.nA _ (by simp [stN]), f2⟩, ⟨y, S, dy, gs, ey, hy, k.c, k.nA _ (by simp [stN]), g2⟩, fun e => ?_, fun e => h1 (fun z => e (by rw [z]))⟩
  have le : qs.length = rs.length := by omega
  obtain ⟨a, b, c, a1, b1, c1, ga, gb, gc, w1, hx1, hq⟩ := h2 le
  have w2 : a * qs.length + b * qs.length + c * qs.length ≤ 130 := by rw [← Nat.add_mul, ← Nat.add_mul]; exact w1
  obtain ⟨_, l24⟩ := hX.le
  refine ⟨_, rfl, _, rfl, ?_⟩
  refine rd_smG hY hX le.symm b1 a1 gb ga (by rw [Nat.add_mul, ← le]; omega) fun H1 y1 s1 hy1 => ?_
  refine ⟨_, rfl, ?_⟩
  have g12 := gb.cmp ga le.symm (by omega)
  by_cases ht : Trn rs
  · refine rd_inG (hY.same s1) ht b1 c1 gb (gc ht) (by rw [Nat.add_mul, ← le]; omega) fun H2 y2 s2 hy2 => ?_
    refine rd_smG (hy1.same s2) hy2 (by rw [cmpL_len, invL_len]) (show 1 ≤ b + a by omega) c1 g12 (gc ht) (by rw [cmpL_len, Nat.add_mul, Nat.add_mul, ← le]; omega) fun H3 y3 s3 hy3 => ?_
    exact hq ht H3 y3 (s1.trans (s2.trans s3)) hy3
  · exact rd_inX (hY.same s1) ht ((hx1 ht).same s1)
theorem scTrd : FnScope ["one", "other"] ["one", "other"] (defScope F_trade) := ⟨rfl, rfl, rfl, by decide +kernel, rfl, by decide +kernel, by decide +kernel⟩
theorem ok_trade (G : Fun K "trade" "trade" F_trade f fd) (k : StepK P w K mg base C S CF CO) (OM' : OpM P w K mg base (L2.CX P w) 8 S "__mul__" (spOpSG K S CU)) (OE : OpM P w K mg base CX0 1 S "__eq__" (spEqF K S)) : FnOk P w K mg base (L2.CX P w) 9 f fd ["one", "other"] (spTrd K S CU) := by
  refine G.okX scTrd (fun vs H Q E h => ?_) (fun cdv A outer s H vs Q E hr h => ?_)
  · obtain ⟨v, u, qs, rs, rfl, _⟩ := h
    rfl
  obtain ⟨v, u, qs, rs, rfl, hX, hY, h1, h2⟩ := h
  obtain ⟨_, l24⟩ := hX.le
  refine ⟨_, pss_one (ps_ret (pe_cmpR (op_eqO OE (hr.mono (by decide)) pass0) (pe_op (op_bin (E := E) OM' rfl hr (passes_call (takes_of rfl rfl rfl rfl) (fun _ _ _ _ h => h))) (pv 0) (pv 1)) (pe_op (op_bin (E := E) OM' rfl hr (passes_call (takes_of rfl rfl rfl rfl) (fun _ _ _ _ h => h))) (pv 1) (pv 0)) (nomark _))), ?_⟩
  refine ⟨_, rfl, _, rfl, ?_⟩
  by_cases le : qs.length = rs.length
  · obtain ⟨a, b, a1, b1, ga, gb, w1, q⟩ := h2 le
    refine rd_smG hX hY le a1 b1 ga gb w1 fun H1 y1 s1 hy1 => ?_
    refine ⟨_, rfl, _, rfl, ?_⟩
    refine rd_smG (hY.same s1) (hX.same s1) le.symm b1 a1 gb ga (by rw [Nat.add_comm, ← le]; exact w1) fun H2 y2 s2 hy2 => ?_
    exact rd_eqS k (hy1.same s2) hy2 (q _ (s1.trans s2))
  · exact rd_smX hX hY le (h1 le)
theorem scExc : FnScope ["one", "other"] ["one", "other"] (defScope F_exchange) := ⟨rfl, rfl, rfl, by decide +kernel, rfl, by decide +kernel, by decide +kernel⟩
theorem ok_exchange (G : Fun K "exchange" "exchange" F_exchange f fd) (k : StepK P w K mg base C S CF CO) (OM' : OpM P w K mg base (L2.CX P w) 8 S "__mul__" (spOpSG K S CU)) (OI : OpM P w K mg base (L2.CX P w) 8 S "__invert__" (spInv K S CC)) : FnOk P w K mg base (L2.CX P w) 9 f fd ["one", "other"] (spExc K S CU CC) := by
  refine G.okX scExc (fun vs H Q E h => ?_) (fun cdv A outer s H vs Q E hr h => ?_)
  · obtain ⟨v, u, qs, rs, rfl, _⟩ := h
    rfl
  obtain ⟨v, u, qs, rs, rfl, hX, hY, h1, h2⟩ := h
  obtain ⟨_, l24⟩ := hX.le
  refine ⟨_, pss_one (ps_ret (pe_op (op_bin (E := E) OM' rfl hr (passes_call (takes_of rfl rfl rfl rfl) (fun _ _ _ _ h => h))) (pe_op (op_bin (E := E) OM' rfl hr (passes_call (takes_of rfl rfl rfl rfl) (fun _ _ _ _ h => h))) (pe_op (op_bin (E := E) OM' rfl hr (passes_call (takes_of rfl rfl rfl rfl) (fun _ _ _ _ h => h))) (pv 0) (pv 1))
      (pe_un (un_inv (E := E) OI hr (passes_call (takes_of rfl rfl rfl rfl) (fun _ _ _ _ h => h))) (pv 0))) (pe_un (un_inv (E := E) OI hr (passes_call (takes_of rfl rfl rfl rfl) (fun _ _ _ _ h => h))) (pv 1)))), ?_⟩
  refine ⟨_, rfl, _, rfl, ?_⟩
  by_cases le : qs.length = rs.length
  · obtain ⟨a, b, c, d, a1, b1, c1, d1, ga, gb, gc, gd, w1, hx1, hq⟩ := h2 le
    have w2 : a * qs.length + b * qs.length + c * qs.length + d * qs.length ≤ 130 := by rw [← Nat.add_mul, ← Nat.add_mul, ← Nat.add_mul]; exact w1
    refine rd_smG hX hY le a1 b1 ga gb (by rw [Nat.add_mul]; omega) fun H1 y1 s1 hy1 => ?_
    refine ⟨_, rfl, ?_⟩
    have g12 := ga.cmp gb le (by omega)
    by_cases t1 : Trn qs
    · refine rd_inG (hX.same s1) t1 a1 c1 ga (gc t1) (by rw [Nat.add_mul]; omega) fun H2 y2 s2 hy2 => ?_
      refine rd_smG (hy1.same s2) hy2 (by rw [cmpL_len, invL_len]) (show 1 ≤ a + b by omega) c1 g12 (gc t1) (by rw [cmpL_len, Nat.add_mul, Nat.add_mul]; omega) fun H3 y3 s3 hy3 => ?_
      have s13 := s1.trans (s2.trans s3)
      have g123 := g12.cmp (gc t1) (by rw [cmpL_len, invL_len]) (by rw [cmpL_len]; omega)
      refine ⟨_, rfl, ?_⟩
      by_cases t2 : Trn rs
      · refine rd_inG (hY.same s13) t2 b1 d1 gb (gd t2) (by rw [Nat.add_mul, ← le]; omega) fun H4 y4 s4 hy4 => ?_
        refine rd_smG (hy3.same s4) hy4 (by rw [cmpL_len, cmpL_len, invL_len]; exact le) (show 1 ≤ a + b + c by omega) d1 g123 (gd t2) (by rw [cmpL_len, cmpL_len, Nat.add_mul, Nat.add_mul, Nat.add_mul]; omega) fun H5 y5 s5 hy5 => ?_
        exact hq t1 t2 H5 y5 (s13.trans (s4.trans s5)) hy5
      · exact rd_inX (hY.same s13) t2 ((hx1 (.inr t2)).same s13)
    · exact rd_inX (hX.same s1) t1 ((hx1 (.inl t1)).same s1)
  · exact rd_smX hX hY le (h1 le)
end
end Kx
end
section
set_option maxHeartbeats 4000000
namespace Kx
open PySem PySem.Spec PyProof.Rows L2 RZ
/-! ### the law's own putting in, with weights by place -/
def GL (s : Nat) (us : List Rat) : Prop := ∀ j, j < us.length → Zq (s * j) (us.getD j 0)
theorem gl_pow {s : Nat} {rs : List Rat} (h : Gr s rs) (l : rs.length ≤ 30) (k : Nat) : GL s (powL (0 :: rs) k) := fun j hj => by
  have e := List.getElem?_eq_getElem hj
  rw [List.getD_eq_getElem?_getD, e]
  exact h.pows l k j e
theorem gl_one {s : Nat} {rs : List Rat} (h : Gr s rs) (l : rs.length ≤ 30) : GL s (0 :: rs) := gl_pow h l 0
theorem cvT_gz {s : Nat} {us ws : List Rat} (h : GL s us) (h' : GL s ws) (l : us.length = ws.length) (k : Nat) (hk : k < us.length) : ∀ m, m ≤ k + 1 → Zw (s * k) m 1024 (cvT us ws k m)
  | 0, _ => Zw.zero
  | m + 1, hm => by
    refine (cvT_gz h h' l k hk m (by omega)).add ?_
    have := (h m (by omega)).mul (h' (k - m) (by omega))
    rw [← Nat.mul_add, show m + (k - m) = k by omega] at this
    exact this
theorem Zq.b4 {e : Nat} {q : Rat} (h : Zq e q) (l : e ≤ 130) : Bq 4000 q := ((h.mono l).bq (by decide)).mono (by decide)
def spTimesG (K : PySem.W.Frag) : Sp := fun vs H Q _ => ∃ (x y : V) (qs rs : List Rat) (s : Nat), vs = [x, y] ∧ Ls K H x qs ∧ Ls K H y rs ∧ qs.length = rs.length ∧ qs.length ≤ 25 ∧ s * (qs.length - 1) ≤ 130 ∧ GL s qs ∧ GL s rs ∧ GivesL K H Q (mulL qs rs)
section
variable {P : Program} {w : World} {K : PySem.W.Frag} {mg : Str → Option Value} {base : Heap} {f : Addr} {fd : FuncData}
theorem ok_timesG (G : Fun K "_law_times" "_law_times" L_times f fd) (mn : mg "len" = none) (mr : mg "range" = none) (UA : Use P w K mg base CX0 2 "_law_add" ["_law_a", "_law_b"] (spAddQ K) []) (UM : Use P w K mg base CX0 2 "_law_mul" ["_law_a", "_law_b"] (spMulQ K) []) :
    FnOk P w K mg base CX0 3 f fd ["_law_u", "_law_w"] (spTimesG K) := by
  refine G.ok scTi (fun vs H Q E h => ?_) (fun cdv A outer s H vs Q E hr h => ?_)
  · obtain ⟨x, y, qs, rs, g, rfl, _⟩ := h
    rfl
  obtain ⟨x, y, qs, rs, g, rfl, ⟨xa, xs, rfl, hx, nx⟩, ⟨ya, ys, rfl, hy, ny⟩, le, l1, eg, bq, br, q⟩ := h
  refine ⟨_, pss_cons (ps_set (i := 2) scTi.nd rfl (Or.inl rfl) (pe_lst pa_nil))
    (pss_cons (ps_for PassesOwn.never rfl (pi_range1 rfl mr (pa_cons (pe_callB call_len_seq rfl mn PySem.boot_len (pa_cons (pv 0) pa_nil)) pa_nil)) (pg_name (i := 3) scTi.nd rfl (Or.inl rfl))
      (pss_cons (ps_set (i := 4) scTi.nd rfl (Or.inl rfl) (pe_tup (pa_cons pe_int (pa_cons pe_int pa_nil))))
      (C8.pss_cut (ps_for PassesOwn.never rfl (pi_range1 rfl mr (pa_cons (pe_op op_add (pv 3) pe_int) pa_nil)) (pg_name (i := 5) scTi.nd rfl (Or.inl rfl))
        (pss_one (ps_if (PW.pt (pw_and (pt_cmpR op_ne (pe_ix ix_tup (pe_ix ix_list (pv 0) (pv 5) (fun _ _ => rfl)) pe_int (fun _ _ => rfl)) pe_int (nomark _)) (pw_and1 (pt_cmpR op_ne (pe_ix ix_tup (pe_ix ix_list (pv 1) (pe_op op_sub (pv 3) (pv 5)) (fun _ _ => rfl)) pe_int (fun _ _ => rfl)) pe_int (nomark _)))))
          (pss_one (ps_set (i := 4) scTi.nd rfl (Or.inl rfl) (pe_use UA hr rfl pass0 (pa_cons (pv 4) (pa_cons (pe_use UM hr rfl pass0 (pa_cons (pe_ix ix_list (pv 0) (pv 5) (fun _ _ => rfl)) (pa_cons (pe_ix ix_list (pv 1) (pe_op op_sub (pv 3) (pv 5)) (fun _ _ => rfl)) pa_nil))) pa_nil))))) pss_nil)))
      (pss_one (ps_expr (pe_bm PySem.F.plainAttrs_list PySem.F.slot_list_append PySem.F.type_list_append mt_append (pv 2) (pa_cons (pv 4) pa_nil)))))))
    (pss_one (ps_ret (pv 2)))), ?_⟩
  have lx : xs.length = qs.length := nx.1
  have ly : ys.length = rs.length := ny.1
  refine ⟨(by show 0 ≤ sizeLine; decide), fun fb nf => ?_⟩
  have sf := new_same nf (HO.lst [])
  refine ⟨_, rfl, xa, xs, rfl, .inl (SqL.of (sf _ _ hx)), ?_⟩
  refine ⟨_, rfl, by omega, by omega, for_range (lo := 0) (n := (((xs.length : Nat) : Int)).toNat) (fun i σ H' => Same H H' ∧ (∃ v3 v4 v5, σ = [some (.ref xa), some (.ref ya), some (.ref fb), v3, v4, v5]) ∧ ∃ zs, H' fb = some (.lst zs) ∧ Nl K H' zs ((List.range i).map (cnv qs rs))) ⟨sf, ⟨none, none, none, rfl⟩, [], upd_same, Nl.nil⟩ ?_ ?_⟩
  · rintro i σ H3 hi ⟨s3, ⟨v3, v4, v5, rfl⟩, zs, hz, nz⟩
    rw [Int.toNat_natCast] at hi
    have zl : zs.length = i := by rw [nz.1, List.length_map, List.length_range]
    refine ⟨(by show 2 ≤ sizeLine; decide), fun t nt => ?_⟩
    have s4 := new_same nt (HO.tup [.int 0, .int 1])
    have n0 : Nq K (upd H3 t (HO.tup [.int 0, .int 1])) (.ref t) 0 := .at upd_same
    generalize upd H3 t (HO.tup [.int 0, .int 1]) = H4 at s4 n0
    refine ⟨fun σ H' => Same H4 H' ∧ ∃ tv v5, σ = [some (.ref xa), some (.ref ya), some (.ref fb), some (.int (0 + (i : Int))), some tv, v5] ∧ Nq K H' tv (cnv qs rs i), ?_, ?_⟩
    · refine ⟨_, rfl, (0 + (i : Int)), 1, rfl, rfl, _, rfl, by omega, by omega, for_range (lo := 0) (n := (0 + (i : Int) + 1).toNat) (fun j σ H' => Same H4 H' ∧ ∃ tv v5, σ = [some (.ref xa), some (.ref ya), some (.ref fb), some (.int (0 + (i : Int))), some tv, v5] ∧ Nq K H' tv (cvT qs rs i j)) ⟨Same.refl _, _, _, rfl, n0⟩ ?_ ?_⟩
      · rintro j σ H5 hj ⟨s5, tv, v5, rfl, nt5⟩
        have hj' : j < i + 1 := by omega
        have s35 := s3.trans (s4.trans s5)
        obtain ⟨a, ea, na⟩ := nx.get' (i := j) (by omega)
        obtain ⟨b, eb, nb⟩ := ny.get' (i := i - j) (by omega)
        have na5 := na.same s35
        have nb5 := nb.same s35
        obtain ⟨aa, rfl, sa, _⟩ := na5.sq
        obtain ⟨ba, rfl, sb, _⟩ := nb5.sq
        have gx := getD_at (qs := qs) (j := j) (by omega)
        have gy := getD_at (qs := rs) (j := i - j) (by omega)
        have Ba := bq j (by omega)
        have Bb := br (i - j) (by omega)
        rw [gx] at Ba
        rw [gy] at Bb
        have gi : g * i ≤ 130 := Nat.le_trans (Nat.mul_le_mul_left g (by omega)) eg
        have gj : g * j ≤ 130 := Nat.le_trans (Nat.mul_le_mul_left g (by omega)) eg
        have gk : g * (i - j) ≤ 130 := Nat.le_trans (Nat.mul_le_mul_left g (by omega)) eg
        have Bc := Ba.mulq Bb
        rw [← Nat.mul_add, show j + (i - j) = i by omega] at Bc
        have nxt : cvT qs rs i (j + 1) = cvT qs rs i j + qs[j] * rs[i - j] := by
          show _ + _ * _ = _
          rw [gx, gy]
        generalize qs[j] = qa at *
        generalize rs[i - j] = rb at *
        have hx5 := s35 _ _ hx
        have hy5 := s35 _ _ hy
        refine ⟨_, rfl, _, rfl, xa, xs, _, _, rfl, rfl, SqL.of hx5, at_of (j := j) (by omega) ea, aa, _, 0, _, rfl, rfl, sa, rfl, rfl, _, rfl, ?_⟩
        by_cases ca : qa.num = 0
        · have z : qa = 0 := Rat.num_eq_zero.mp ca
          rw [decide_eq_true (congrArg V.int ca)]
          refine iteF (iteF ⟨s5, tv, _, rfl, ?_⟩)
          rw [nxt, z, Rat.zero_mul, Rat.add_zero]
          exact nt5
        rw [decide_eq_false (fun e => ca (V.int.inj e))]
        refine iteT ⟨_, rfl, _, rfl, _, rfl, (0 + (i : Int)), (0 + (j : Int)), rfl, rfl, ya, ys, _, _, rfl, rfl, SqL.of hy5, at_of (j := i - j) (by omega) eb, ba, _, 0, _, rfl, rfl, sb, rfl, rfl, _, rfl, ?_⟩
        by_cases cb : rb.num = 0
        · have z : rb = 0 := Rat.num_eq_zero.mp cb
          rw [decide_eq_true (congrArg V.int cb)]
          refine iteF ⟨s5, tv, _, rfl, ?_⟩
          rw [nxt, z, Rat.mul_zero, Rat.add_zero]
          exact nt5
        rw [decide_eq_false (fun e => cb (V.int.inj e))]
        refine iteT ⟨_, rfl, _, rfl, _, rfl, xa, xs, _, _, rfl, rfl, SqL.of hx5, at_of (j := j) (by omega) ea, _, rfl, _, rfl, _, rfl, (0 + (i : Int)), (0 + (j : Int)), rfl, rfl, ya, ys, _, _, rfl, rfl, SqL.of hy5, at_of (j := i - j) (by omega) eb, ?_⟩
        refine ⟨.ref aa, .ref ba, qa, rb, rfl, na5, nb5, Ba.b4 gj, Bb.b4 gk, fun p H6 s6 n6 e6 => ?_⟩
        have bt := ((cvT_gz bq br le i (by omega) j (by omega)).red (by omega)).b4 gi
        refine ⟨tv, .ref p, cvT qs rs i j, qa * rb, rfl, nt5.same s6, .at e6, bt, Bc.b4 gi, fun p2 H7 s7 n7 e7 => ⟨s5.trans (s6.trans s7), .ref p2, _, rfl, ?_⟩⟩
        rw [nxt]
        exact .at e7
      · rintro σ H5 ⟨s5, tv, v5, rfl, nt5⟩
        rw [show (0 + (i : Int) + 1).toNat = i + 1 by omega] at nt5
        exact ⟨s5, tv, _, rfl, nt5⟩
    · rintro σ H5 ⟨s5, tv, v5', rfl, nt5⟩
      have hz5 := s5 _ _ (s4 _ _ hz)
      refine ⟨_, rfl, .inl ⟨rfl, _, SqL.of hz5⟩, _, rfl, fb, zs, _, rfl, rfl, hz5, small1000 (by omega), ?_, ⟨_, _, _, rfl⟩, zs ++ [tv], upd_same, ?_⟩
      · intro b o hb
        have nb : b ≠ fb := fun z => by rw [z, nf] at hb; cases hb
        rw [upd_ne nb]
        exact s5 _ _ (s4 _ _ (s3 _ _ hb))
      · have nb : Nl K H5 (zs ++ [tv]) ((List.range (i + 1)).map (cnv qs rs)) := by
          rw [List.range_succ, List.map_append]
          exact ((nz.same s4).same s5).snoc nt5
        exact ⟨nb.1, fun j x r h1 h2 => (nb.2 j x r h1 h2).butL hz5 (fun b o n h => by rw [upd_ne n]; exact h)⟩
  · rintro σ H3 ⟨s3, ⟨v3, v4, v5, rfl⟩, zs, hz, nz⟩
    rw [Int.toNat_natCast, lx] at nz
    exact ⟨_, rfl, q fb H3 zs s3 nf hz nz⟩
end
theorem powS_gz {g : Nat} {rs : List Rat} (h : Gr g rs) (l : rs.length ≤ 30) (g0 : 1 ≤ g) (l1 : 1 ≤ rs.length) {i : Nat} (hi : i < rs.length + 1) : ∀ a, Zq (g * rs.length) (powS (serS rs) a i)
  | 0 => by
    show Zq _ (if i = 0 then 1 else 0)
    split
    · exact Zq.one (Nat.mul_pos g0 l1)
    · exact Zq.zero
  | a + 1 => (GrS.pow h l a i (by omega)).mono (Nat.mul_le_mul_left g (by omega))
theorem parS_gz {e g : Nat} {us rs : List Rat} (h : AllZ e us) (h' : Gr g rs) (l : rs.length ≤ 30) (g0 : 1 ≤ g) (l1 : 1 ≤ rs.length) {i : Nat} (hi : i < rs.length + 1) : ∀ m, m ≤ rs.length + 1 → Zw (e + g * rs.length) m 1024 (parS us rs m i)
  | 0, _ => Zw.zero
  | m + 1, hm => (parS_gz h h' l g0 l1 hi m (by omega)).add ((h.getD m).mul (powS_gz h' l g0 l1 hi m))
def spLPut (K : PySem.W.Frag) : Sp := fun vs H Q _ => ∃ (x y : V) (us rs : List Rat) (e g : Nat), vs = [x, y] ∧ Ls K H x us ∧ Ls K H y (0 :: rs) ∧ us.length = rs.length + 1 ∧ 1 ≤ rs.length ∧ rs.length ≤ 24 ∧ 1 ≤ e ∧ 1 ≤ g ∧ e + g * rs.length ≤ 130 ∧ AllZ e us ∧ Gr g rs ∧ GivesV K H Q (bhdL us rs)
def spLBeh (K : PySem.W.Frag) : Sp := fun vs H Q _ => ∃ (x y : V) (qs rs : List Rat) (e g : Nat), vs = [x, y] ∧ Ls K H x qs ∧ Ls K H y rs ∧ qs.length = rs.length ∧ 1 ≤ rs.length ∧ rs.length ≤ 24 ∧ 1 ≤ e ∧ 1 ≤ g ∧ (e + g) * rs.length ≤ 130 ∧ Gr e qs ∧ Gr g rs ∧ GivesV K H Q (cmpL qs rs)
section
variable {P : Program} {w : World} {K : PySem.W.Frag} {mg : Str → Option Value} {base : Heap} {f : Addr} {fd : FuncData}
theorem ok_lputG (G : Fun K "_law_put" "_law_put" L_put f fd) (mn : mg "len" = none) (mr : mg "range" = none) (ml : mg "list" = none) (UT : Use P w K mg base CX0 3 "_law_times" ["_law_u", "_law_w"] (spTimesG K) []) (UP : Use P w K mg base CX0 3 "_law_plus" ["_law_u", "_law_w"] (spPlus K) []) (US : Use P w K mg base CX0 3 "_law_scale" ["_law_u", "_law_c"] (spScale K) []) :
    FnOk P w K mg base CX0 4 f fd ["_law_u", "_law_f"] (spLPut K) := by
  refine G.ok scPu (fun vs H Q E h => ?_) (fun cdv A outer s H vs Q E hr h => ?_)
  · obtain ⟨x, y, us, rs, e, g, rfl, _⟩ := h
    rfl
  obtain ⟨x, y, us, rs, e, g, rfl, ⟨xa, xs, rfl, hx, nx⟩, ⟨ya, ys, rfl, hy, ny⟩, le, l1, l24, e0, g0, eg, bq, br, q⟩ := h
  refine ⟨_, C8.pss_cut (ps_set (i := 2) scPu.nd rfl (Or.inl rfl) (pe_op op_cat (pe_lst (pa_cons (pe_ix ix_list (pv 0) pe_int (fun _ _ => rfl)) pa_nil)) (pe_op op_rep (pe_lst (pa_cons (pe_tup (pa_cons pe_int (pa_cons pe_int pa_nil))) pa_nil)) (pe_op op_sub (pe_callB call_len_seq rfl mn PySem.boot_len (pa_cons (pv 0) pa_nil)) pe_int))))
    (C8.pss_cut (ps_set (i := 3) scPu.nd rfl (Or.inl rfl) (pe_callTy call_list_of rfl ml (by decide +kernel) (pa_cons (pv 1) pa_nil)))
    (pss_cons (ps_for PassesOwn.never rfl (pi_range2 rfl mr (pa_cons pe_int (pa_cons (pe_callB call_len_seq rfl mn PySem.boot_len (pa_cons (pv 0) pa_nil)) pa_nil))) (pg_name (i := 4) scPu.nd rfl (Or.inl rfl))
      (C8.pss_cut (ps_if (pt_cmpR op_ne (pe_ix ix_tup (pe_ix ix_list (pv 0) (pv 4) (fun _ _ => rfl)) pe_int (fun _ _ => rfl)) pe_int (nomark _))
          (pss_one (ps_set (i := 2) scPu.nd rfl (Or.inl rfl) (pe_use UP hr rfl pass0 (pa_cons (pv 2) (pa_cons (pe_use US hr rfl pass0 (pa_cons (pv 3) (pa_cons (pe_ix ix_list (pv 0) (pv 4) (fun _ _ => rfl)) pa_nil))) pa_nil))))) pss_nil)
      (pss_one (ps_if (pt_cmpR op_lt (pv 4) (pe_op op_sub (pe_callB call_len_seq rfl mn PySem.boot_len (pa_cons (pv 0) pa_nil)) pe_int) (nomark _))
          (pss_one (ps_set (i := 3) scPu.nd rfl (Or.inl rfl) (pe_use UT hr rfl pass0 (pa_cons (pv 3) (pa_cons (pv 1) pa_nil))))) pss_nil))))
    (pss_one (ps_ret (pv 2))))), ?_⟩
  have lx : xs.length = us.length := nx.1
  have ly : ys.length = rs.length + 1 := ny.1
  obtain ⟨u0, us', rfl⟩ : ∃ u0 us', us = u0 :: us' := by
    cases us with
    | nil => simp at le
    | cons u0 us' => exact ⟨u0, us', rfl⟩
  obtain ⟨x0, ex0, nx0⟩ := nx.get' (i := 0) (by rw [List.length_cons]; omega)
  have n30 : rs.length ≤ 30 := by omega
  refine ⟨fun σ H' => Same H H' ∧ ∃ v2, σ = [some (.ref xa), some (.ref ya), some v2, none, none] ∧ Ls K H' v2 (toL (rs.length + 1) (parS (u0 :: us') rs 1)), ?_, ?_⟩
  · refine ⟨_, rfl, xa, xs, 0, x0, rfl, rfl, SqL.of hx, at_of (j := 0) rfl ex0, (by show 1 ≤ sizeLine; decide), fun a na => ⟨(by show 2 ≤ sizeLine; decide), fun t nt => ⟨(by show 1 ≤ sizeLine; decide), fun c nc => ?_⟩⟩⟩
    have s1 := new_same na (HO.lst [x0])
    have s2 := new_same nt (HO.tup [.int 0, .int 1])
    have s3 := new_same nc (HO.lst [V.ref t])
    have hx3 := s3 _ _ (s2 _ _ (s1 _ _ hx))
    refine ⟨_, rfl, xa, xs, rfl, .inl (SqL.of hx3), ((xs.length : Nat) : Int), 1, rfl, rfl, c, ((xs.length : Nat) : Int) - 1, [.ref t], rfl, rfl, upd_same, by omega, by omega, (by show 1 * _ ≤ sizeLine; exact Nat.le_of_lt (small1000 (by omega))), fun d nd => ?_⟩
    have rep : (List.replicate (((xs.length : Nat) : Int) - 1).toNat [V.ref t]).flatten = List.replicate rs.length (.ref t) := by
      rw [List.flatten_replicate_singleton]
      congr 1
      omega
    rw [rep]
    have s4 := new_same nd (HO.lst (List.replicate rs.length (V.ref t)))
    refine ⟨a, d, _, _, rfl, rfl, s4 _ _ (s3 _ _ (s2 _ _ upd_same)), upd_same, Nat.le_of_lt (small1000 (by rw [List.length_replicate]; show 1 + _ ≤ _; omega)), fun k nk => ?_⟩
    have s5 := new_same nk (HO.lst ([x0] ++ List.replicate rs.length (V.ref t)))
    have sA := s1.trans (s2.trans (s3.trans (s4.trans s5)))
    have z0 : Nq K _ (.ref t) 0 := .at (K := K) ((s3.trans (s4.trans s5)) _ _ (show _ = some (rT 0) from upd_same))
    refine ⟨sA, _, rfl, k, _, rfl, upd_same, ?_⟩
    rw [parS_one]
    exact Nl.cons (nx0.same sA) (rep_nl z0 _)
  rintro σ H1 ⟨s1, v2, rfl, L2'⟩
  refine ⟨fun σ H' => Same H H' ∧ ∃ v2 v3, σ = [some (.ref xa), some (.ref ya), some v2, some v3, none] ∧ Ls K H' v2 (toL (rs.length + 1) (parS (u0 :: us') rs 1)) ∧ Ls K H' v3 (powL (0 :: rs) 0), ?_, ?_⟩
  · refine ⟨_, rfl, ya, ys, rfl, .inl (SqL.of (s1 _ _ hy)), fun b nb => ⟨s1.trans (new_same nb _), _, _, rfl, L2'.same (new_same nb _), b, ys, rfl, upd_same, (ny.same s1).same (new_same nb _)⟩⟩
  clear s1 L2'
  rintro σ H1 ⟨s1, v2, v3, rfl, M2, M3⟩
  refine ⟨_, rfl, xa, xs, rfl, .inl (SqL.of (s1 _ _ hx)), 1, ((xs.length : Nat) : Int), rfl, ⟨by omega, by omega, by omega, by omega⟩, for_range (lo := 1) (n := (((xs.length : Nat) : Int) - 1).toNat) (fun t σ H' => Same H H' ∧ ∃ v2 v3 v4, σ = [some (.ref xa), some (.ref ya), some v2, some v3, v4] ∧ Ls K H' v2 (toL (rs.length + 1) (parS (u0 :: us') rs (t + 1))) ∧ Ls K H' v3 (powL (0 :: rs) (min t (rs.length - 1)))) ⟨s1, v2, v3, none, rfl, M2, by rw [Nat.zero_min]; exact M3⟩ ?_ ?_⟩
  · clear s1 M2 M3 v2 v3
    rintro t σ H2 ht ⟨s2, v2, v3, v4, rfl, M2, M3⟩
    have ht' : t < rs.length := by omega
    rw [Nat.min_eq_left (by omega)] at M3
    have hx2 := s2 _ _ hx
    obtain ⟨y, ey, nyv⟩ := (nx.same s2).get' (i := t + 1) (by omega)
    have ga := getD_at (qs := u0 :: us') (j := t + 1) (by omega)
    have zy : Zq e (u0 :: us')[t + 1] := bq _ (List.getElem_mem _)
    generalize (u0 :: us')[t + 1] = r at nyv ga zy
    obtain ⟨va, rfl, sa, _⟩ := nyv.sq
    have pz : AllZ (g * rs.length) (powL (0 :: rs) t) := br.powz n30 t
    have gl1 : 1 ≤ g * rs.length := Nat.mul_pos g0 l1
    have pe : powL (0 :: rs) t = toL (rs.length + 1) (powS (serS rs) (t + 1)) := by
      have e : (0 :: rs) = toL (rs.length + 1) (serS rs) := (toL_ser (0 :: rs)).symm
      rw [e, powL_toL]
    have nxt : toL (rs.length + 1) (parS (u0 :: us') rs (t + 1 + 1)) = (toL (rs.length + 1) (parS (u0 :: us') rs (t + 1))).zipWith (· + ·) ((powL (0 :: rs) t).map (· * r)) := by
      rw [pe, toL_mul, toL_zip]
      refine toL_eq fun i hi => ?_
      show parS (u0 :: us') rs (t + 1) i + (u0 :: us').getD (t + 1) 0 * _ = _ + _ * r
      rw [ga, Rat.mul_comm r]
    have at1 : atI xs (1 + (t : Int)) = some (.ref va) := at_of (j := t + 1) (by omega) ey
    refine ⟨fun σ H' => Same H H' ∧ ∃ v2, σ = [some (.ref xa), some (.ref ya), some v2, some v3, some (.int (1 + (t : Int)))] ∧ Ls K H' v2 (toL (rs.length + 1) (parS (u0 :: us') rs (t + 1 + 1))) ∧ Ls K H' v3 (powL (0 :: rs) t), ?_, ?_⟩
    · refine ⟨_, rfl, _, rfl, xa, xs, _, _, rfl, rfl, SqL.of hx2, at1, va, _, 0, _, rfl, rfl, sa, rfl, rfl, _, rfl, ?_⟩
      by_cases ca : r.num = 0
      · have z : r = 0 := Rat.num_eq_zero.mp ca
        rw [decide_eq_true (congrArg V.int ca)]
        refine iteF ⟨s2, v2, rfl, ?_, M3⟩
        have : toL (rs.length + 1) (parS (u0 :: us') rs (t + 1 + 1)) = toL (rs.length + 1) (parS (u0 :: us') rs (t + 1)) := toL_eq fun i hi => by
          show parS (u0 :: us') rs (t + 1) i + (u0 :: us').getD (t + 1) 0 * _ = _
          rw [ga, z, Rat.zero_mul, Rat.add_zero]
        rw [this]
        exact M2
      rw [decide_eq_false (fun e => ca (V.int.inj e))]
      refine iteT ⟨_, rfl, _, rfl, _, rfl, _, rfl, xa, xs, _, _, rfl, rfl, SqL.of hx2, at1, _, _, powL (0 :: rs) t, r, rfl, M3, nyv, by rw [powL_len, List.length_cons]; omega, fun p hp => (pz p hp).b4 (by omega), zy.b4 (by omega), fun b H3 zs s3 nb hb mb => ?_⟩
      refine ⟨_, _, _, _, rfl, M2.same s3, ⟨b, zs, rfl, hb, mb⟩, by rw [toL_len, List.length_map, powL_len]; rfl, by rw [toL_len]; omega, fun p hp => ?_, fun p hp => ?_, fun b2 H4 zs2 s4 nb2 hb2 mb2 => ?_⟩
      · obtain ⟨i, hi, rfl⟩ := List.mem_map.mp hp
        exact ((parS_gz bq br n30 g0 l1 (List.mem_range.mp hi) (t + 1) (by omega)).red (by omega)).b4 eg
      · obtain ⟨p', hp', rfl⟩ := List.mem_map.mp hp
        exact (Zq.mulq (pz p' hp') zy).b4 (by omega)
      · rw [← nxt] at mb2
        exact ⟨s2.trans (s3.trans s4), _, rfl, ⟨b2, zs2, rfl, hb2, mb2⟩, M3.same (s3.trans s4)⟩
    · clear s2 M2 M3 hx2
      rintro σ H3 ⟨s3, w2, rfl, M2, M3⟩
      refine ⟨_, rfl, _, rfl, xa, xs, rfl, .inl (SqL.of (s3 _ _ hx)), ((xs.length : Nat) : Int), 1, rfl, rfl, _, _, rfl, rfl, _, rfl, ite2 (fun c => ?_) (fun c => ?_)⟩
      · have c' := of_decide_eq_true c
        refine ⟨_, rfl, _, rfl, _, _, powL (0 :: rs) t, 0 :: rs, g, rfl, M3, ⟨ya, ys, rfl, s3 _ _ hy, ny.same s3⟩, powL_len _ _, by rw [powL_len, List.length_cons]; omega, by rw [powL_len, List.length_cons]; show g * (rs.length + 1 - 1) ≤ 130; rw [Nat.add_sub_cancel]; omega, gl_pow br n30 t, gl_one br n30, fun b H4 zs s4 nb hb mb => ?_⟩
        · refine ⟨s3.trans s4, _, _, _, rfl, M2.same s4, ?_⟩
          rw [Nat.min_eq_left (by omega)]
          exact ⟨b, zs, rfl, hb, mb⟩
      · have c' := of_decide_eq_false (Bool.eq_false_iff.mpr c)
        refine ⟨s3, _, _, _, rfl, M2, ?_⟩
        have : min (t + 1) (rs.length - 1) = t := by omega
        rw [this]
        exact M3
  · rintro σ H2 ⟨s2, w2, w3, v4, rfl, M2, M3⟩
    have : (((xs.length : Nat) : Int) - 1).toNat + 1 = rs.length + 1 := by omega
    rw [this, parS_end le] at M2
    exact ⟨_, rfl, q _ _ s2 M2⟩
theorem ok_lbehG (G : Fun K "_law_behind" "_law_behind" L_behind f fd) (UP : Use P w K mg base CX0 4 "_law_put" ["_law_u", "_law_f"] (spLPut K) []) : FnOk P w K mg base CX0 5 f fd ["_law_a", "_law_b"] (spLBeh K) := by
  refine G.ok scBe (fun vs H Q E h => ?_) (fun cdv A outer s H vs Q E hr h => ?_)
  · obtain ⟨x, y, us, rs, e, g, rfl, _⟩ := h
    rfl
  obtain ⟨x, y, us, rs, e, g, rfl, ⟨xa, xs, rfl, hx, nx⟩, ⟨ya, ys, rfl, hy, ny⟩, le, l1, l24, e0, g0, eg, bq, br, q⟩ := h
  refine ⟨_, pss_one (ps_ret (pe_slice sl_list (pe_use UP hr rfl pass0 (pa_cons (pe_op op_cat (pe_lst (pa_cons (pe_tup (pa_cons pe_int (pa_cons pe_int pa_nil))) pa_nil)) (pv 0)) (pa_cons (pe_op op_cat (pe_lst (pa_cons (pe_tup (pa_cons pe_int (pa_cons pe_int pa_nil))) pa_nil)) (pv 1)) pa_nil))) (po_some pe_int) po_none)), ?_⟩
  have lx : xs.length = us.length := nx.1
  have ly : ys.length = rs.length := ny.1
  refine ⟨(by show 2 ≤ sizeLine; decide), fun t nt => ⟨(by show 1 ≤ sizeLine; decide), fun a na => ⟨_, rfl, a, xa, _, _, rfl, rfl, upd_same, new_same na _ _ _ (new_same nt _ _ _ hx), Nat.le_of_lt (small1000 (by show 1 + _ ≤ _; omega)), fun d nd => ?_⟩⟩⟩
  have s1 := new_same nt (HO.tup [.int 0, .int 1])
  have s2 := new_same na (HO.lst [V.ref t])
  have s3 := new_same nd (HO.lst ([V.ref t] ++ xs))
  have sA := s1.trans (s2.trans s3)
  have z0 : Nq K _ (.ref t) 0 := .at (K := K) ((s2.trans s3) _ _ (show _ = some (rT 0) from upd_same))
  have n1 := Nl.cons z0 (nx.same sA)
  have ed : upd (upd (upd H t (HO.tup [.int 0, .int 1])) a (HO.lst [V.ref t])) d (HO.lst ([V.ref t] ++ xs)) d = some (HO.lst ([V.ref t] ++ xs)) := upd_same
  generalize upd (upd (upd H t (HO.tup [.int 0, .int 1])) a (HO.lst [V.ref t])) d (HO.lst ([V.ref t] ++ xs)) = H1 at sA z0 n1 ed
  refine ⟨(by show 2 ≤ sizeLine; decide), fun t2 nt2 => ⟨(by show 1 ≤ sizeLine; decide), fun a2 na2 => ⟨_, rfl, a2, ya, _, _, rfl, rfl, upd_same, new_same na2 _ _ _ (new_same nt2 _ _ _ (sA _ _ hy)), Nat.le_of_lt (small1000 (by show 1 + _ ≤ _; omega)), fun d2 nd2 => ?_⟩⟩⟩
  have r1 := new_same nt2 (HO.tup [.int 0, .int 1])
  have r2 := new_same na2 (HO.lst [V.ref t2])
  have r3 := new_same nd2 (HO.lst ([V.ref t2] ++ ys))
  have rA := r1.trans (r2.trans r3)
  have y0 : Nq K _ (.ref t2) 0 := .at (K := K) ((r2.trans r3) _ _ (show _ = some (rT 0) from upd_same))
  have n2 := Nl.cons y0 ((ny.same sA).same rA)
  have ed2 : upd (upd (upd H1 t2 (HO.tup [.int 0, .int 1])) a2 (HO.lst [V.ref t2])) d2 (HO.lst ([V.ref t2] ++ ys)) d2 = some (HO.lst ([V.ref t2] ++ ys)) := upd_same
  generalize upd (upd (upd H1 t2 (HO.tup [.int 0, .int 1])) a2 (HO.lst [V.ref t2])) d2 (HO.lst ([V.ref t2] ++ ys)) = H2 at rA y0 n2 ed2
  refine ⟨_, _, 0 :: us, rs, e * rs.length, g, rfl, ⟨d, _, rfl, rA _ _ ed, n1.same rA⟩, ⟨d2, _, rfl, ed2, n2⟩, by rw [List.length_cons, le], l1, l24, Nat.mul_pos e0 l1, g0, by rw [Nat.add_mul] at eg; exact eg, ?_, br, fun v H3 s3 lv => ?_⟩
  · intro p hp
    rcases List.mem_cons.mp hp with rfl | hp
    · exact Zq.zero
    · have := bq.all p hp
      rw [le] at this
      exact this
  · obtain ⟨b, zs, rfl, hb, mb⟩ := lv
    refine ⟨_, rfl, b, zs, rfl, SqL.of hb, fun p np => ?_⟩
    rw [show cutV zs (some 1) none = zs.drop 1 from cut_drop zs 1]
    have s4 := new_same np (HO.lst (zs.drop 1))
    rw [cmpL_bhd] at mb
    exact q _ _ (sA.trans (rA.trans (s3.trans s4))) ⟨p, _, rfl, upd_same, (mb.drop 1).same s4⟩
/-! ### drawn steps that can be turned back -/
theorem scSlw : FnScope ["_law_bag_here", "_law_size_here"] ["_law_bag_here", "_law_size_here"] (defScope L_slow) := ⟨rfl, rfl, rfl, by decide +kernel, rfl, by decide +kernel, by decide +kernel⟩
theorem ok_slow (F : Fun K "_law_slow" "_law_slow" L_slow f fd) (UD : Use P w K mg base CX0 1 "_law_draw" ["_law_bag_here", "_law_limit"] spDraw []) (US : Use P w K mg base CX0 1 "_law_still" ["_law_size_here"] (spLst K) []) (UP : Use P w K mg base CX0 5 "_law_spread" ["_law_bag_here", "_law_size_here", "_law_first"] (spSpr K) []) :
    FnOk P w K mg base CX0 6 f fd ["_law_bag_here", "_law_size_here"] (spStp K) := by
  refine F.ok scSlw (fun vs H Q E h => ?_) (fun cdv A outer s H vs Q E hr h => ?_)
  · obtain ⟨B, p, n, rfl, _⟩ := h
    rfl
  obtain ⟨B, p, n, rfl, hb, n2, n24, q⟩ := h
  have hr1 := hr.mono (show 1 ≤ 5 by decide)
  refine ⟨_, pss_cons (ps_if (pt_cmpR op_eq (pe_use UD hr1 rfl pass0 (pa_cons (pv 0) (pa_cons pe_int pa_nil))) pe_int (nomark _)) (pss_one (ps_ret (pe_use US hr1 rfl pass0 (pa_cons (pv 1) pa_nil)))) pss_nil)
    (pss_one (ps_ret (pe_use UP hr rfl pass0 (pa_cons (pv 0) (pa_cons (pv 1) (pa_cons (pe_tup (pa_cons pe_int (pa_cons pe_int pa_nil))) pa_nil)))))), ?_⟩
  refine ⟨_, rfl, B, p, 12, rfl, by decide, by decide, hb, fun H1 k b1 u1 k0 k1 => ⟨rfl, _, rfl, ite2 (fun _ => ?_) (fun _ => ?_)⟩⟩
  · refine ⟨_, rfl, n, rfl, n2, n24, fun b H2 zs s2 nb hb2 mb => q H2 _ _ (b1.same s2) (u1.trans (But.same s2)) ⟨b, zs, rfl, hb2, mb⟩ (by rw [List.length_cons, List.length_replicate]; omega) ⟨still_z _, .one⟩⟩
  · refine ⟨_, rfl, _, rfl, (by show 2 ≤ sizeLine; decide), fun t nt => ?_⟩
    have s1 := new_same nt (HO.tup [.int 1, .int 1])
    exact ⟨B, p, n, _, 1, rfl, b1.same s1, n2, n24, .at (K := K) upd_same, Zq.num ⟨by decide, by decide⟩ (by decide), .one, fun H' u rs b' u' l e a _ => q H' u rs b' ((u1.trans (But.same s1)).trans u') l e a⟩
theorem scTrbl : FnScope ["_law_bag_here", "_law_size_here", "_law_pick"] ["_law_bag_here", "_law_size_here"] (defScope L_turnable) := ⟨rfl, rfl, rfl, by decide +kernel, rfl, by decide +kernel, by decide +kernel⟩
theorem ok_turnable (F : Fun K "_law_turnable" "_law_turnable" L_turnable f fd) (UD : Use P w K mg base CX0 1 "_law_draw" ["_law_bag_here", "_law_limit"] spDraw []) (UL : Use P w K mg base CX0 3 "_law_lead" ["_law_bag_here"] (spLd K) []) (US : Use P w K mg base CX0 6 "_law_slow" ["_law_bag_here", "_law_size_here"] (spStp K) []) (UP : Use P w K mg base CX0 5 "_law_spread" ["_law_bag_here", "_law_size_here", "_law_first"] (spSpr K) []) :
    FnOk P w K mg base CX0 7 f fd ["_law_bag_here", "_law_size_here"] (spStp K) := by
  refine F.ok scTrbl (fun vs H Q E h => ?_) (fun cdv A outer s H vs Q E hr h => ?_)
  · obtain ⟨B, p, n, rfl, _⟩ := h
    rfl
  obtain ⟨B, p, n, rfl, hb, n2, n24, q⟩ := h
  have hr1 := hr.mono (show 1 ≤ 6 by decide)
  have hr3 := hr.mono (show 3 ≤ 6 by decide)
  have hr5 := hr.mono (show 5 ≤ 6 by decide)
  refine ⟨_, pss_cons (ps_set (i := 2) scTrbl.nd rfl (Or.inl rfl) (pe_use UD hr1 rfl pass0 (pa_cons (pv 0) (pa_cons pe_int pa_nil))))
    (pss_cons (ps_if (pt_cmpR op_lt (pv 2) pe_int (nomark _)) (pss_one (ps_ret (pe_use US hr rfl pass0 (pa_cons (pv 0) (pa_cons (pv 1) pa_nil))))) pss_nil)
    (pss_one (ps_ret (pe_use UP hr5 rfl pass0 (pa_cons (pv 0) (pa_cons (pv 1) (pa_cons (pe_ifExp (pt_cmpR op_eq (pv 2) pe_int (nomark _)) (pe_tup (pa_cons (pe_un un_neg pe_int) (pa_cons pe_int pa_nil))) (pe_use UL hr3 rfl pass0 (pa_cons (pv 0) pa_nil))) pa_nil))))))), ?_⟩
  refine ⟨_, rfl, B, p, 5, rfl, by decide, by decide, hb, fun H1 k b1 u1 k0 k1 => ?_⟩
  refine ⟨_, rfl, k, 2, rfl, rfl, _, rfl, ite2 (fun _ => ?_) (fun _ => ?_)⟩
  · exact ⟨_, rfl, _, rfl, B, p, n, rfl, b1, n2, n24, fun H' u rs b' u' l e a => q H' u rs b' (u1.trans u') l e a⟩
  refine ⟨_, rfl, _, rfl, _, rfl, rfl, _, rfl, ite2 (fun _ => ?_) (fun _ => ?_)⟩
  · refine ⟨_, rfl, (by show 2 ≤ sizeLine; decide), fun t nt => ?_⟩
    have s1 := new_same nt (HO.tup [.int (-1), .int 1])
    exact ⟨B, p, n, _, (-1), rfl, b1.same s1, n2, n24, .at (K := K) upd_same, Zq.num ⟨by decide, by decide⟩ (by decide), .mone, fun H' u rs b' u' l e a _ => q H' u rs b' ((u1.trans (But.same s1)).trans u') l e a⟩
  · refine ⟨_, rfl, B, p, rfl, b1, fun H2 v r b2 u2 nv br bl => ?_⟩
    exact ⟨B, p, n, v, r, rfl, b2, n2, n24, nv, br, bl, fun H' u rs b' u' l e a _ => q H' u rs b' ((u1.trans u2).trans u') l e a⟩
/-! ### what is known of drawn steps -/
theorem Ld.zb {rs : List Rat} (h : Ld (rs.getD 0 0)) (ht : Trn rs) : ∃ d, serS rs 1 * d = 1 ∧ Zb 1 (2 ^ (30 * 1)) d := by
  have e : serS rs 1 = rs.getD 0 0 := rfl
  rcases h with h | ⟨d, z, h1, h2, h3⟩
  · exact absurd (e.trans h) ht
  · exact ⟨d, h1, z, h2, h3⟩
theorem Dr.gr {rs : List Rat} (h : Dr rs) : Gr 1 rs := gr_of h.1
theorem Dr.inv {rs : List Rat} (h : Dr rs) (ht : Trn rs) (l1 : 1 ≤ rs.length) (l7 : rs.length ≤ 7) : Gr 4 (invL rs) := by
  obtain ⟨d, hd, zd⟩ := h.2.zb ht
  exact inv_gr l1 l7 (by decide) (by decide) h.gr hd zd
end
end Kx
end
section
set_option maxHeartbeats 4000000
namespace Kx
open PySem PySem.Spec PyProof.Rows L2 RZ
abbrev nNso : List Str := ["_law_told", "_law_size_here", "_law_a"]
def spNso (K : PySem.W.Frag) (S : Addr) : Sp := fun vs H Q _ => ∃ (x : V) (qs : List Rat) (e : Nat), vs = [x, .int (qs.length : Nat)] ∧ StAt K S H x qs ∧ AllZ e qs ∧ e ≤ 130 ∧ ∀ H', Same H H' → Q (.bl true) H'
section
variable {P : Program} {w : World} {K : PySem.W.Frag} {mg : Str → Option Value} {base : Heap} {f C S CF CO : Addr} {fd : FuncData}
theorem scIs : FnScope nIs ["_law_thing"] (defScope L_is) := ⟨rfl, rfl, rfl, by decide +kernel, rfl, by decide +kernel, by decide +kernel⟩
theorem ok_is (F : Fun K "_law_is" "_law_is" L_is f fd) (mI : mg "isinstance" = none) (mt : mg "tuple" = none) (mn : mg "len" = none) (mi : mg "int" = none) (mb : mg "bool" = none) (ma : mg "all" = none)
    (UL : Use P w K mg base CX0 1 "_law_low" ["_law_p", "_law_q"] spLowQ []) : FnOk P w K mg base CX0 2 f fd ["_law_thing"] (spIs K) := by
  refine F.ok scIs (fun vs H Q E h => ?_) (fun cdv A outer s H vs Q E hr h => ?_)
  · obtain ⟨v, r, rfl, _⟩ := h
    rfl
  obtain ⟨v, r, rfl, hf, q⟩ := h
  refine ⟨_, pss_cons (ps_if (PW.pt (pw_or (pt_not (pt_val (pe_callB call_isi rfl mI (by decide +kernel) (pa_cons (pv 0) (pa_cons (pe_bltn rfl mt boot_tuple (rel_ty _)) pa_nil))))) (pw_or1 (pt_cmpR op_ne (pe_callB call_len_seq rfl mn PySem.boot_len (pa_cons (pv 0) pa_nil)) pe_int (nomark _))))) (pss_one (ps_ret pe_bl)) pss_nil)
    (pss_cons (ps_if (pt_not (pt_val (pe_callB (cr_all rfl) rfl ma (by decide +kernel) (pa_cons (pe_lc (own := [("_law_part", 1)]) (g := gName 1) (tt := tYes) rfl scIs.nd (pi_tup (pv 0)) (blkOk_by (N := nIs) (sc := defScope L_is) (by decide +kernel)) (fun _ _ _ _ _ => pg_name (i := 1) scIs.nd rfl (Or.inl rfl)) (fun _ _ _ _ _ => pts_nil)
        (fun _ _ _ _ _ => pe_and (pe_callB (isi_at K rfl) rfl mI (by decide +kernel) (pa_cons (pv 1) (pa_cons (pe_bltn rfl mi boot_int (rel_ty _)) pa_nil))) (pe_one (pe_not (pe_callB (isi_at K rfl) rfl mI (by decide +kernel) (pa_cons (pv 1) (pa_cons (pe_bltn rfl mb boot_bool (rel_ty _)) pa_nil))))))) pa_nil)))) (pss_one (ps_ret pe_bl)) pss_nil)
    (pss_one (ps_ret (pe_and (pe_cmpR op_ge (pe_ix ix_tup (pv 0) pe_int (fun _ _ => rfl)) pe_int (nomark _)) (pe_one (pe_cmpR (op_eqD hr.units) (pe_use UL hr rfl pass0 (pa_cons (pe_ix ix_tup (pv 0) pe_int (fun _ _ => rfl)) (pa_cons (pe_ix ix_tup (pv 0) pe_int (fun _ _ => rfl)) pa_nil))) (pv 0) (nomark _))))))), ?_⟩
  have tk : PySem.W.kitOne K (.type "tuple") (.type "tuple") = some true := kit_ty kb_l.2.2.2
  rcases hf with ⟨T, ty, k, rfl⟩ | ⟨a, xs, rfl, ha, ht, hl, rfl⟩ | ⟨a, x, y, b1, b2, rfl, ha, ht, hx, hy, hh⟩
  · exact ⟨_, rfl, v, _, T, _, false, rfl, .ty _, ty, k, _, rfl, iteT (q H (Same.refl H))⟩
  · refine ⟨_, rfl, _, _, _, _, true, rfl, .ty _, ht, tk, _, rfl, iteF ?_⟩
    refine ⟨_, rfl, a, xs, rfl, .inr ha, rfl, _, rfl, ?_⟩
    rw [decide_eq_false (fun e => hl (by have := V.int.inj e; omega))]
    exact iteT (q H (Same.refl H))
  refine ⟨_, rfl, _, _, _, _, true, rfl, .ty _, ht, tk, _, rfl, iteF ?_⟩
  refine ⟨_, rfl, a, _, rfl, .inr ha, rfl, _, rfl, iteF ?_⟩
  refine ⟨_, rfl, a, rfl, ⟨_, ha⟩, fun D nD => ?_⟩
  refine lc_tup (K := K) (a := a) (xs := [x, y]) (fun i H' => Same H H' ∧ H' D = some (.lst (([b1, b2].take i).map V.bl))) ⟨new_same nD _, upd_same⟩ (fun i H' _ h => sqt_same ha h.1) ?_ ?_
  · rintro i z H' hz ⟨g, hD⟩
    obtain ⟨b, hb, hw⟩ : ∃ b, [b1, b2][i]? = some b ∧ WhV K H z b := by
      match i, hz with
      | 0, hz => exact ⟨b1, rfl, by rw [← Option.some.inj hz]; exact hx⟩
      | 1, hz => exact ⟨b2, rfl, by rw [← Option.some.inj hz]; exact hy⟩
      | _ + 2, hz => cases hz
    obtain ⟨T, x1, y1, ty, k1, k2, rfl⟩ := hw H' g
    refine ⟨rfl, ?_⟩
    refine yesT ?_
    refine ⟨_, rfl, z, _, T, _, x1, rfl, .ty _, ty, k1, _, rfl, ?_⟩
    have fin : ∀ c : Bool, c = (x1 && !y1) → ∃ acc, H' D = some (.lst acc) ∧ acc.length < sizeLine ∧ Same H (upd H' D (.lst (acc ++ [V.bl c]))) ∧ (upd H' D (.lst (acc ++ [V.bl c]))) D = some (.lst (([b1, b2].take (i + 1)).map V.bl)) := by
      rintro c rfl
      refine ⟨_, hD, small1000 ?_, fun e o h => by rw [upd_ne (ne_of_none h nD)]; exact g _ _ h, ?_⟩
      · rw [List.length_map, List.length_take]
        show min _ 2 ≤ 1000
        omega
      · rw [upd_same, List.take_add_one, hb, List.map_append]
        rfl
    cases x1 with
    | false => exact iteF (fin false rfl)
    | true => exact iteT ⟨_, rfl, z, _, T, _, y1, rfl, .ty _, ty, k2, _, rfl, fin _ (by rw [Bool.true_and])⟩
  rintro H' ⟨g, hD⟩
  refine ⟨D, [b1, b2], rfl, SqL.of hD, _, rfl, ?_⟩
  rcases hh with ⟨hb, rfl⟩ | ⟨u, l, rfl, rfl, rfl, rfl, rfl, bl⟩
  · rw [show ([b1, b2].all id) = false by simpa using hb]
    exact iteT (q H' g)
  have sa := sqt_same ha g
  refine iteF ⟨_, rfl, a, _, 1, _, rfl, rfl, sa, rfl, l, 1, rfl, rfl, _, rfl, ?_⟩
  by_cases c : (1 : Int) ≤ l
  · rw [decide_eq_true c] at q ⊢
    refine iteT ⟨_, rfl, a, _, 0, _, rfl, rfl, sa, rfl, _, rfl, a, _, 1, _, rfl, rfl, sa, rfl, u, l, rfl, by omega, bl, fun t H2 s2 n2 e2 => ⟨_, rfl, ?_⟩⟩
    refine ⟨tupQ (Rat.divInt u l), .tuple [.int u, .int l], (Nq.at (K := K) e2).dp, .tup (sqt_same sa s2) (.cons (.int _) (.cons (.int _) .nil)), rfl, rfl, ?_⟩
    have e : PyData.eqv (tupQ (Rat.divInt u l)) (.tuple [.int u, .int l]) = (true && decide (Nat.gcd u.natAbs l.natAbs = 1)) := by
      rw [Bool.true_and, ← low_fix c]
      simp only [tupQ, PyData.eqv, PyData.eqvAll, Bool.and_true]
      rw [Bool.beq_eq_decide_eq, Bool.beq_eq_decide_eq]
    rw [e]
    exact q _ (g.trans s2)
  · rw [decide_eq_false c] at q ⊢
    exact iteF (q H' g)
theorem ok_stepso6 (F : Fun K "_law_step_so" "_law_step_so" L_step_so f fd) (k : StepK P w K mg base C S CF CO) (kS : PySem.W.kitOne K (.ref S) (.ref S) = some true) (mI : mg "isinstance" = none) (mn : mg "len" = none) (UN : MUse P w K mg base CX0 1 S "numbers" ["self"] (spNuS K S) []) (UL : Use P w K mg base CX0 6 "_law_like" ["_law_told", "_law_due"] (spLike K S 4) []) : FnOk P w K mg base CX0 7 f fd ["_law_told", "_law_due"] (spRsS K S) := by
  refine F.ok scRsS (fun vs H Q E h => ?_) (fun cdv A outer s H vs Q E hr h => ?_)
  · obtain ⟨x, y, qs, rfl, _⟩ := h
    rfl
  obtain ⟨u, y, qs, rfl, hR, hL, q⟩ := h
  have hr1 := hr.mono (show 1 ≤ 6 by decide)
  refine ⟨_, pss_one (ps_ret (pe_and (pe_callB call_isi rfl mI (by decide +kernel) (pa_cons (pv 0) (pa_cons (C8.pe_gc (v := .ref S) rfl ⟨_, k.m, rfl⟩) pa_nil)))
      (pe_one (pe_use UL hr rfl pass0 (pa_cons (pe_lst (pa_cons (pe_fld (pv 0) rfl) (pa_cons (pe_mu0 UN (pv 0) hr1 pass0) pa_nil)))
          (pa_cons (pe_lst (pa_cons (pe_callB call_len_seq rfl mn PySem.boot_len (pa_cons (pv 1) pa_nil)) (pa_cons (pv 1) pa_nil))) pa_nil)))))), ?_⟩
  obtain ⟨x, dx, b, xs, x0, fv, sv, rfl, hx, hb, nx, e0, l2, l24⟩ := id hR
  obtain ⟨a, ys, rfl, ha, ny⟩ := id hL
  have ly : ys.length = qs.length := ny.1
  refine ⟨_, rfl, .ref x, .ref S, .ref S, .ref S, true, rfl, .own S, k.ty _ _ _ _ hx, kS, _, rfl, iteT ?_⟩
  refine ⟨_, rfl, x, S, dx, _, _, rfl, hx, k.c, k.nA _ (by simp [stN]), rfl, _, rfl, x, dx, _, rfl, hx, rfl, _, qs, rfl, hR, fun t H1 zs s1 nt et nz => ⟨(by show 2 ≤ sizeLine; decide), fun t1 n1 => ?_⟩⟩
  have g1 := new_same n1 (.lst [.int (qs.length : Int), .ref t])
  refine ⟨_, rfl, a, ys, rfl, .inl (SqL.of (g1 _ _ (s1 _ _ ha))), _, rfl, (by show 2 ≤ sizeLine; decide), fun t2 n2 => ?_⟩
  have g2 := new_same n2 (.lst [.int (ys.length : Nat), .ref a])
  have sA := s1.trans (g1.trans g2)
  refine ⟨_, _, rfl, Lk.lst (n := 3) (g2 _ _ upd_same) upd_same (by show 2 ≤ 60; decide) ?_, fun H' s' => q _ (sA.trans s')⟩
  exact .cons (by rw [ly]; exact Lk.flat rfl) (.cons (Ls.lk (n := 1) ⟨t, zs, rfl, (g1.trans g2) _ _ et, nz.same (g1.trans g2)⟩ (hL.same sA) (by omega)) .nil)
theorem scNso : FnScope nNso ["_law_told", "_law_size_here"] (defScope L_numbers_so) := ⟨rfl, rfl, rfl, by decide +kernel, rfl, by decide +kernel, by decide +kernel⟩
theorem ok_numso (F : Fun K "_law_numbers_so" "_law_numbers_so" L_numbers_so f fd) (k : StepK P w K mg base C S CF CO) (kS : PySem.W.kitOne K (.ref S) (.ref S) = some true) (mI : mg "isinstance" = none) (mn : mg "len" = none) (ma : mg "all" = none) (UN : MUse P w K mg base CX0 1 S "numbers" ["self"] (spNuS K S) []) (UL : Use P w K mg base CX0 6 "_law_like" ["_law_told", "_law_due"] (spLike K S 4) []) (UI : Use P w K mg base CX0 2 "_law_is" ["_law_thing"] (spIs K) []) : FnOk P w K mg base CX0 7 f fd ["_law_told", "_law_size_here"] (spNso K S) := by
  refine F.ok scNso (fun vs H Q E h => ?_) (fun cdv A outer s H vs Q E hr h => ?_)
  · obtain ⟨x, qs, e, rfl, _⟩ := h
    rfl
  obtain ⟨u, qs, e, rfl, hR, ze, e1, q⟩ := h
  have hr1 := hr.mono (show 1 ≤ 6 by decide)
  have hr2 := hr.mono (show 2 ≤ 6 by decide)
  refine ⟨_, pss_cons (ps_if (PW.pt (pw_or (pt_not (pt_val (pe_callB call_isi rfl mI (by decide +kernel) (pa_cons (pv 0) (pa_cons (C8.pe_gc (v := .ref S) rfl ⟨_, k.m, rfl⟩) pa_nil))))) (pw_or1 (pt_not (pt_val (pe_use UL hr rfl pass0 (pa_cons (pe_lst (pa_cons (pe_fld (pv 0) rfl) (pa_cons (pe_callB call_len_seq rfl mn PySem.boot_len (pa_cons (pe_mu0 UN (pv 0) hr1 pass0) pa_nil)) pa_nil)))
          (pa_cons (pe_lst (pa_cons (pv 1) (pa_cons (pv 1) pa_nil))) pa_nil))))))))  (pss_one (ps_ret pe_bl)) pss_nil)
    (pss_one (ps_ret (pe_callB (cr_all rfl) rfl ma (by decide +kernel) (pa_cons (pe_lc (own := [("_law_a", 2)]) (g := gName 2) (tt := tYes) rfl scNso.nd (pi_list (pe_mu0 UN (pv 0) hr1 pass0)) (blkOk_by (N := nNso) (sc := defScope L_numbers_so) (by decide +kernel)) (fun _ _ _ _ _ => pg_name (i := 2) scNso.nd rfl (Or.inl rfl)) (fun _ _ _ _ _ => pts_nil)
        (fun _ _ _ _ _ => pe_use UI hr2 rfl pass0 (pa_cons (pv 2) pa_nil))) pa_nil)))), ?_⟩
  obtain ⟨x, dx, b, xs, x0, fv, sv, rfl, hx, hb, nx, e0, l2, l24⟩ := id hR
  refine ⟨_, rfl, .ref x, .ref S, .ref S, .ref S, true, rfl, .own S, k.ty _ _ _ _ hx, kS, _, rfl, iteF ?_⟩
  refine ⟨_, rfl, x, S, dx, _, _, rfl, hx, k.c, k.nA _ (by simp [stN]), rfl, _, rfl, x, dx, _, rfl, hx, rfl, _, qs, rfl, hR, fun t H1 zs s1 nt et nz => ?_⟩
  refine ⟨t, zs, rfl, .inl (SqL.of et), (by show 2 ≤ sizeLine; decide), fun t1 n1 => ?_⟩
  have lz : zs.length = qs.length := nz.1
  have g1 := new_same n1 (.lst [.int (qs.length : Int), .int (zs.length : Nat)])
  refine ⟨_, rfl, _, rfl, (by show 2 ≤ sizeLine; decide), fun t2 n2 => ?_⟩
  have g2 := new_same n2 (.lst [.int (qs.length : Nat), .int (qs.length : Nat)])
  have sA := s1.trans (g1.trans g2)
  refine ⟨_, _, rfl, Lk.lst (n := 3) (g2 _ _ upd_same) upd_same (by show 2 ≤ 60; decide) (.cons (Lk.flat rfl) (.cons (by rw [lz]; exact Lk.flat rfl) .nil)), fun H' s' => ⟨_, rfl, iteF ?_⟩⟩
  have sB := sA.trans s'
  refine ⟨_, rfl, x, dx, _, rfl, sB _ _ hx, rfl, _, qs, rfl, hR.same sB, fun t3 H3 zs3 s3 nt3 et3 nz3 => ?_⟩
  have lz3 : zs3.length = qs.length := nz3.1
  refine ⟨t3, rfl, ⟨_, SqL.of et3⟩, fun D nD => ?_⟩
  refine lc_acc (walk_list (K := K) (a := t3) (xs := zs3)) (fun i _ y => y = .bl true) (fun i H H' y l h _ _ => h) nD (by omega) (fun H2 s => SqL.of (s _ _ et3)) ?_ ?_
  · rintro i y H4 H5 k' hi s4 ⟨rfl, hy⟩ hk
    obtain ⟨q', hq'⟩ : ∃ q', qs[i]? = some q' := ⟨_, List.getElem?_eq_getElem (by omega)⟩
    have nq := (nz3.2 i y q' hy hq').same s4
    exact ⟨rfl, _, rfl, y, true, rfl, nq.isB (((ze q' (List.mem_of_getElem? hq')).b4 e1).mono (by decide)), fun H6 s6 => hk _ _ s6 rfl⟩
  · intro H4 ys s4 hD hl hR'
    have ez : ys = (List.replicate zs3.length true).map V.bl := by
      apply List.ext_getElem?
      intro i
      rw [List.getElem?_map, List.getElem?_replicate]
      by_cases c : i < zs3.length
      · rw [if_pos c]
        have e := List.getElem?_eq_getElem (l := ys) (i := i) (by omega)
        rw [e, hR' i _ e]
        rfl
      · rw [if_neg c, List.getElem?_eq_none (by omega)]
        rfl
    refine ⟨D, List.replicate zs3.length true, rfl, SqL.of (by rw [hD, ez]), ?_⟩
    have : (List.replicate zs3.length true).all id = true := List.all_eq_true.mpr fun b hb => List.eq_of_mem_replicate hb
    rw [this]
    exact q _ (sB.trans (s3.trans s4))
end
/-- the two errors' classes -/
structure Errs2 (P : Program) (w : World) (K : PySem.W.Frag) (mg : Str → Option Value) (base : Heap) (cs : Fin 2 → Addr) : Prop where
  e0 : ErrC P w K mg base "UnlikeOrders" 2 (fs2 "UnlikeOrders" "one" "other") (cs 0)
  e1 : ErrC P w K mg base "CantTurn" 0 (fs0 "CantTurn") (cs 1)
  co : ∀ i, PySem.W.findIn K (.ref (cs i)) "code" = some none
  f00 : PySem.W.findIn K (.ref (cs 0)) "one" = some none
  f01 : PySem.W.findIn K (.ref (cs 0)) "other" = some none
  kt : ∀ i j : Fin 2, PySem.W.kitOne K (.ref (cs i)) (.ref (cs j)) = some (decide (i = j))
/-- which of the errors is caught, and what fault makes of it -/
def Flt2 (H : Hp) (cs : Fin 2 → Addr) (cls : Value) (d : Option Addr) (Q : VK) : Prop :=
  (cls = .ref (cs 0) ∧ ∃ (dd : Addr) (v u : V), d = some dd ∧ H dd = some (.xd (fs2 "UnlikeOrders" "one" "other" [v, u])) ∧ ∀ t H', Same H H' → H t = none → H' t = some (.lst [.str "UnlikeOrders", v, u]) → Q (.ref t) H') ∨
  (cls = .ref (cs 1) ∧ ∃ (dd : Addr), d = some dd ∧ H dd = some (.xd (fs0 "CantTurn" [])) ∧ ∀ t H', Same H H' → H t = none → H' t = some (.lst [.str "CantTurn"]) → Q (.ref t) H')
def spFlt2 (cs : Fin 2 → Addr) : Addr → Value → Option Addr → Sp := fun a cls d vs H Q _ => vs = [.ref a] ∧ Flt2 H cs cls d Q
section
variable {P : Program} {w : World} {K : PySem.W.Frag} {mg : Str → Option Value} {base : Heap} {f : Addr} {cs : Fin 2 → Addr} {fd : FuncData}
theorem scFlt2 : FnScope ["_law_error"] ["_law_error"] (defScope L_fault) := ⟨rfl, rfl, rfl, by decide +kernel, rfl, by decide +kernel, by decide +kernel⟩
theorem ok_fault2 (F : Fun K "_law_fault" "_law_fault" L_fault f fd) (mI : mg "isinstance" = none) (Z : Errs2 P w K mg base cs) : FnP P w K mg base C8.CX0 1 f fd ["_law_error"] (spFlt2 cs) := by
  refine fn_ofP F scFlt2 (fun a cls d vs H Q E h => ?_) (fun cdv A outer s H vs Q E a oe cls d hz hf hr h => ?_)
  · obtain ⟨rfl, _⟩ := h
    rfl
  obtain ⟨rfl, h⟩ := h
  have hp : (a, oe) ∈ (L2H.cxH C8.CX0 P w K mg base ["_law_error"] "_law_fault" (defScope L_fault) f cdv A outer s H E (a, oe)).pn := List.mem_cons_self
  have hrC : ∀ i u, RelV (.ref (cs i)) u → u = .ref (cs i) := fun i u e => e
  rcases h with ⟨rfl, dd, v, u, rfl, hd, q⟩ | ⟨rfl, dd, rfl, hd, q⟩
  · refine ⟨_, pss_cons (ps_if (pt_val (pe_callB (call_isP (dd := dd) hp Z.e0.T hz hf) rfl mI (by decide +kernel) (pa_cons (pv 0) (pa_cons (C8.pe_gc (v := .ref (cs 0)) rfl ⟨_, Z.e0.m, rfl⟩) pa_nil)))) (pss_one (ps_ret (pe_lst (pa_cons (pe_xfP hp Z.e0.T (Z.co 0) hz hf (pv 0)) (pa_cons (pe_xfP hp Z.e0.T Z.f00 hz hf (pv 0)) (pa_cons (pe_xfP hp Z.e0.T Z.f01 hz hf (pv 0)) pa_nil)))))) pss_nil) (pss_cons ps_never (pss_one ps_never)), ?_⟩
    refine ⟨_, rfl, .ref (cs 0), .ref (cs 0), true, _, rfl, hd, hrC 0, Z.kt 0 0, _, rfl, iteT ?_⟩
    refine ⟨_, rfl, rfl, rfl, dd, _, _, rfl, hd, rfl, _, rfl, rfl, rfl, dd, _, _, rfl, hd, rfl, _, rfl, rfl, rfl, dd, _, _, rfl, hd, rfl, (by show 3 ≤ sizeLine; decide), fun t nt => q t _ (new_same nt _) nt upd_same⟩
  · refine ⟨_, pss_cons (ps_if (pt_val (pe_callB (call_isP (dd := dd) hp Z.e1.T hz hf) rfl mI (by decide +kernel) (pa_cons (pv 0) (pa_cons (C8.pe_gc (v := .ref (cs 0)) rfl ⟨_, Z.e0.m, rfl⟩) pa_nil)))) (pss_one ps_never) pss_nil) (pss_cons (ps_if (pt_val (pe_callB (call_isP (dd := dd) hp Z.e1.T hz hf) rfl mI (by decide +kernel) (pa_cons (pv 0) (pa_cons (C8.pe_gc (v := .ref (cs 1)) rfl ⟨_, Z.e1.m, rfl⟩) pa_nil)))) (pss_one (ps_ret (pe_lst (pa_cons (pe_xfP hp Z.e1.T (Z.co 1) hz hf (pv 0)) pa_nil)))) pss_nil) (pss_one ps_never)), ?_⟩
    refine ⟨_, rfl, .ref (cs 0), .ref (cs 0), false, _, rfl, hd, hrC 0, Z.kt 1 0, _, rfl, iteF ?_⟩
    refine ⟨_, rfl, .ref (cs 1), .ref (cs 1), true, _, rfl, hd, hrC 1, Z.kt 1 1, _, rfl, iteT ?_⟩
    refine ⟨_, rfl, rfl, rfl, dd, _, _, rfl, hd, rfl, (by show 1 ≤ sizeLine; decide), fun t nt => q t _ (new_same nt _) nt upd_same⟩
end
/-- what ask makes of the lambda's reading -/
def TAsk2 (cs : Fin 2 → Addr) : (XK → Hp → VK → Prop) → Hp → VK → Prop := fun tl H Q =>
  tl (fun cls d H' => Flt2 H' cs cls d Q) H (fun v H1 => 2 ≤ sizeLine ∧ ∀ t, H1 t = none → Q (.ref t) (upd H1 t (.lst [.str "told", v])))
def askT2 (cs : Fin 2 → Addr) : Addr → Value → Option Addr → TS := fun a cls d => tRet (tCallP a cls d (spFlt2 cs) (tCons (tVar 1) tNil))
def askL2 (CE : Addr) (cs : Fin 2 → Addr) : List Hd3 := [(.ref CE, 1, askT2 cs)]
section
variable {X : Cx} {q : Str} {g fF CE : Addr} {cs : Fin 2 → Addr} {cdg : Value} {fdF : FuncData}
theorem ask_gives2 (hr : Room 2 X.A) (F : FnP X.prog X.w X.K X.mg X.base C8.CX0 1 fF fdF ["_law_error"] (spFlt2 cs)) (bF : Binds X.K fdF ["_law_error"] []) (kF : PySem.W.keepIn X.K (.ref fF) = true) (mF : X.mg "_law_fault" = some (.ref fF))
    (mC : X.mg "CreepError" = some (.ref CE)) (e1 : ∀ i, PySem.W.exmOne X.K (.ref (cs i)) (.ref CE) = some true) :
    LamX.GivesTo X nAsk "_law_ask" (defScope L_ask) g cdg (defBody L_ask) "_law_deed" q (TAsk2 cs) := by
  intro f c' s H Q tl act hc h
  let XX := (cxOf C8.CX0 X.prog X.w X.K X.mg X.base nAsk "_law_ask" (defScope L_ask) g cdg X.A X.stack s H C8.E0).nox
  refine ⟨_, pss_one (ps_try_manyAs (X := XX) (l := askL2 CE cs) (tb := fun W D σ H => ∃ Ech : XK, (∀ cls d σ' H', Ech cls d H' → σ'.length = 2 → W cls d σ' H') ∧ σ[0]? = some (some (.ref f)) ∧ H c' = some (LamX.CodeO c' q) ∧
      tl Ech H (fun v H1 => 2 ≤ sizeLine ∧ ∀ t, H1 t = none → D.rt (.ref t) (upd H1 t (.lst [.str "told", v]))))
      rfl rfl scAsk.nd LamX.takes0 (fun W pn xe tk _ => ?_) ?_), ?_⟩
  · refine ⟨fun pins s' σ H' D I h' => ?_⟩
    obtain ⟨Ech, hW, h1, h2, h3⟩ := h'
    have hp := act (fun cls d σ H => σ.length = 2 → W cls d σ H) pn xe Ech
    have hq : ∀ (j : Nat) (p1 p2 p3 p4 p5 : Pos), PSs (XX.tr pn xe) [.Return (some (.List [.Constant (.str "told") j p3, .Call (.Name "_law_deed" p1) [] [] p2] p4)) p5] (tRet (tLst (tCons (tC (.str "told")) (tCons (fun σZ HZ Q => σZ[0]? = some (some (V.ref f)) ∧ HZ c' = some (LamX.CodeO c' q) ∧ tl Ech HZ Q) tNil)))) :=
      fun j p1 p2 p3 p4 p5 => pss_one (ps_ret (pe_lst (pa_cons pe_str (pa_cons (hp p1 p2 (takes_len tk) hW) pa_nil))))
    exact (hq _ _ _ _ _ _).run pins s' σ H' D I ⟨h1, h2, h3⟩
  · have cl : ∀ (a : Addr) (oe : Obj) (cls : Value) (d : Option Addr) (pn : List (Addr × Obj)) (p1 p2 p3 p4 : Pos), Zc cls d oe → (∃ vs, oe.data = .fields vs) → PSs (XX.suite a ((a, oe) :: pn)) [.Return (some (.Call (.Name "_law_fault" p1) [.Name "_law_error" p2] [] p3)) p4] (askT2 cs a cls d) :=
      fun a oe cls d pn p1 p2 p3 p4 hz hf => pss_one (ps_ret (pe_callP List.mem_cons_self hz hf F (L2H.roomH_mark (hr.deeper _) _) rfl mF kF bF (pa_cons (pv 1) pa_nil)))
    exact .cons rfl rfl ⟨rfl, by decide, .inl mC⟩ (fun a oe cls d pn hz hf => cl a oe cls d pn _ _ _ _ hz hf) .nil
  · refine ⟨fun cls d H' => Flt2 H' cs cls d Q, fun cls d σ' H' hf hl => ?_, rfl, hc, ?_⟩
    · have g1 : ∀ a : Addr, (σ'.set 1 (some (V.ref a)))[1]? = some (some (V.ref a)) := fun a => List.getElem?_set_self (by omega)
      rcases hf with ⟨rfl, r⟩ | ⟨rfl, r⟩
      · exact ⟨true, e1 0, fun _ a na => ⟨_, g1 a, rfl, .inl ⟨rfl, r⟩⟩, fun z => Bool.noConfusion z⟩
      · exact ⟨true, e1 1, fun _ a na => ⟨_, g1 a, rfl, .inr ⟨rfl, r⟩⟩, fun z => Bool.noConfusion z⟩
    · exact h
end
end Kx
end
section
set_option maxHeartbeats 4000000
namespace Kx
open PySem PySem.Spec PyProof.Rows L2 RZ
/-! ### what all later defs stand on -/
structure Kit6 (P : Program) (w : World) (K : PySem.W.Frag) (mg : Str → Option Value) (base : Heap) (C S CF CO CL CE : Addr) (cs : Fin 2 → Addr) : Prop where
  sk : StepK P w K mg base C S CF CO
  snum : MUse P w K mg base CX0 1 S "numbers" ["self"] (spNuS K S) []
  scut : MUse P w K mg base (L2.CX P w) 8 S "cut" ["self", "order"] (spCuS K S CO CL) [["order"]]
  spow : MUse P w K mg base (L2.CX P w) 8 S "power" ["self", "t"] (spPwS K S (cs 1)) []
  sren : MUse P w K mg base (L2.CX P w) 9 S "renamed" ["self", "step"] (spRen K S (cs 0) (cs 1)) [["step"]]
  smul : OpM P w K mg base (L2.CX P w) 8 S "__mul__" (spOpSG K S (cs 0))
  sinv : OpM P w K mg base (L2.CX P w) 8 S "__invert__" (spInv K S (cs 1))
  trd : Use P w K mg base (L2.CX P w) 9 "trade" ["one", "other"] (spTrd K S (cs 0)) [["other", "one"]]
  exc : Use P w K mg base (L2.CX P w) 9 "exchange" ["one", "other"] (spExc K S (cs 0) (cs 1)) [["other", "one"]]
  draw : Use P w K mg base CX0 1 "_law_draw" ["_law_bag_here", "_law_limit"] spDraw []
  ofL : Use P w K mg base CX0 2 "_law_of" ["_law_bag_here", "_law_things"] spOfL []
  behd : Use P w K mg base CX0 5 "_law_behind" ["_law_a", "_law_b"] (spLBeh K) []
  still : Use P w K mg base CX0 1 "_law_still" ["_law_size_here"] (spLst K) []
  step : Use P w K mg base CX0 6 "_law_step" ["_law_bag_here", "_law_size_here"] (spStp K) []
  trn : Use P w K mg base CX0 7 "_law_turnable" ["_law_bag_here", "_law_size_here"] (spStp K) []
  lik : Use P w K mg base CX0 6 "_law_like" ["_law_told", "_law_due"] (spLike K S 4) []
  sso : Use P w K mg base CX0 7 "_law_step_so" ["_law_told", "_law_due"] (spRsS K S) []
  nso : Use P w K mg base CX0 7 "_law_numbers_so" ["_law_told", "_law_size_here"] (spNso K S) []
  flt : ∃ (fF : Addr) (fdF : FuncData), FnP P w K mg base C8.CX0 1 fF fdF ["_law_error"] (spFlt2 cs) ∧ Binds K fdF ["_law_error"] [] ∧ PySem.W.keepIn K (.ref fF) = true ∧ mg "_law_fault" = some (.ref fF)
  ask : ∃ (g : Addr) (fd : FuncData), Fun K "_law_ask" "_law_ask" L_ask g fd ∧ Binds K fd ["_law_deed"] [] ∧ mg "_law_ask" = some (.ref g)
  mC : mg "CreepError" = some (.ref CE)
  e1 : ∀ i, PySem.W.exmOne K (.ref (cs i)) (.ref CE) = some true
  mn : mg "len" = none
  mI : mg "isinstance" = none
  ml : mg "list" = none
  mr : mg "range" = none
theorem Ls.dp {K : PySem.W.Frag} {H : Hp} {v : V} {qs : List Rat} (h : Ls K H v qs) : Dp K H v (datL qs) := by
  obtain ⟨a, xs, rfl, ha, nx⟩ := h
  exact nx.dp ha
section
variable {H : Hp} {cs : Fin 2 → Addr} {Q : VK}
theorem air_ct (q : ∀ t H', Same H H' → H' t = some (.lst [.str "CantTurn"]) → Q (.ref t) H') : Air H (cs 1) (fs0 "CantTurn" []) (fun cls d H' => Flt2 H' cs cls d Q) := fun d H' s n e => .inr ⟨rfl, d, rfl, e, fun t H2 s2 n2 e3 => q t H2 (s.trans s2) e3⟩
theorem air_ul {n m : Int} (q : ∀ t H', Same H H' → H' t = some (.lst [.str "UnlikeOrders", .int n, .int m]) → Q (.ref t) H') : Air H (cs 0) (fs2 "UnlikeOrders" "one" "other" [.int n, .int m]) (fun cls d H' => Flt2 H' cs cls d Q) := fun d H' s n e => .inl ⟨rfl, d, _, _, rfl, e, fun t H2 s2 n2 e3 => q t H2 (s.trans s2) e3⟩
end
section
variable {K : PySem.W.Frag} {S : Addr} {H : Hp} {Q : VK} {v : V} {qs : List Rat}
theorem told_new (h : StAt K S H v qs) (q : ∀ t H', Same H H' → H' t = some (.lst [.str "told", v]) → StAt K S H' v qs → Q (.ref t) H') : 2 ≤ sizeLine ∧ ∀ t, H t = none → Q (.ref t) (upd H t (.lst [.str "told", v])) :=
  ⟨(by show 2 ≤ sizeLine; decide), fun t nt => q t _ (new_same nt _) upd_same (h.same (new_same nt _))⟩
theorem StAt.ref (h : StAt K S H v qs) : ∃ x, v = .ref x := by
  obtain ⟨x, _, _, _, _, _, _, e, _⟩ := h
  exact ⟨x, e⟩
theorem Nq.num0 {x : V} {q : Rat} (h : Nq K H x q) : ∃ a, x = .ref a ∧ SqT K H a [.int q.num, .int ((q.den : Nat) : Int)] := by
  obtain ⟨a, e, s, _⟩ := h.sq
  exact ⟨a, e, s⟩
end
theorem trn_num {qs : List Rat} : Trn qs ↔ (qs.getD 0 0).num ≠ 0 := by
  show qs.getD 0 0 ≠ 0 ↔ _
  exact ⟨fun h z => h (Rat.num_eq_zero.mp z), fun h z => h (by rw [z]; rfl)⟩
/-- the test of the first number -/
theorem first_num {K : PySem.W.Frag} {H : Hp} {xs : List V} {qs : List Rat} (nx : Nl K H xs qs) (l : 1 ≤ qs.length) : ∃ a, atI xs 0 = some (.ref a) ∧ SqT K H a [.int (qs.getD 0 0).num, .int (((qs.getD 0 0).den : Nat) : Int)] := by
  obtain ⟨y, ey, ny⟩ := nx.get' (i := 0) (by omega)
  rw [← getD_at (qs := qs) (j := 0) (by omega)] at ny
  obtain ⟨a, rfl, sa⟩ := ny.num0
  exact ⟨a, at_of (j := 0) rfl ey, sa⟩
end Kx
end
section
set_option maxHeartbeats 4000000
namespace Kx
open PySem PySem.Spec PyProof.Rows L2 RZ
abbrev nTur : List Str := ["_law_bag_here", "_law_a", "_law_f", "_law_told", "_law_due", "_law_back", "_law_still_here", "_law_size_here", "_law_k", "_law_done", "_law_j", "_law_some"]
def spTur (K : PySem.W.Frag) (T : List (Addr × Str)) : Sp := fun vs H Q _ => ∃ (B p : Addr) (x : V) (qs : List Rat), vs = [.ref B, x] ∧ Bag H B p ∧ Ls K H x qs ∧ 2 ≤ qs.length ∧ qs.length ≤ 7 ∧ Dr qs ∧ LamX.Tabs T H ∧
  ∀ H', Bag H' B p → Go B H H' → LamX.Tabs T H' → Q (.bl true) H'
section
variable {P : Program} {w : World} {K : PySem.W.Frag} {mg : Str → Option Value} {base : Heap} {f c Pt C S CF CO CL CE : Addr} {cs : Fin 2 → Addr} {fd : FuncData} {T : List (Addr × Str)}
theorem scTur : FnScope nTur ["_law_bag_here", "_law_a"] (defScope L_turned_so) := ⟨rfl, rfl, rfl, by decide +kernel, rfl, by decide +kernel, by decide +kernel⟩
theorem rd_pwX {H : Hp} {vx : V} {qs : List Rat} {k : Nat} {E : XK} {R : VK} (hX : StAt K S H vx qs) (ht : ¬ Trn qs) (k1 : 1 ≤ k) (k8 : k < 8) (h : Air H (cs 1) (fs0 "CantTurn" []) E) : spPwS K S (cs 1) [vx, .int (-((k : Nat) : Int))] H R E :=
  ⟨vx, qs, _, rfl, hX, .inl ⟨k, rfl, k1, k8, fun _ => h, fun t => absurd t ht⟩⟩
theorem rd_pwN {H : Hp} {vx : V} {qs : List Rat} {k a b : Nat} {E : XK} {R : VK} (hX : StAt K S H vx qs) (ht : Trn qs) (k1 : 1 ≤ k) (k8 : k < 8) (a1 : 1 ≤ a) (b1 : 1 ≤ b) (ga : Gr a qs) (gb : Gr b (invL qs)) (w1 : (a + b) * qs.length ≤ 130) (w2 : b * k * qs.length ≤ 200) (q : ∀ H' y, Same H H' → StAt K S H' y (itL (invL qs) k) → R y H') : spPwS K S (cs 1) [vx, .int (-((k : Nat) : Int))] H R E :=
  ⟨vx, qs, _, rfl, hX, .inl ⟨k, rfl, k1, k8, fun t => absurd ht t, fun _ => ⟨a, b, a1, b1, ga, gb, w1, w2, q⟩⟩⟩
theorem rd_pwP {H : Hp} {vx : V} {qs : List Rat} {k a : Nat} {E : XK} {R : VK} (hX : StAt K S H vx qs) (k1 : 1 ≤ k) (k8 : k < 8) (a1 : 1 ≤ a) (ga : Gr a qs) (w2 : a * k * qs.length ≤ 200) (q : ∀ H' y, Same H H' → StAt K S H' y (itL qs k) → R y H') : spPwS K S (cs 1) [vx, .int ((k : Nat) : Int)] H R E :=
  ⟨vx, qs, _, rfl, hX, .inr ⟨k, rfl, k1, k8, a, a1, ga, w2, q⟩⟩
theorem ok_turnedso (F : FunC K "_law_turned_so" "_law_turned_so" L_turned_so f fd c) (U : Kit6 P w K mg base C S CF CO CL CE cs)
    (TB : LamX.TabB base mg c Pt) (hmT : (Pt, ((("_law_turned_so" : Str) ++ ".<locals>.") ++ "<lambda>" : Str)) ∈ T) (hu : ∀ p ∈ T, p.1 = Pt → p.2 = ((("_law_turned_so" : Str) ++ ".<locals>.") ++ "<lambda>" : Str)) : FnOk P w K mg base CX0 11 f fd ["_law_bag_here", "_law_a"] (spTur K T) := by
  refine F.ok scTur (fun vs H Q E h => ?_) (fun A outer s H vs Q E hr h => ?_)
  · obtain ⟨B, p, x, qs, rfl, _⟩ := h
    rfl
  obtain ⟨B, p, x0, qs, rfl, hb, hA, l2, l7, hd, hT, q⟩ := h
  have hr1 := hr.mono (show 1 ≤ 10 by decide)
  have hr2 := hr.mono (show 2 ≤ 10 by decide)
  have hr5 := hr.mono (show 5 ≤ 10 by decide)
  have hr6 := hr.mono (show 6 ≤ 10 by decide)
  have hr7 := hr.mono (show 7 ≤ 10 by decide)
  have hr8 := hr.mono (show 8 ≤ 10 by decide)
  obtain ⟨gA, fdA, FA, bA, mA⟩ := U.ask
  obtain ⟨oc, od, kV, doc, pm, an, cdv, ct, osl, rfl, lkA, hcdA⟩ := FA.ex
  obtain ⟨fF, fdF, PF, bF, kF, mF⟩ := U.flt
  obtain ⟨fI, fdI, MI, FI, bI⟩ := U.sk.ini
  refine ⟨_, C8.pss_cut (ps_set (i := 2) scTur.nd rfl (Or.inr rfl) (pe_make (E := fun _ _ _ => False) MI FI hr7 rfl U.sk.m bI .nil passF (pa_cons (pv 1) pa_nil)))
    (C8.pss_cut (ps_set (i := 3) scTur.nd rfl (Or.inl rfl) (LamX.pe_lamcall (k := 8) (t := fun E => tUn (rUnO S (spInv K S (cs 1)) E) (tVar 2)) (TT := TAsk2 cs) rfl mA FA.kp lkA hcdA bA scAsk rfl (Or.inl rfl) (ask_gives2 (hr.mono (by decide)) PF bF kF mF U.mC U.e1) TB rfl hmT hu hr (LamX.lamS_by (show LamX.lamSB (defScope L_turned_so) _ = true by decide +kernel)) rfl (fun _ _ _ _ _ => rfl)
      (fun A outer s H E f c' hk => pe_un (un_inv (E := E) U.sinv hk (passes_call (takes_of rfl rfl rfl rfl) (fun _ _ _ _ h => h))) (pv 2))))
    (C8.pss_cut (ps_if (pt_cmpR op_eq (pe_ix ix_tup (pe_ix ix_list (pv 1) pe_int (fun _ _ => rfl)) pe_int (fun _ _ => rfl)) pe_int (nomark _)) (pss_cons (ps_set (i := 4) scTur.nd rfl (Or.inl rfl) (pe_lst (pa_cons pe_str pa_nil))) (pss_one (ps_ret (pe_use U.lik hr6 rfl pass0 (pa_cons (pe_lst (pa_cons (pv 3) (pa_cons (LamX.pe_lamcall (k := 8) (t := fun E => tMeth S "power" (spPwS K S (cs 1)) [] E (tVar 2) (tCons (tUn (rU fun i => .int (-i)) (tC (.int 1))) tNil)) (TT := TAsk2 cs) rfl mA FA.kp lkA hcdA bA scAsk rfl (Or.inl rfl) (ask_gives2 (hr.mono (by decide)) PF bF kF mF U.mC U.e1) TB rfl hmT hu hr (LamX.lamS_by (show LamX.lamSB (defScope L_turned_so) _ = true by decide +kernel)) rfl (fun _ _ _ _ _ => rfl)
      (fun A outer s H E f c' hk => pe_mu U.spow (pv 2) hk (passes_call (takes_of rfl rfl rfl rfl) (fun _ _ _ _ h => h)) (pa_cons (pe_un un_neg pe_int) pa_nil))) (pa_cons (LamX.pe_lamcallD (k := 8) (kd := 0) (px := "_law_x") (t := fun E => tMeth S "power" (spPwS K S (cs 1)) [] E (tVar 2) (tCons (tUn (rU fun i => .int (-i)) (tC (.int 3))) tNil)) (TT := TAsk2 cs) rfl mA FA.kp lkA hcdA bA scAsk rfl (Or.inl rfl) (ask_gives2 (hr.mono (by decide)) PF bF kF mF U.mC U.e1) TB rfl hmT hu hr (LamX.lamD_by (show LamX.lamDB nTur (defScope L_turned_so) _ "_law_x" = true by decide +kernel)) rfl (fun _ _ _ _ _ _ _ => ⟨_, rfl, rfl⟩)
      (fun A outer s H E f c' hk => pe_mu U.spow (pv 2) hk (passes_call (takes_of rfl rfl rfl rfl) (fun _ _ _ _ h => h)) (pa_cons (pe_un un_neg pe_int) pa_nil))) pa_nil)))) (pa_cons (pe_lst (pa_cons (pv 4) (pa_cons (pv 4) (pa_cons (pv 4) pa_nil)))) pa_nil)))))) pss_nil)
    (C8.pss_cut (ps_if (PW.pt (pw_or (pt_cmpR op_ne (pe_ix ix_list (pv 3) pe_int (fun _ _ => rfl)) pe_str (nomark _)) (pw_or1 (pt_not (pt_val (pe_use U.nso hr7 rfl pass0 (pa_cons (pe_ix ix_list (pv 3) pe_int (fun _ _ => rfl)) (pa_cons (pe_callB call_len_seq rfl U.mn PySem.boot_len (pa_cons (pv 1) pa_nil)) pa_nil)))))))) (pss_one (ps_ret pe_bl)) pss_nil)
    (C8.pss_cut (ps_par (i := 5) (j := 6) rfl scTur.nd rfl rfl (by decide) rfl rfl (pa_cons (pe_mu0 U.snum (pe_ix ix_list (pv 3) pe_int (fun _ _ => rfl)) hr1 pass0) (pa_cons (pe_use U.still hr1 rfl pass0 (pa_cons (pe_callB call_len_seq rfl U.mn PySem.boot_len (pa_cons (pv 1) pa_nil)) pa_nil)) pa_nil)) rfl)
    (C8.pss_cut (ps_if (PW.pt (pw_or (pt_cmpR (op_neD hr.units) (pe_use U.behd hr5 rfl pass0 (pa_cons (pv 1) (pa_cons (pv 5) pa_nil))) (pv 6) (nomark _)) (pw_or1 (pt_cmpR (op_neD hr.units) (pe_use U.behd hr5 rfl pass0 (pa_cons (pv 5) (pa_cons (pv 1) pa_nil))) (pv 6) (nomark _))))) (pss_one (ps_ret pe_bl)) pss_nil)
    (C8.pss_cut (ps_if (PW.pt (pw_or (pt_not (pt_val (pe_use U.sso hr7 rfl pass0 (pa_cons (pe_un (un_inv (E := fun _ _ _ => False) U.sinv hr8 passF) (pe_ix ix_list (pv 3) pe_int (fun _ _ => rfl))) (pa_cons (pv 1) pa_nil))))) (pw_or1 (pt_not (pt_val (pe_use U.sso hr7 rfl pass0 (pa_cons (pe_mu (E := fun _ _ _ => False) U.spow (pv 2) hr8 passF (pa_cons (pe_un un_neg pe_int) pa_nil)) (pa_cons (pv 5) pa_nil)))))))) (pss_one (ps_ret pe_bl)) pss_nil)
    (C8.pss_cut (ps_set (i := 7) scTur.nd rfl (Or.inl rfl) (pe_op op_add pe_int (pe_use U.draw hr1 rfl pass0 (pa_cons (pv 0) (pa_cons (pe_op op_sub (pe_callB call_len_seq rfl U.mn PySem.boot_len (pa_cons (pv 1) pa_nil)) pe_int) pa_nil)))))
    (C8.pss_cut (ps_if (pt_not (pt_val (pe_use U.sso hr7 rfl pass0 (pa_cons (pe_un (un_inv (E := fun _ _ _ => False) U.sinv hr8 passF) (pe_mu (E := fun _ _ _ => False) U.scut (pv 2) hr8 passF (pa_cons (pv 7) pa_nil))) (pa_cons (pe_slice sl_list (pv 5) po_none (po_some (pv 7))) pa_nil))))) (pss_one (ps_ret pe_bl)) pss_nil)
    (C8.pss_cut (ps_set (i := 8) scTur.nd rfl (Or.inl rfl) (pe_use U.ofL hr2 rfl pass0 (pa_cons (pv 0) (pa_cons (pe_ifExp (pt_cmpR op_lt (pe_callB call_len_seq rfl U.mn PySem.boot_len (pa_cons (pv 1) pa_nil)) pe_int (nomark _)) (pe_lst (pa_cons pe_int (pa_cons pe_int (pa_cons pe_int (pa_cons pe_int pa_nil))))) (pe_lst (pa_cons pe_int (pa_cons pe_int (pa_cons pe_int pa_nil))))) pa_nil))))
    (C8.pss_cut (ps_set (i := 9) scTur.nd rfl (Or.inl rfl) (pv 1))
    (C8.pss_cut (ps_for PassesOwn.never rfl (pi_range1 rfl U.mr (pa_cons (pe_op op_sub (pv 8) pe_int) pa_nil)) (pg_name (i := 10) scTur.nd rfl (Or.inl rfl)) (pss_one (ps_set (i := 9) scTur.nd rfl (Or.inl rfl) (pe_use U.behd hr5 rfl pass0 (pa_cons (pv 9) (pa_cons (pv 1) pa_nil))))))
    (C8.pss_cut (ps_set (i := 11) scTur.nd rfl (Or.inl rfl) (pe_mu (E := fun _ _ _ => False) U.spow (pv 2) hr8 passF (pa_cons (pe_un un_neg (pv 8)) pa_nil)))
    (C8.pss_cut (ps_if (PW.pt (pw_or (pt_not (pt_val (pe_use U.nso hr7 rfl pass0 (pa_cons (pv 11) (pa_cons (pe_callB call_len_seq rfl U.mn PySem.boot_len (pa_cons (pv 1) pa_nil)) pa_nil))))) (pw_or1 (pt_not (pt_val (pe_use U.sso hr7 rfl pass0 (pa_cons (pe_mu (E := fun _ _ _ => False) U.spow (pe_un (un_inv (E := fun _ _ _ => False) U.sinv hr8 passF) (pv 2)) hr8 passF (pa_cons (pv 8) pa_nil)) (pa_cons (pe_mu0 U.snum (pv 11) hr1 pass0) pa_nil)))))))) (pss_one (ps_ret pe_bl)) pss_nil)
    (pss_one (ps_ret (pe_and (pe_cmpR (op_eqD hr.units) (pe_use U.behd hr5 rfl pass0 (pa_cons (pv 9) (pa_cons (pe_mu0 U.snum (pv 11) hr1 pass0) pa_nil))) (pv 6) (nomark _)) (pe_one (pe_use U.lik hr6 rfl pass0 (pa_cons (pe_mu0 U.snum (pv 2) hr1 pass0) (pa_cons (pv 1) pa_nil)))))))))))))))))))), ?_⟩
  obtain ⟨a, xs, rfl, ha, nx⟩ := id hA
  have lx : xs.length = qs.length := nx.1
  have l1 : 1 ≤ qs.length := by omega
  refine ⟨fun σ G => ∃ x, σ = [some (.ref B), some (.ref a), some (.ref x), none, none, none, none, none, none, none, none, none] ∧ Same H G ∧ StAt K S G (.ref x) qs, ?_, ?_⟩
  · refine ⟨_, rfl, fun x dx xn dn en => ?_⟩
    exact step_newG (.inl ha) nx l2 (by omega) xn dn en fun G s1 hX => ⟨rfl, x, rfl, s1, hX⟩
  rintro σ HF ⟨x, rfl, sF, hX⟩
  have bF := hb.same sF
  have tF := hT.ext sF
  have hA := hA.same sF
  have aF := sF _ _ ha
  have nF := nx.same sF
  have q' : ∀ H', Jg T B p HF H' → Q (.bl true) H' := fun H' j => q H' j.b ((Go.same sF).trans j.g) j.t
  clear hb hT ha nx q
  have rx : ∀ {G'}, Go B HF G' → StAt K S G' (.ref x) qs := fun g => hX.go bF g
  have rA : ∀ {G'}, Go B HF G' → Ls K G' (.ref a) qs := fun g => hA.go l2 bF g
  have rh : ∀ {G'}, Go B HF G' → ∃ dx fs, G' x = some (.ins S dx fs) ∧ fs.lookup ("numbers" : Str) = none ∧ fs.lookup ("power" : Str) = none ∧ fs.lookup ("cut" : Str) = none := fun g => by
    obtain ⟨x', dx, fs, _, e, h1, _, _, h2, h3, _, h4⟩ := (rx g).ld
    obtain rfl := V.ref.inj e
    exact ⟨dx, fs, h1, h2, h3, h4⟩
  have j0 : Jg T B p HF HF := ⟨bF, tF, Go.refl⟩
  have ra : ∀ {G'}, Go B HF G' → G' a = some (.lst xs) := fun g => g _ _ (nF.ne l2 aF bF) (fun ps z => by cases z) aF
  obtain ⟨an, at0, san⟩ := first_num nF l1
  have num : ∀ {G'}, Go B HF G' → ∃ an', atI xs 0 = some (.ref an') ∧ SqT K G' an' [.int (qs.getD 0 0).num, .int (((qs.getD 0 0).den : Nat) : Int)] := fun g => first_num (nF.go bF g) l1
  by_cases ht : Trn qs
  case neg =>
    have n0 : (qs.getD 0 0).num = 0 := Classical.byContradiction fun z => ht (trn_num.mpr z)
    refine ⟨fun σ G => ∃ t, σ = [some (.ref B), some (.ref a), some (.ref x), some (.ref t), none, none, none, none, none, none, none, none] ∧ Jg T B p HF G ∧ G t = some (.lst [.str "CantTurn"]), ?_, ?_⟩
    · refine ⟨j0.t, fun H3 x3 T3 => ⟨_, rfl, rd_inX (hX.ext x3) ht (air_ct fun t G s1 e1 => ⟨t, rfl, (j0.ext x3 T3).same s1, e1⟩)⟩⟩
    rintro σ G ⟨t, rfl, j, e⟩
    obtain ⟨a0, at0', sa⟩ := num j.g
    refine ⟨fun _ _ => False, ?_, fun _ _ z => z.elim⟩
    refine ⟨_, rfl, a, xs, _, _, rfl, rfl, SqL.of (ra j.g), at0', a0, _, 0, _, rfl, rfl, sa, rfl, rfl, _, rfl, ?_⟩
    rw [n0]
    refine iteT ?_
    refine ⟨(by show 1 ≤ sizeLine; decide), fun d nd => ?_⟩
    have j1 := j.same (new_same nd (HO.lst [V.str "CantTurn"]))
    have e1 : upd G d (.lst [.str "CantTurn"]) t = some (.lst [.str "CantTurn"]) := new_same nd _ _ _ e
    have ed : upd G d (.lst [.str "CantTurn"]) d = some (.lst [.str "CantTurn"]) := upd_same
    generalize upd G d (.lst [.str "CantTurn"]) = G1 at j1 e1 ed
    clear j e
    refine ⟨_, rfl, j1.t, fun H3 x3 T3 => ?_⟩
    have j3 := j1.ext x3 T3
    obtain ⟨dx, fs, hx3, _, hp3, _⟩ := rh j3.g
    refine ⟨_, rfl, x, dx, fs, rfl, hx3, hp3, 1, rfl, rd_pwX (k := 1) (rx j3.g) ht (by decide) (by decide) (air_ct fun r1 G4 s4 e4 => ?_)⟩
    have j4 := j3.same s4
    refine ⟨j4.t, fun H5 t5 x5 T5 ht5 => ⟨ht5, ?_⟩⟩
    have j5 := j4.ext x5 T5
    obtain ⟨dx, fs, hx5, _, hp5, _⟩ := rh j5.g
    refine ⟨_, rfl, x, dx, fs, rfl, hx5, hp5, 3, rfl, rd_pwX (k := 3) (rx j5.g) ht (by decide) (by decide) (air_ct fun r2 G6 s6 e6 => ?_)⟩
    have z1 : ∀ {b}, G1 b = some (.lst [.str "CantTurn"]) → G6 b = some (.lst [.str "CantTurn"]) := fun h => s6 _ _ (x5 _ _ (s4 _ _ (x3 _ _ h (fun ps z => by cases z))) (fun ps z => by cases z))
    have z2 : G6 r1 = some (.lst [.str "CantTurn"]) := s6 _ _ (x5 _ _ e4 (fun ps z => by cases z))
    have j6 := j5.same s6
    refine ⟨(by show 3 ≤ sizeLine; decide), fun l1 n1 => ⟨_, rfl, _, rfl, _, rfl, (by show 3 ≤ sizeLine; decide), fun l2 n2 => ?_⟩⟩
    have g1 := new_same n1 (.lst [.ref t, .ref r1, .ref r2])
    have g2 := new_same n2 (.lst [.ref d, .ref d, .ref d])
    have sg := g1.trans g2
    have lk : ∀ {b}, G6 b = some (.lst [.str "CantTurn"]) → Lk K S 3 (upd (upd G6 l1 (.lst [.ref t, .ref r1, .ref r2])) l2 (.lst [.ref d, .ref d, .ref d])) (.ref b) (.ref d) := fun h => Lk.lst (n := 2) (sg _ _ h) (sg _ _ (z1 ed)) (by show 1 ≤ 60; decide) (.cons (Lk.flat rfl) .nil)
    exact ⟨_, _, rfl, Lk.lst (n := 3) (g2 _ _ upd_same) upd_same (by show 3 ≤ 60; decide) (.cons (lk (z1 e1)) (.cons (lk z2) (.cons (lk e6) .nil))), fun H' s' => q' _ (j6.same (sg.trans s'))⟩
  have nn := trn_num.mp ht
  have g1 := hd.gr
  have gi := hd.inv ht l1 l7
  have li : (invL qs).length = qs.length := invL_len qs
  have hti := inv_turn l1 ht
  have gii : Gr 1 (invL (invL qs)) := by rw [inv_inv l1 ht]; exact g1
  refine ⟨fun σ G => ∃ t y, σ = [some (.ref B), some (.ref a), some (.ref x), some (.ref t), none, none, none, none, none, none, none, none] ∧ Jg T B p HF G ∧ G t = some (.lst [.str "told", .ref y]) ∧ StAt K S G (.ref y) (invL qs), ?_, ?_⟩
  · refine ⟨j0.t, fun H3 x3 T3 => ⟨_, rfl, rd_inG (hX.ext x3) ht (by decide) (by decide) g1 gi (by omega) fun G4 v s4 hv => ?_⟩⟩
    obtain ⟨y, rfl⟩ := hv.ref
    exact ⟨(by show 2 ≤ sizeLine; decide), fun t nt => ⟨t, y, rfl, ((j0.ext x3 T3).same s4).same (new_same nt _), upd_same, hv.same (new_same nt _)⟩⟩
  rintro σ G ⟨t, y, rfl, j, et, hy⟩
  refine ⟨fun σ G => σ = [some (.ref B), some (.ref a), some (.ref x), some (.ref t), none, none, none, none, none, none, none, none] ∧ Jg T B p HF G ∧ G t = some (.lst [.str "told", .ref y]) ∧ StAt K S G (.ref y) (invL qs), ?_, ?_⟩
  · obtain ⟨a0, at0', sa⟩ := num j.g
    refine ⟨_, rfl, a, xs, _, _, rfl, rfl, SqL.of (ra j.g), at0', a0, _, 0, _, rfl, rfl, sa, rfl, rfl, _, rfl, ?_⟩
    rw [decide_eq_false (fun z => nn (V.int.inj z))]
    exact iteF ⟨rfl, j, et, hy⟩
  clear j et hy
  rintro σ G ⟨rfl, j, et, hy⟩
  refine ⟨fun σ G => σ = [some (.ref B), some (.ref a), some (.ref x), some (.ref t), none, none, none, none, none, none, none, none] ∧ Jg T B p HF G ∧ G t = some (.lst [.str "told", .ref y]) ∧ StAt K S G (.ref y) (invL qs), ?_, ?_⟩
  · refine ⟨_, rfl, t, _, 0, _, rfl, rfl, SqL.of et, rfl, rfl, _, rfl, iteF ?_⟩
    refine ⟨_, rfl, t, _, 1, _, rfl, rfl, SqL.of et, rfl, _, rfl, a, xs, rfl, .inl (SqL.of (ra j.g)), .ref y, invL qs, 4 * qs.length, by rw [lx, li]; rfl, hy, by rw [← li]; exact gi.all, by omega, fun G2 s2 => ⟨_, rfl, iteF ⟨rfl, j.same s2, s2 _ _ et, hy.same s2⟩⟩⟩
  clear j et hy
  rintro σ G ⟨rfl, j, et, hy⟩
  refine ⟨fun σ G => ∃ vb vs, σ = [some (.ref B), some (.ref a), some (.ref x), some (.ref t), none, some vb, some vs, none, none, none, none, none] ∧ Jg T B p HF G ∧ G t = some (.lst [.str "told", .ref y]) ∧ StAt K S G (.ref y) (invL qs) ∧ Ls K G vb (invL qs) ∧ Ls K G vs (stL qs.length), ?_, ?_⟩
  · obtain ⟨y', dy, fy, _, ey, hy1, _, _, hy2, _⟩ := hy.ld
    obtain rfl := V.ref.inj ey
    refine ⟨_, rfl, t, _, 1, _, rfl, rfl, SqL.of et, rfl, y, dy, fy, rfl, hy1, hy2, .ref y, invL qs, rfl, hy, fun b G2 zs s2 nb eb mb => ?_⟩
    have j2 := j.same s2
    refine ⟨_, rfl, a, xs, rfl, .inl (SqL.of (ra j2.g)), qs.length, by rw [lx]; rfl, l2, by omega, fun d G3 ws s3 nd ed md => ?_⟩
    exact ⟨_, _, rfl, _, _, rfl, j2.same s3, s3 _ _ (s2 _ _ et), hy.same (s2.trans s3), ⟨b, zs, rfl, s3 _ _ eb, mb.same s3⟩, ⟨d, ws, rfl, ed, md⟩⟩
  clear j et hy
  rintro σ G ⟨vb, vs, rfl, j, et, hy, hB, hS⟩
  have lS : (stL qs.length).length = qs.length := stL_len l1
  refine ⟨fun σ G => σ = [some (.ref B), some (.ref a), some (.ref x), some (.ref t), none, some vb, some vs, none, none, none, none, none] ∧ Jg T B p HF G ∧ G t = some (.lst [.str "told", .ref y]) ∧ StAt K S G (.ref y) (invL qs) ∧ Ls K G vb (invL qs) ∧ Ls K G vs (stL qs.length), ?_, ?_⟩
  · refine ⟨_, rfl, _, rfl, .ref a, vb, qs, invL qs, 1, 4, rfl, rA j.g, hB, li.symm, by omega, by omega, by decide, by decide, by omega, g1, gi, fun v2 G2 s2 h2 => ⟨_, rfl, datL _, datL _, h2.dp, (hS.same s2).dp, shaped_list _, shaped_list _, ?_⟩⟩
    rw [eqv_list, decide_eq_true (cmp_inv l1 ht)]
    have j2 := j.same s2
    refine ⟨_, rfl, iteF ⟨_, rfl, _, rfl, vb, .ref a, invL qs, qs, 4, 1, rfl, hB.same s2, rA j2.g, li, by omega, by omega, by decide, by decide, by omega, gi, g1, fun v3 G3 s3 h3 => ⟨_, rfl, datL _, datL _, h3.dp, (hS.same (s2.trans s3)).dp, shaped_list _, shaped_list _, ?_⟩⟩⟩
    rw [eqv_list, decide_eq_true (inv_cmp l1 ht)]
    have s23 := s2.trans s3
    exact ⟨_, rfl, iteF ⟨rfl, j.same s23, s23 _ _ et, hy.same s23, hB.same s23, hS.same s23⟩⟩
  clear j et hy hB hS
  rintro σ G ⟨rfl, j, et, hy, hB, hS⟩
  refine ⟨fun σ G => σ = [some (.ref B), some (.ref a), some (.ref x), some (.ref t), none, some vb, some vs, none, none, none, none, none] ∧ Jg T B p HF G ∧ Ls K G vb (invL qs) ∧ Ls K G vs (stL qs.length), ?_, ?_⟩
  · refine ⟨_, rfl, t, _, 1, _, rfl, rfl, SqL.of et, rfl, rd_inG hy hti (by decide) (by decide) gi gii (by omega) fun G2 v2 s2 h2 => ?_⟩
    rw [inv_inv l1 ht] at h2
    have j2 := j.same s2
    refine ⟨_, rfl, _, _, qs, rfl, h2, rA j2.g, fun G3 s3 => ⟨_, rfl, iteF ?_⟩⟩
    have j3 := j2.same s3
    obtain ⟨dx, fs, hx3, _, hp3, _⟩ := rh j3.g
    refine ⟨_, rfl, x, dx, fs, rfl, hx3, hp3, 1, rfl, rd_pwN (k := 1) (rx j3.g) ht (by decide) (by decide) (by decide) (by decide) g1 gi (by omega) (by omega) fun G4 v4 s4 h4 => ?_⟩
    rw [itL_one] at h4
    have s24 := s2.trans (s3.trans s4)
    refine ⟨_, rfl, _, _, invL qs, rfl, h4, hB.same s24, fun G5 s5 => ⟨_, rfl, iteF ?_⟩⟩
    have s25 := s24.trans s5
    exact ⟨rfl, j.same s25, hB.same s25, hS.same s25⟩
  clear j et hy hB hS
  rintro σ G ⟨rfl, j, hB, hS⟩
  refine ⟨fun σ G => ∃ m : Nat, σ = [some (.ref B), some (.ref a), some (.ref x), some (.ref t), none, some vb, some vs, some (.int (m : Nat)), none, none, none, none] ∧ Jg T B p HF G ∧ Ls K G vb (invL qs) ∧ Ls K G vs (stL qs.length) ∧ 2 ≤ m ∧ m ≤ qs.length, ?_, ?_⟩
  · refine ⟨_, rfl, _, rfl, a, xs, rfl, .inl (SqL.of (ra j.g)), (xs.length : Nat), 1, rfl, rfl, B, p, _, rfl, by omega, by omega, j.b, fun G2 k b2 u2 k0 k1 => ⟨2, k, rfl, rfl, 2 + k.toNat, ?_, j.but b2 u2, hB.go (by rw [li]; exact l2) j.b (Go.of u2), hS.go (by rw [lS]; exact l2) j.b (Go.of u2), by omega, by omega⟩⟩
    have : (2 : Int) + k = ((2 + k.toNat : Nat) : Int) := by omega
    rw [← this]
    rfl
  clear j hB hS
  rintro σ G ⟨m, rfl, j, hB, hS, m2, ml⟩
  refine ⟨fun σ G => σ = [some (.ref B), some (.ref a), some (.ref x), some (.ref t), none, some vb, some vs, some (.int (m : Nat)), none, none, none, none] ∧ Jg T B p HF G ∧ Ls K G vs (stL qs.length), ?_, ?_⟩
  · obtain ⟨dx, fs, hx1, _, _, hc1⟩ := rh j.g
    refine ⟨_, rfl, x, dx, fs, rfl, hx1, hc1, _, rfl, rd_cs (rx j.g) m2 (by omega) ml fun G2 v2 s2 h2 => ?_⟩
    have ltk : (qs.take m).length = m := by rw [List.length_take]; omega
    have htk : Trn (qs.take m) := by
      show serS _ 1 ≠ 0
      rw [serS_take qs m 1 (by omega)]
      exact ht
    have gtk : Gr 4 (invL (qs.take m)) := by
      rw [inv_take (by omega) ml ht]
      exact gi.take
    refine rd_inG h2 htk (by decide) (by decide) g1.take gtk (by omega) fun G3 v3 s3 h3 => ?_
    rw [inv_take (by omega) ml ht] at h3
    have s23 := s2.trans s3
    obtain ⟨b, zs, rfl, eb, mb⟩ := hB.same s23
    refine ⟨_, rfl, _, rfl, (m : Int), rfl, b, zs, rfl, SqL.of eb, fun e ne => ?_⟩
    rw [show cutV zs none (some (m : Int)) = zs.take m from cut_take zs m]
    have s4 := new_same ne (HO.lst (zs.take m))
    refine ⟨_, _, (invL qs).take m, rfl, h3.same s4, ⟨e, _, rfl, upd_same, (mb.take m).same s4⟩, fun G5 s5 => ⟨_, rfl, iteF ?_⟩⟩
    have s25 := s23.trans (s4.trans s5)
    exact ⟨rfl, j.same s25, hS.same s25⟩
  clear j hB hS
  rintro σ G ⟨rfl, j, hS⟩
  refine ⟨fun σ G => ∃ k : Nat, σ = [some (.ref B), some (.ref a), some (.ref x), some (.ref t), none, some vb, some vs, some (.int (m : Nat)), some (.int (k : Nat)), none, none, none] ∧ Jg T B p HF G ∧ Ls K G vs (stL qs.length) ∧ 2 ≤ k ∧ (k = 2 ∨ k = 3 ∨ k = 4 ∧ qs.length ≤ 4), ?_, ?_⟩
  · refine ⟨_, rfl, _, rfl, a, xs, rfl, .inl (SqL.of (ra j.g)), (xs.length : Nat), 5, rfl, rfl, _, rfl, ite2 (fun cc => ?_) (fun cc => ?_)⟩
    · have c5 : (xs.length : Int) < 5 := of_decide_eq_true cc
      refine ⟨(by show 4 ≤ sizeLine; decide), fun l nl => ⟨B, p, l, _, rfl, upd_same, (j.b.at nl).1, (by show 0 < 4; decide), (by show 4 ≤ 1000; decide), j.b.put nl, fun G2 z b2 u2 hz => ?_⟩⟩
      have s1 := new_same nl (HO.lst [V.int 2, .int 2, .int 3, .int 4])
      have jj := (j.same s1).but b2 u2
      have hh := (hS.same s1).go (by rw [lS]; exact l2) (j.b.put nl) (Go.of u2)
      simp only [List.mem_cons, List.not_mem_nil, or_false] at hz
      rcases hz with rfl | rfl | rfl | rfl
      · exact ⟨2, rfl, jj, hh, by decide, .inl rfl⟩
      · exact ⟨2, rfl, jj, hh, by decide, .inl rfl⟩
      · exact ⟨3, rfl, jj, hh, by decide, .inr (.inl rfl)⟩
      · exact ⟨4, rfl, jj, hh, by decide, .inr (.inr ⟨rfl, by omega⟩)⟩
    · refine ⟨(by show 3 ≤ sizeLine; decide), fun l nl => ⟨B, p, l, _, rfl, upd_same, (j.b.at nl).1, (by show 0 < 3; decide), (by show 3 ≤ 1000; decide), j.b.put nl, fun G2 z b2 u2 hz => ?_⟩⟩
      have s1 := new_same nl (HO.lst [V.int 2, .int 2, .int 3])
      have jj := (j.same s1).but b2 u2
      have hh := (hS.same s1).go (by rw [lS]; exact l2) (j.b.put nl) (Go.of u2)
      simp only [List.mem_cons, List.not_mem_nil, or_false] at hz
      rcases hz with rfl | rfl | rfl
      · exact ⟨2, rfl, jj, hh, by decide, .inl rfl⟩
      · exact ⟨2, rfl, jj, hh, by decide, .inl rfl⟩
      · exact ⟨3, rfl, jj, hh, by decide, .inr (.inl rfl)⟩
  clear j hS
  rintro σ G ⟨k, rfl, j, hS, k2, kk⟩
  refine ⟨fun σ G => σ = [some (.ref B), some (.ref a), some (.ref x), some (.ref t), none, some vb, some vs, some (.int (m : Nat)), some (.int (k : Nat)), some (.ref a), none, none] ∧ Jg T B p HF G ∧ Ls K G vs (stL qs.length), ⟨_, rfl, rfl, j, hS⟩, ?_⟩
  clear j hS
  rintro σ G ⟨rfl, j, hS⟩
  have lit : ∀ i, (itL qs i).length = qs.length := itL_len l1
  have gdo : ∀ i, Gr (1 * (i + 1)) (itL qs (i + 1)) := itL_gr g1 l1 (by omega)
  refine ⟨fun σ G => ∃ vd v10, σ = [some (.ref B), some (.ref a), some (.ref x), some (.ref t), none, some vb, some vs, some (.int (m : Nat)), some (.int (k : Nat)), some vd, v10, none] ∧ Jg T B p HF G ∧ Ls K G vs (stL qs.length) ∧ Ls K G vd (itL qs k), ?_, ?_⟩
  · refine ⟨_, rfl, (k : Int), 1, rfl, rfl, _, rfl, by omega, by omega, for_range (lo := 0) (n := ((k : Int) - 1).toNat) (fun i σ G' => ∃ vd v10, σ = [some (.ref B), some (.ref a), some (.ref x), some (.ref t), none, some vb, some vs, some (.int (m : Nat)), some (.int (k : Nat)), some vd, v10, none] ∧ Jg T B p HF G' ∧ Ls K G' vs (stL qs.length) ∧ Ls K G' vd (itL qs (i + 1))) ⟨.ref a, none, rfl, j, hS, by rw [itL_one]; exact rA j.g⟩ ?_ ?_⟩
    · rintro i σ G1 hi ⟨vd, v10, rfl, j1, h1, hD⟩
      refine ⟨_, rfl, _, rfl, vd, .ref a, itL qs (i + 1), qs, 1 * (i + 1), 1, rfl, hD, rA j1.g, lit _, by omega, by omega, by omega, by decide, ?_, gdo i, g1, fun v2 G2 s2 h2 => ⟨v2, _, rfl, j1.same s2, h1.same s2, ?_⟩⟩
      · have : (1 * (i + 1) + 1) * qs.length ≤ 5 * qs.length := Nat.mul_le_mul_right _ (by omega)
        omega
      · rw [itL_snoc l1]
        exact h2
    · rintro σ G1 ⟨vd, v10, rfl, j1, h1, hD⟩
      rw [show ((k : Int) - 1).toNat + 1 = k by omega] at hD
      exact ⟨vd, v10, rfl, j1, h1, hD⟩
  clear j hS
  rintro σ G ⟨vd, v10, rfl, j, hS, hD⟩
  obtain ⟨k', rfl⟩ : ∃ k', k = k' + 1 := ⟨k - 1, by omega⟩
  have gin : Gr (4 * (k' + 1)) (itL (invL qs) (k' + 1)) := itL_gr gi (by omega) (by omega) k'
  have lin : (itL (invL qs) (k' + 1)).length = qs.length := by rw [itL_len (by omega), li]
  have w1 : 4 * (k' + 1) * qs.length ≤ 84 := by
    rcases kk with h | h | ⟨h, h4⟩
    · obtain rfl : k' = 1 := by omega
      omega
    · obtain rfl : k' = 2 := by omega
      omega
    · obtain rfl : k' = 3 := by omega
      omega
  have w2 : (1 * (k' + 1) + 4 * (k' + 1)) * (itL (invL qs) (k' + 1)).length ≤ 130 := by
    rw [lin]
    rcases kk with h | h | ⟨h, h4⟩
    · obtain rfl : k' = 1 := by omega
      omega
    · obtain rfl : k' = 2 := by omega
      omega
    · obtain rfl : k' = 3 := by omega
      omega
  refine ⟨fun σ G => ∃ y, σ = [some (.ref B), some (.ref a), some (.ref x), some (.ref t), none, some vb, some vs, some (.int (m : Nat)), some (.int (k' + 1 : Nat)), some vd, v10, some (.ref y)] ∧ Jg T B p HF G ∧ Ls K G vs (stL qs.length) ∧ Ls K G vd (itL qs (k' + 1)) ∧ StAt K S G (.ref y) (itL (invL qs) (k' + 1)), ?_, ?_⟩
  · obtain ⟨dx, fs, hx1, _, hp1, _⟩ := rh j.g
    refine ⟨_, rfl, x, dx, fs, rfl, hx1, hp1, _, rfl, ((k' + 1 : Nat) : Int), rfl, rd_pwN (k := k' + 1) (rx j.g) ht (by omega) (by omega) (by decide) (by decide) g1 gi (by omega) (by omega) fun G2 v2 s2 h2 => ?_⟩
    obtain ⟨y, rfl⟩ := h2.ref
    exact ⟨y, rfl, j.same s2, hS.same s2, hD.same s2, h2⟩
  clear j hS hD
  rintro σ G ⟨y, rfl, j, hS, hD, hY⟩
  refine ⟨fun σ G => σ = [some (.ref B), some (.ref a), some (.ref x), some (.ref t), none, some vb, some vs, some (.int (m : Nat)), some (.int (k' + 1 : Nat)), some vd, v10, some (.ref y)] ∧ Jg T B p HF G ∧ Ls K G vs (stL qs.length) ∧ Ls K G vd (itL qs (k' + 1)) ∧ StAt K S G (.ref y) (itL (invL qs) (k' + 1)), ?_, ?_⟩
  · refine ⟨_, rfl, _, rfl, a, xs, rfl, .inl (SqL.of (ra j.g)), .ref y, itL (invL qs) (k' + 1), 4 * (k' + 1) * qs.length, by rw [lx, lin]; rfl, hY, by have := gin.all; rw [lin] at this; exact this, by omega, fun G2 s2 => ⟨_, rfl, iteF ?_⟩⟩
    have j2 := j.same s2
    refine ⟨_, rfl, rd_inG (rx j2.g) ht (by decide) (by decide) g1 gi (by omega) fun G3 v3 s3 h3 => ?_⟩
    obtain ⟨z, dz, fz, _, rfl, hz1, _, _, _, hz2, _⟩ := h3.ld
    refine ⟨z, dz, fz, rfl, hz1, hz2, _, rfl, rd_pwP (k := k' + 1) h3 (by omega) (by omega) (by decide) gi (by rw [li]; omega) fun G4 v4 s4 h4 => ?_⟩
    have s24 := s2.trans (s3.trans s4)
    obtain ⟨y', dy, fy, _, ey, hy1, _, _, hy2, _⟩ := (hY.same s24).ld
    obtain rfl := V.ref.inj ey
    refine ⟨_, rfl, y, dy, fy, rfl, hy1, hy2, .ref y, _, rfl, hY.same s24, fun b G5 zs s5 nb eb mb => ?_⟩
    refine ⟨_, _, _, rfl, h4.same s5, ⟨b, zs, rfl, eb, mb⟩, fun G6 s6 => ⟨_, rfl, iteF ?_⟩⟩
    have s26 := s24.trans (s5.trans s6)
    exact ⟨rfl, j.same s26, hS.same s26, hD.same s26, hY.same s26⟩
  clear j hS hD hY
  rintro σ G ⟨rfl, j, hS, hD, hY⟩
  obtain ⟨y', dy, fy, _, ey, hy1, _, _, hy2, _⟩ := hY.ld
  obtain rfl := V.ref.inj ey
  refine ⟨_, rfl, _, rfl, y, dy, fy, rfl, hy1, hy2, .ref y, _, rfl, hY, fun b G2 zs s2 nb eb mb => ?_⟩
  refine ⟨vd, .ref b, itL qs (k' + 1), itL (invL qs) (k' + 1), 1 * (k' + 1), 4 * (k' + 1), rfl, hD.same s2, ⟨b, zs, rfl, eb, mb⟩, by rw [lit, lin], by omega, by omega, by omega, by omega, w2, gdo k', gin, fun v3 G3 s3 h3 => ⟨_, rfl, datL _, datL _, h3.dp, (hS.same (s2.trans s3)).dp, shaped_list _, shaped_list _, ?_⟩⟩
  have s23 := s2.trans s3
  have j3 := j.same s23
  rw [eqv_list, decide_eq_true (it_inv l1 ht (k' + 1))]
  refine ⟨_, rfl, iteT ?_⟩
  obtain ⟨dx, fs, hx1, hn1, _⟩ := rh j3.g
  refine ⟨_, rfl, x, dx, fs, rfl, hx1, hn1, .ref x, qs, rfl, rx j3.g, fun b2 G4 zs2 s4 nb2 eb2 mb2 => ?_⟩
  exact ⟨_, rfl, _, _, rfl, Ls.lk (n := 2) ⟨b2, zs2, rfl, eb2, mb2⟩ (rA (j3.same s4).g) (by omega), fun H' s' => q' _ ((j3.same s4).same s')⟩
end
end Kx
end
section
set_option maxHeartbeats 4000000
namespace Kx
open PySem PySem.Spec PyProof.Rows L2 RZ
/-! ### what is known of a step and its turning back -/
structure Jn (T : List (Addr × Str)) (HF G : Hp) : Prop where
  t : LamX.Tabs T G
  e : LamX.ExtN HF G
theorem Jn.same {T : List (Addr × Str)} {HF G G' : Hp} (j : Jn T HF G) (s : Same G G') : Jn T HF G' := ⟨j.t.ext s, j.e.trans (.of s)⟩
theorem Jn.ext {T : List (Addr × Str)} {HF G G' : Hp} (j : Jn T HF G) (s : LamX.ExtN G G') (t : LamX.Tabs T G') : Jn T HF G' := ⟨t, j.e.trans s⟩
/-- the weights: g, and i turned back -/
structure Wt (g i : Nat) (rs : List Rat) : Prop where
  g0 : 1 ≤ g
  i0 : 1 ≤ i
  gg : Gr g rs
  gi : Trn rs → Gr i (invL rs)
  k : (g = 1 ∧ i = 4) ∨ (g = 2 ∧ i = 8 ∧ rs.length ≤ 4)
theorem Dr.wt {rs : List Rat} (h : Dr rs) (l1 : 1 ≤ rs.length) (l7 : rs.length ≤ 7) : Wt 1 4 rs := ⟨by decide, by decide, h.gr, fun t => h.inv t l1 l7, .inl ⟨rfl, rfl⟩⟩
theorem canc1 {x r : List Rat} (l : x.length = r.length) (l1 : 1 ≤ r.length) (h : Trn r) : cmpL (cmpL x (invL r)) r = x := by
  rw [cmp_assoc (by rw [invL_len]; exact l), inv_cmp l1 h, cmp_st]
theorem canc2 {x r : List Rat} (l : x.length = r.length) (l1 : 1 ≤ r.length) (h : Trn r) : cmpL (cmpL x r) (invL r) = x := by
  rw [cmp_assoc l, cmp_inv l1 h, cmp_st]
theorem canc3 {x r : List Rat} (l : x.length = r.length) (l1 : 1 ≤ r.length) (h : Trn r) : cmpL (invL r) (cmpL r x) = x := by
  rw [← cmp_assoc (invL_len r), inv_cmp l1 h, ← l, st_cmp x (by omega)]
abbrev nRno : List Str := ["_law_a", "_law_b", "_law_c", "_law_f", "_law_g", "_law_h", "_law_some", "_law_told"]
def spRno (K : PySem.W.Frag) (T : List (Addr × Str)) : Sp := fun vs H Q _ => ∃ (x y z : V) (qs rs ts : List Rat) (g i : Nat), vs = [x, y, z] ∧ Ls K H x qs ∧ Ls K H y rs ∧ Ls K H z ts ∧ rs.length = qs.length ∧ ts.length = qs.length ∧ 2 ≤ qs.length ∧ qs.length ≤ 7 ∧ Wt 1 4 qs ∧ Wt g i rs ∧ Wt 1 4 ts ∧ LamX.Tabs T H ∧
  ∀ H', LamX.Tabs T H' → LamX.ExtN H H' → Q (.bl true) H'
section
variable {P : Program} {w : World} {K : PySem.W.Frag} {mg : Str → Option Value} {base : Heap} {f c Pt C S CF CO CL CE : Addr} {cs : Fin 2 → Addr} {fd : FuncData} {T : List (Addr × Str)}
theorem rd_renG {H : Hp} {vx vy : V} {qs rs : List Rat} {a b c : Nat} {E : XK} {R : VK} (hX : StAt K S H vx qs) (hY : StAt K S H vy rs) (le : qs.length = rs.length) (ht : Trn rs) (a1 : 1 ≤ a) (b1 : 1 ≤ b) (c1 : 1 ≤ c) (ga : Gr a qs) (gb : Gr b rs) (gc : Gr c (invL rs)) (w1 : (a + b + c) * qs.length ≤ 130)
    (q : ∀ H' y, Same H H' → StAt K S H' y (cmpL (cmpL rs qs) (invL rs)) → R y H') : spRen K S (cs 0) (cs 1) [vx, vy] H R E :=
  ⟨vx, vy, qs, rs, rfl, hX, hY, fun n => absurd le n, fun _ => ⟨a, b, c, a1, b1, c1, ga, gb, fun _ => gc, w1, fun n => absurd ht n, fun _ => q⟩⟩
theorem rd_renX {H : Hp} {vx vy : V} {qs rs : List Rat} {a b : Nat} {E : XK} {R : VK} (hX : StAt K S H vx qs) (hY : StAt K S H vy rs) (le : qs.length = rs.length) (ht : ¬ Trn rs) (a1 : 1 ≤ a) (b1 : 1 ≤ b) (ga : Gr a qs) (gb : Gr b rs) (w1 : (a + b + 1) * qs.length ≤ 130) (h : Air H (cs 1) (fs0 "CantTurn" []) E) : spRen K S (cs 0) (cs 1) [vx, vy] H R E :=
  ⟨vx, vy, qs, rs, rfl, hX, hY, fun n => absurd le n, fun _ => ⟨a, b, 1, a1, b1, by decide, ga, gb, fun t => absurd t ht, w1, fun _ => h, fun t => absurd t ht⟩⟩
theorem scRno : FnScope nRno ["_law_a", "_law_b", "_law_c"] (defScope L_renamed_so) := ⟨rfl, rfl, rfl, by decide +kernel, rfl, by decide +kernel, by decide +kernel⟩
theorem ok_renamedso (F : FunC K "_law_renamed_so" "_law_renamed_so" L_renamed_so f fd c) (U : Kit6 P w K mg base C S CF CO CL CE cs)
    (TB : LamX.TabB base mg c Pt) (hmT : (Pt, ((("_law_renamed_so" : Str) ++ ".<locals>.") ++ "<lambda>" : Str)) ∈ T) (hu : ∀ p ∈ T, p.1 = Pt → p.2 = ((("_law_renamed_so" : Str) ++ ".<locals>.") ++ "<lambda>" : Str)) : FnOk P w K mg base CX0 12 f fd ["_law_a", "_law_b", "_law_c"] (spRno K T) := by
  refine F.ok scRno (fun vs H Q E h => ?_) (fun A outer s H vs Q E hr h => ?_)
  · obtain ⟨x, y, z, qs, rs, ts, g, i, rfl, _⟩ := h
    rfl
  obtain ⟨x0, y0, z0, qs, rs, ts, g, i, rfl, hA, hB, hC, lr, lt, l2, l7, wa, wb, wc, hT, q⟩ := h
  have hr1 := hr.mono (show 1 ≤ 11 by decide)
  have hr2 := hr.mono (show 2 ≤ 11 by decide)
  have hr5 := hr.mono (show 5 ≤ 11 by decide)
  have hr6 := hr.mono (show 6 ≤ 11 by decide)
  have hr7 := hr.mono (show 7 ≤ 11 by decide)
  have hr8 := hr.mono (show 8 ≤ 11 by decide)
  have hr9 := hr.mono (show 9 ≤ 11 by decide)
  obtain ⟨gA, fdA, FA, bA, mA⟩ := U.ask
  obtain ⟨oc, od, kV, doc, pm, an, cdv, ct, osl, rfl, lkA, hcdA⟩ := FA.ex
  obtain ⟨fF, fdF, PF, bF, kF, mF⟩ := U.flt
  obtain ⟨fI, fdI, MI, FI, bI⟩ := U.sk.ini
  refine ⟨_, C8.pss_cut (ps_asg (pe_tup (pa_cons (pe_make (E := fun _ _ _ => False) MI FI hr7 rfl U.sk.m bI .nil passF (pa_cons (pv 0) pa_nil)) (pa_cons (pe_make (E := fun _ _ _ => False) MI FI hr7 rfl U.sk.m bI .nil passF (pa_cons (pv 1) pa_nil)) (pa_cons (pe_make (E := fun _ _ _ => False) MI FI hr7 rfl U.sk.m bI .nil passF (pa_cons (pv 2) pa_nil)) pa_nil)))) (pg_tup rfl (pgs_cons (pg_name (i := 3) scRno.nd rfl (Or.inr rfl)) (pgs_cons (pg_name (i := 4) scRno.nd rfl (Or.inr rfl)) (pgs_cons (pg_name (i := 5) scRno.nd rfl (Or.inl rfl)) pgs_nil)))))
    (C8.pss_cut (ps_set (i := 6) scRno.nd rfl (Or.inl rfl) (pe_lst (pa_cons (LamX.pe_lamcall (k := 9) (t := fun E => tMeth S "renamed" (spRen K S (cs 0) (cs 1)) [] E (tVar 3) (tCons (tVar 4) tNil)) (TT := TAsk2 cs) rfl mA FA.kp lkA hcdA bA scAsk rfl (Or.inl rfl) (ask_gives2 (hr.mono (by decide)) PF bF kF mF U.mC U.e1) TB rfl hmT hu hr (LamX.lamS_by (show LamX.lamSB (defScope L_renamed_so) _ = true by decide +kernel)) rfl (fun _ _ _ _ _ => rfl)
      (fun A outer s H E f c' hk => pe_mu U.sren (pv 3) hk (passes_call (takes_of rfl rfl rfl rfl) (fun _ _ _ _ h => h)) (pa_cons (pv 4) pa_nil))) (pa_cons (LamX.pe_lamcallD (k := 9) (kd := 0) (px := "_law_x") (t := fun E => tMethR S "renamed" 1 (spRen K S (cs 0) (cs 1)) E (tVar 3) (tCons (tVar 4) tNil)) (TT := TAsk2 cs) rfl mA FA.kp lkA hcdA bA scAsk rfl (Or.inl rfl) (ask_gives2 (hr.mono (by decide)) PF bF kF mF U.mC U.e1) TB rfl hmT hu hr (LamX.lamD_by (show LamX.lamDB nRno (defScope L_renamed_so) _ "_law_x" = true by decide +kernel)) rfl (fun _ _ _ _ _ _ _ => ⟨_, rfl, rfl⟩)
      (fun A outer s H E f c' hk => pe_muR (ks := ["step"]) U.sren (pv 3) hk (passes_call (takes_of rfl rfl rfl rfl) (fun _ _ _ _ h => h)) (pk_cons (pv 4) pk_nil) (by simp))) pa_nil))))
    (C8.pss_cut (ps_if (pt_cmpR op_eq (pe_ix ix_tup (pe_ix ix_list (pv 1) pe_int (fun _ _ => rfl)) pe_int (fun _ _ => rfl)) pe_int (nomark _)) (pss_one (ps_ret (pe_use U.lik hr6 rfl pass0 (pa_cons (pv 6) (pa_cons (pe_lst (pa_cons (pe_lst (pa_cons pe_str pa_nil)) (pa_cons (pe_lst (pa_cons pe_str pa_nil)) pa_nil))) pa_nil))))) pss_nil)
    (C8.pss_cut (ps_if (PW.pt (pw_or (pt_cmpR op_ne (pe_ix ix_list (pe_ix ix_list (pv 6) pe_int (fun _ _ => rfl)) pe_int (fun _ _ => rfl)) pe_str (nomark _)) (pw_or (pt_cmpR op_ne (pe_ix ix_list (pe_ix ix_list (pv 6) pe_int (fun _ _ => rfl)) pe_int (fun _ _ => rfl)) pe_str (nomark _)) (pw_or1 (pt_not (pt_val (pe_use U.nso hr7 rfl pass0 (pa_cons (pe_ix ix_list (pe_ix ix_list (pv 6) pe_int (fun _ _ => rfl)) pe_int (fun _ _ => rfl)) (pa_cons (pe_callB call_len_seq rfl U.mn PySem.boot_len (pa_cons (pv 0) pa_nil)) pa_nil))))))))) (pss_one (ps_ret pe_bl)) pss_nil)
    (C8.pss_cut (ps_set (i := 7) scRno.nd rfl (Or.inl rfl) (pe_mu0 U.snum (pe_ix ix_list (pe_ix ix_list (pv 6) pe_int (fun _ _ => rfl)) pe_int (fun _ _ => rfl)) hr1 pass0))
    (C8.pss_cut (ps_if (PW.pt (pw_or (pt_cmpR (op_neD hr.units) (pe_use U.behd hr5 rfl pass0 (pa_cons (pv 7) (pa_cons (pv 1) pa_nil))) (pe_use U.behd hr5 rfl pass0 (pa_cons (pv 1) (pa_cons (pv 0) pa_nil))) (nomark _)) (pw_or1 (pt_not (pt_val (pe_use U.sso hr7 rfl pass0 (pa_cons (pe_ix ix_list (pe_ix ix_list (pv 6) pe_int (fun _ _ => rfl)) pe_int (fun _ _ => rfl)) (pa_cons (pv 7) pa_nil)))))))) (pss_one (ps_ret pe_bl)) pss_nil)
    (C8.pss_cut (ps_if (pt_not (pt_val (pe_use U.sso hr7 rfl pass0 (pa_cons (pe_mu (E := fun _ _ _ => False) U.sren (pe_ix ix_list (pe_ix ix_list (pv 6) pe_int (fun _ _ => rfl)) pe_int (fun _ _ => rfl)) hr9 passF (pa_cons (pe_un (un_inv (E := fun _ _ _ => False) U.sinv hr8 passF) (pv 4)) pa_nil)) (pa_cons (pv 0) pa_nil))))) (pss_one (ps_ret pe_bl)) pss_nil)
    (C8.pss_cut (ps_if (pt_cmpR op_eq (pe_ix ix_tup (pe_ix ix_list (pv 2) pe_int (fun _ _ => rfl)) pe_int (fun _ _ => rfl)) pe_int (nomark _)) (pss_one (ps_ret pe_bl)) pss_nil)
    (pss_one (ps_ret (pe_and (pe_use U.sso hr7 rfl pass0 (pa_cons (pe_mu (E := fun _ _ _ => False) U.sren (pe_mu (E := fun _ _ _ => False) U.sren (pv 3) hr9 passF (pa_cons (pv 4) pa_nil)) hr9 passF (pa_cons (pv 5) pa_nil)) (pa_cons (pe_mu0 U.snum (pe_mu (E := fun _ _ _ => False) U.sren (pv 3) hr9 passF (pa_cons (pe_op (op_bin (E := fun _ _ _ => False) U.smul rfl hr8 passF) (pv 5) (pv 4)) pa_nil)) hr1 pass0) pa_nil))) (pe_one (pe_use U.lik hr6 rfl pass0 (pa_cons (pe_mu0 U.snum (pv 4) hr1 pass0) (pa_cons (pv 1) pa_nil)))))))))))))), ?_⟩
  obtain ⟨a, xs, rfl, ha, nx⟩ := id hA
  obtain ⟨b, ys, rfl, hb, ny⟩ := id hB
  obtain ⟨c0, zs, rfl, hc, nz⟩ := id hC
  have lx : xs.length = qs.length := nx.1
  refine ⟨fun σ G => ∃ x y z, σ = [some (.ref a), some (.ref b), some (.ref c0), some (.ref x), some (.ref y), some (.ref z), none, none] ∧ Jn T H G ∧ StAt K S G (.ref x) qs ∧ StAt K S G (.ref y) rs ∧ StAt K S G (.ref z) ts, ?_, ?_⟩
  · refine ⟨_, rfl, fun x dx xn dn en => step_newG (.inl ha) nx l2 (by omega) xn dn en fun G1 s1 hX => ⟨rfl, ?_⟩⟩
    clear xn dn en dx
    refine ⟨_, rfl, fun y dy xn dn en => step_newG (.inl (s1 _ _ hb)) (ny.same s1) (by omega) (by omega) xn dn en fun G2 s2 hY => ⟨rfl, ?_⟩⟩
    clear xn dn en dy
    refine ⟨_, rfl, fun z dz xn dn en => step_newG (.inl (s2 _ _ (s1 _ _ hc))) ((nz.same s1).same s2) (by omega) (by omega) xn dn en fun G3 s3 hZ => ⟨rfl, ?_⟩⟩
    refine ⟨(by show 3 ≤ sizeLine; decide), fun t nt => ?_⟩
    have s4 := new_same nt (HO.tup [V.ref x, V.ref y, V.ref z])
    have j0 : Jn T H H := ⟨hT, LamX.ExtN.refl H⟩
    exact ⟨t, _, rfl, SqT.of upd_same, rfl, _, _, rfl, _, _, rfl, _, _, rfl, rfl, x, y, z, rfl, (((j0.same s1).same s2).same s3).same s4, hX.same (s2.trans (s3.trans s4)), hY.same (s3.trans s4), hZ.same s4⟩
  rintro σ HF ⟨x, y, z, rfl, jF, hX, hY, hZ⟩
  have hA := hA.ext jF.e
  have hB := hB.ext jF.e
  have nx := nx.ext jF.e
  have ny := ny.ext jF.e
  have nz := nz.ext jF.e
  have ra : HF a = some (.lst xs) := jF.e _ _ ha (fun ps z => by cases z)
  have rb : HF b = some (.lst ys) := jF.e _ _ hb (fun ps z => by cases z)
  have rc : HF c0 = some (.lst zs) := jF.e _ _ hc (fun ps z => by cases z)
  have q' : ∀ G, Jn T HF G → Q (.bl true) G := fun G j => q G j.t (jF.e.trans j.e)
  have j0 : Jn T HF HF := ⟨jF.t, LamX.ExtN.refl HF⟩
  clear ha hb hc hT q hC jF
  have ls : ∀ {G : Hp} {d : Addr} {zs : List V}, LamX.ExtN HF G → HF d = some (.lst zs) → G d = some (.lst zs) := fun e h => e _ _ h (fun ps z => by cases z)
  have rh : ∀ {G : Hp} {v : V} {us : List Rat}, StAt K S G v us → ∃ x dx fs, v = .ref x ∧ G x = some (.ins S dx fs) ∧ fs.lookup ("numbers" : Str) = none ∧ fs.lookup ("renamed" : Str) = none := fun h => by
    obtain ⟨x', dx, fs, _, e, h1, _, _, h2, _, h3, _⟩ := h.ld
    exact ⟨x', dx, fs, e, h1, h2, h3⟩
  have l1 : 1 ≤ qs.length := by omega
  have w130 : (1 + g + i) * qs.length ≤ 130 ∧ (1 + g + 1) * qs.length ≤ 130 ∧ (2 * g + 2 * i + 1) * qs.length ≤ 130 ∧ (g + i + 1 + g) * qs.length ≤ 130 ∧ (g + i + 1 + 1 + 4) * qs.length ≤ 130 ∧ (1 + (1 + g) + (i + 4)) * qs.length ≤ 130 := by
    have := wb.k
    rw [lr] at this
    rcases this with ⟨rfl, rfl⟩ | ⟨rfl, rfl, h4⟩ <;> omega
  obtain ⟨w1, w2, w3, w4, w5, w6⟩ := w130
  have g0 := wb.g0
  have i0 := wb.i0
  by_cases ht : Trn rs
  case neg =>
    have n0 : (rs.getD 0 0).num = 0 := Classical.byContradiction fun z => ht (trn_num.mpr z)
    refine ⟨fun σ G => ∃ l r1 r2, σ = [some (.ref a), some (.ref b), some (.ref c0), some (.ref x), some (.ref y), some (.ref z), some (.ref l), none] ∧ Jn T HF G ∧ G l = some (.lst [.ref r1, .ref r2]) ∧ G r1 = some (.lst [.str "CantTurn"]) ∧ G r2 = some (.lst [.str "CantTurn"]), ?_, ?_⟩
    · refine ⟨j0.t, fun H3 x3 T3 => ?_⟩
      obtain ⟨x', dx, fs, e, h1, _, h2⟩ := rh (hX.ext x3)
      obtain rfl := V.ref.inj e
      refine ⟨_, rfl, x, dx, fs, rfl, h1, h2, _, rfl, rd_renX (hX.ext x3) (hY.ext x3) lr.symm ht (by decide) g0 wa.gg wb.gg w2 (air_ct fun r1 G4 s4 e4 => ?_)⟩
      have j4 := (j0.ext x3 T3).same s4
      refine ⟨j4.t, fun H5 t5 x5 T5 ht5 => ⟨ht5, ?_⟩⟩
      have j5 := j4.ext x5 T5
      obtain ⟨x', dx, fs, e, h1, _, h2⟩ := rh (hX.ext j5.e)
      obtain rfl := V.ref.inj e
      refine ⟨_, rfl, x, dx, fs, rfl, h1, h2, _, rfl, rfl, rd_renX (hX.ext j5.e) (hY.ext j5.e) lr.symm ht (by decide) g0 wa.gg wb.gg w2 (air_ct fun r2 G6 s6 e6 => ?_)⟩
      refine ⟨(by show 2 ≤ sizeLine; decide), fun l nl => ?_⟩
      have s7 := new_same nl (HO.lst [V.ref r1, .ref r2])
      exact ⟨l, r1, r2, rfl, (j5.same s6).same s7, upd_same, s7 _ _ (s6 _ _ (x5 _ _ e4 (fun ps z => by cases z))), s7 _ _ e6⟩
    rintro σ G ⟨l, r1, r2, rfl, j, el, e1, e2⟩
    obtain ⟨a0, at0', sa⟩ := first_num (ny.ext j.e) (by omega)
    refine ⟨fun _ _ => False, ?_, fun _ _ z => z.elim⟩
    refine ⟨_, rfl, b, ys, _, _, rfl, rfl, SqL.of (ls j.e rb), at0', a0, _, 0, _, rfl, rfl, sa, rfl, rfl, _, rfl, ?_⟩
    rw [n0]
    refine iteT ⟨_, rfl, (by show 1 ≤ sizeLine; decide), fun d1 n1 => ⟨(by show 1 ≤ sizeLine; decide), fun d2 n2 => ⟨(by show 2 ≤ sizeLine; decide), fun d3 n3 => ?_⟩⟩⟩
    have t1 := new_same n1 (HO.lst [V.str "CantTurn"])
    have t2 := new_same n2 (HO.lst [V.str "CantTurn"])
    have t3 := new_same n3 (HO.lst [V.ref d1, .ref d2])
    have t23 := t2.trans t3
    have tA := t1.trans t23
    have lk : ∀ {r d : Addr} {G' : Hp}, G' r = some (.lst [.str "CantTurn"]) → G' d = some (.lst [.str "CantTurn"]) → Lk K S 3 G' (.ref r) (.ref d) := fun h h' => Lk.lst (n := 2) h h' (by show 1 ≤ 60; decide) (.cons (Lk.flat rfl) .nil)
    exact ⟨_, _, rfl, Lk.lst (n := 3) (tA _ _ el) upd_same (by show 2 ≤ 60; decide) (.cons (lk (tA _ _ e1) (t23 _ _ upd_same)) (.cons (lk (tA _ _ e2) (t3 _ _ upd_same)) .nil)), fun H' s' => q' _ (j.same (tA.trans s'))⟩
  have nn := trn_num.mp ht
  have gi := wb.gi ht
  have li : (invL rs).length = rs.length := invL_len rs
  have hti := inv_turn (rs := rs) (by omega) ht
  let rn := cmpL (cmpL rs qs) (invL rs)
  have lrn : rn.length = qs.length := by show (cmpL _ _).length = _; rw [cmpL_len, cmpL_len, lr]
  have grn : Gr (g + 1 + i) rn := (wb.gg.cmp wa.gg lr (by omega)).cmp gi (by rw [cmpL_len, li]) (by rw [cmpL_len]; omega)
  refine ⟨fun σ G => ∃ l r1 r2 y1 y2, σ = [some (.ref a), some (.ref b), some (.ref c0), some (.ref x), some (.ref y), some (.ref z), some (.ref l), none] ∧ Jn T HF G ∧ G l = some (.lst [.ref r1, .ref r2]) ∧ G r1 = some (.lst [.str "told", .ref y1]) ∧ G r2 = some (.lst [.str "told", .ref y2]) ∧ StAt K S G (.ref y1) rn ∧ StAt K S G (.ref y2) rn, ?_, ?_⟩
  · refine ⟨j0.t, fun H3 x3 T3 => ?_⟩
    obtain ⟨x', dx, fs, e, h1, _, h2⟩ := rh (hX.ext x3)
    obtain rfl := V.ref.inj e
    refine ⟨_, rfl, x, dx, fs, rfl, h1, h2, _, rfl, rd_renG (hX.ext x3) (hY.ext x3) lr.symm ht (by decide) g0 i0 wa.gg wb.gg gi w1 fun G4 v4 s4 h4 => ?_⟩
    obtain ⟨y1, rfl⟩ := h4.ref
    refine ⟨(by show 2 ≤ sizeLine; decide), fun r1 n1 => ?_⟩
    have s4' := new_same n1 (HO.lst [V.str "told", .ref y1])
    have e4 : upd G4 r1 (.lst [.str "told", .ref y1]) r1 = some (.lst [.str "told", .ref y1]) := upd_same
    have h4 := h4.same s4'
    generalize upd G4 r1 (.lst [.str "told", .ref y1]) = G4' at s4' e4 h4
    have j4 := ((j0.ext x3 T3).same s4).same s4'
    refine ⟨j4.t, fun H5 t5 x5 T5 ht5 => ⟨ht5, ?_⟩⟩
    have j5 := j4.ext x5 T5
    obtain ⟨x', dx, fs, e, h1, _, h2⟩ := rh (hX.ext j5.e)
    obtain rfl := V.ref.inj e
    refine ⟨_, rfl, x, dx, fs, rfl, h1, h2, _, rfl, rfl, rd_renG (hX.ext j5.e) (hY.ext j5.e) lr.symm ht (by decide) g0 i0 wa.gg wb.gg gi w1 fun G6 v6 s6 h6 => ?_⟩
    obtain ⟨y2, rfl⟩ := h6.ref
    refine ⟨(by show 2 ≤ sizeLine; decide), fun r2 n2 => ?_⟩
    have s6' := new_same n2 (HO.lst [V.str "told", .ref y2])
    refine ⟨(by show 2 ≤ sizeLine; decide), fun l nl => ?_⟩
    have s7 := new_same nl (HO.lst [V.ref r1, .ref r2])
    have s67 := s6'.trans s7
    exact ⟨l, r1, r2, y1, y2, rfl, ((j5.same s6).same s6').same s7, upd_same, s67 _ _ (s6 _ _ (x5 _ _ e4 (fun ps z => by cases z))), s7 _ _ upd_same, ((h4.ext x5).same s6).same s67, h6.same s67⟩
  rintro σ G ⟨l, r1, r2, y1, y2, rfl, j, el, e1, e2, h1, h2⟩
  let Fin : Hp → Prop := fun G => Jn T HF G ∧ G l = some (.lst [.ref r1, .ref r2]) ∧ G r1 = some (.lst [.str "told", .ref y1]) ∧ G r2 = some (.lst [.str "told", .ref y2]) ∧ StAt K S G (.ref y1) rn ∧ StAt K S G (.ref y2) rn
  have fs : ∀ {G G'}, Fin G → Same G G' → Fin G' := fun ⟨j, el, e1, e2, h1, h2⟩ s => ⟨j.same s, s _ _ el, s _ _ e1, s _ _ e2, h1.same s, h2.same s⟩
  have F0 : Fin G := ⟨j, el, e1, e2, h1, h2⟩
  clear j el e1 e2 h1 h2
  refine ⟨fun σ G => σ = [some (.ref a), some (.ref b), some (.ref c0), some (.ref x), some (.ref y), some (.ref z), some (.ref l), none] ∧ Fin G, ?_, ?_⟩
  · obtain ⟨a0, at0', sa⟩ := first_num (ny.ext F0.1.e) (by omega)
    refine ⟨_, rfl, b, ys, _, _, rfl, rfl, SqL.of (ls F0.1.e rb), at0', a0, _, 0, _, rfl, rfl, sa, rfl, rfl, _, rfl, ?_⟩
    rw [decide_eq_false (fun z => nn (V.int.inj z))]
    exact iteF ⟨rfl, F0⟩
  clear F0
  rintro σ G ⟨rfl, F0⟩
  refine ⟨fun σ G => σ = [some (.ref a), some (.ref b), some (.ref c0), some (.ref x), some (.ref y), some (.ref z), some (.ref l), none] ∧ Fin G, ?_, ?_⟩
  · obtain ⟨j, el, e1, e2, h1, h2⟩ := id F0
    refine ⟨_, rfl, l, _, 0, _, rfl, rfl, SqL.of el, rfl, r1, _, 0, _, rfl, rfl, SqL.of e1, rfl, rfl, _, rfl, iteF ?_⟩
    refine ⟨_, rfl, l, _, 1, _, rfl, rfl, SqL.of el, rfl, r2, _, 0, _, rfl, rfl, SqL.of e2, rfl, rfl, _, rfl, iteF ?_⟩
    refine ⟨_, rfl, l, _, 0, _, rfl, rfl, SqL.of el, rfl, r1, _, 1, _, rfl, rfl, SqL.of e1, rfl, _, rfl, a, xs, rfl, .inl (SqL.of (ls j.e ra)), .ref y1, rn, (g + 1 + i) * qs.length, by rw [lx, lrn]; rfl, h1, by have := grn.all; rw [lrn] at this; exact this, by rw [show g + 1 + i = 1 + g + i by omega]; exact w1, fun G2 s2 => ⟨_, rfl, iteF ⟨rfl, fs F0 s2⟩⟩⟩
  clear F0
  rintro σ G ⟨rfl, F0⟩
  refine ⟨fun σ G => ∃ vt, σ = [some (.ref a), some (.ref b), some (.ref c0), some (.ref x), some (.ref y), some (.ref z), some (.ref l), some vt] ∧ Fin G ∧ Ls K G vt rn, ?_, ?_⟩
  · obtain ⟨j, el, e1, e2, h1, h2⟩ := id F0
    obtain ⟨x', dx, fs', e, h3, h4, _⟩ := rh h1
    obtain rfl := V.ref.inj e
    refine ⟨_, rfl, l, _, 0, _, rfl, rfl, SqL.of el, rfl, r1, _, 1, _, rfl, rfl, SqL.of e1, rfl, y1, dx, fs', rfl, h3, h4, .ref y1, rn, rfl, h1, fun b G2 zs s2 nb eb mb => ?_⟩
    exact ⟨_, rfl, fs F0 s2, ⟨b, zs, rfl, eb, mb⟩⟩
  clear F0
  rintro σ G ⟨vt, rfl, F0, hV⟩
  refine ⟨fun σ G => σ = [some (.ref a), some (.ref b), some (.ref c0), some (.ref x), some (.ref y), some (.ref z), some (.ref l), some vt] ∧ Fin G, ?_, ?_⟩
  · obtain ⟨j, el, e1, e2, h1, h2⟩ := id F0
    refine ⟨_, rfl, _, rfl, vt, .ref b, rn, rs, g + 1 + i, g, rfl, hV, hB.ext j.e, by rw [lrn, lr], by omega, by omega, by omega, g0, by rw [lr, show g + 1 + i + g = g + i + 1 + g by omega]; exact w4, grn, wb.gg, fun v2 G2 s2 h3 => ?_⟩
    refine ⟨_, rfl, _, rfl, .ref b, .ref a, rs, qs, g, 1, rfl, hB.ext (j.same s2).e, hA.ext (j.same s2).e, lr, by omega, by omega, g0, by decide, by have := Nat.mul_le_mul_right qs.length (show g + 1 ≤ 1 + g + 1 by omega); omega, wb.gg, wa.gg, fun v3 G3 s3 h4 => ⟨datL _, datL _, (h3.same s3).dp, h4.dp, shaped_list _, shaped_list _, ?_⟩⟩
    rw [eqv_list, decide_eq_true (canc1 (x := cmpL rs qs) (r := rs) (cmpL_len _ _) (by omega) ht)]
    have s23 := s2.trans s3
    obtain ⟨j3, el, e1, e2, h1, h2⟩ := fs F0 s23
    refine ⟨_, rfl, iteF ⟨_, rfl, l, _, 1, _, rfl, rfl, SqL.of el, rfl, r2, _, 1, _, rfl, rfl, SqL.of e2, rfl, _, rfl, .ref y2, vt, rn, rfl, h2, hV.same s23, fun G4 s4 => ⟨_, rfl, iteF ⟨rfl, fs F0 (s23.trans s4)⟩⟩⟩⟩
  clear F0 hV
  rintro σ G ⟨rfl, F0⟩
  refine ⟨fun σ G => σ = [some (.ref a), some (.ref b), some (.ref c0), some (.ref x), some (.ref y), some (.ref z), some (.ref l), some vt] ∧ Fin G, ?_, ?_⟩
  · obtain ⟨j, el, e1, e2, h1, h2⟩ := id F0
    obtain ⟨x', dx, fs', e, h3, _, h4⟩ := rh h1
    obtain rfl := V.ref.inj e
    refine ⟨_, rfl, l, _, 0, _, rfl, rfl, SqL.of el, rfl, r1, _, 1, _, rfl, rfl, SqL.of e1, rfl, y1, dx, fs', rfl, h3, h4, _, rfl, rd_inG (hY.ext j.e) ht g0 i0 wb.gg gi (by rw [lr]; have := Nat.mul_le_mul_right qs.length (show g + i ≤ 1 + g + i by omega); omega) fun G2 v2 s2 h5 => ?_⟩
    have gii : Gr g (invL (invL rs)) := by rw [inv_inv (by omega) ht]; exact wb.gg
    refine rd_renG (h1.same s2) h5 (by rw [lrn, li, lr]) hti (show 1 ≤ g + 1 + i by omega) i0 g0 grn gi gii (by rw [lrn, show g + 1 + i + i + g = 2 * g + 2 * i + 1 by omega]; exact w3) fun G3 v3 s3 h6 => ?_
    have eq : cmpL (cmpL (invL rs) rn) (invL (invL rs)) = qs := by
      rw [inv_inv (by omega) ht, cmp_assoc (by rw [li, lrn, lr])]
      show cmpL (invL rs) (cmpL (cmpL (cmpL rs qs) (invL rs)) rs) = qs
      rw [canc1 (cmpL_len _ _) (by omega) ht, canc3 lr.symm (by omega) ht]
    rw [eq] at h6
    have s23 := s2.trans s3
    exact ⟨_, rfl, _, _, qs, rfl, h6, hA.ext (j.same s23).e, fun G4 s4 => ⟨_, rfl, iteF ⟨rfl, fs F0 (s23.trans s4)⟩⟩⟩
  clear F0
  rintro σ G ⟨rfl, F0⟩
  refine ⟨fun σ G => σ = [some (.ref a), some (.ref b), some (.ref c0), some (.ref x), some (.ref y), some (.ref z), some (.ref l), some vt] ∧ Fin G ∧ Trn ts, ?_, ?_⟩
  · obtain ⟨j, _⟩ := id F0
    obtain ⟨a0, at0', sa⟩ := first_num (nz.ext j.e) (by omega)
    refine ⟨_, rfl, c0, zs, _, _, rfl, rfl, SqL.of (ls j.e rc), at0', a0, _, 0, _, rfl, rfl, sa, rfl, rfl, _, rfl, ?_⟩
    by_cases tc : Trn ts
    · rw [decide_eq_false (fun z => trn_num.mp tc (V.int.inj z))]
      exact iteF ⟨rfl, F0, tc⟩
    · rw [decide_eq_true (show V.int (ts.getD 0 0).num = V.int 0 from congrArg V.int (Classical.byContradiction fun z => tc (trn_num.mpr z)))]
      exact iteT (q' _ j)
  clear F0
  rintro σ G ⟨rfl, ⟨j, _⟩, tc⟩
  have gci := wc.gi tc
  have lci : (invL ts).length = ts.length := invL_len ts
  have tr : Trn (cmpL ts rs) := cmp_trn (by rw [lt, lr]) (by omega) tc ht
  have eh : invL (cmpL ts rs) = cmpL (invL rs) (invL ts) := inv_mul (by rw [lt, lr]) (by omega) tc ht
  have ghi : Gr (i + 4) (invL (cmpL ts rs)) := by
    rw [eh]
    exact gi.cmp gci (by rw [li, lci, lt, lr]) (by omega)
  have eqr : cmpL (cmpL ts rn) (invL ts) = cmpL (cmpL (cmpL ts rs) qs) (invL (cmpL ts rs)) := by
    have e1 : cmpL ts rn = cmpL (cmpL (cmpL ts rs) qs) (invL rs) := by
      show cmpL ts (cmpL (cmpL rs qs) (invL rs)) = _
      rw [← cmp_assoc (qs := ts) (rs := cmpL rs qs) (by rw [cmpL_len, lt, lr]), ← cmp_assoc (qs := ts) (rs := rs) (by rw [lt, lr])]
    rw [eh, e1, cmp_assoc (qs := cmpL (cmpL ts rs) qs) (by rw [cmpL_len, cmpL_len, li, lt, lr])]
  obtain ⟨x', dx, fs', e, h1, _, h2⟩ := rh (hX.ext j.e)
  obtain rfl := V.ref.inj e
  refine ⟨_, rfl, x, dx, fs', rfl, h1, h2, _, rfl, rd_renG (hX.ext j.e) (hY.ext j.e) lr.symm ht (by decide) g0 i0 wa.gg wb.gg gi w1 fun G2 v2 s2 h3 => ?_⟩
  have j2 := j.same s2
  obtain ⟨y3, dy, gs, rfl, h4, _, h5⟩ := rh h3
  refine ⟨y3, dy, gs, rfl, h4, h5, _, rfl, rd_renG h3 (hZ.ext j2.e) (by rw [lrn, lt]) tc (show 1 ≤ g + 1 + i by omega) (by decide) (by decide) grn wc.gg gci (by rw [lrn, show g + 1 + i + 1 + 4 = g + i + 1 + 1 + 4 by omega]; exact w5) fun G3 v3 s3 h6 => ?_⟩
  have j3 := j2.same s3
  obtain ⟨x', dx, fs', e, h1, _, h2⟩ := rh (hX.ext j3.e)
  obtain rfl := V.ref.inj e
  refine ⟨_, rfl, x, dx, fs', rfl, h1, h2, _, rfl, _, rfl, rd_smG (hZ.ext j3.e) (hY.ext j3.e) (by rw [lt, lr]) (by decide) g0 wc.gg wb.gg (by rw [lt]; have := Nat.mul_le_mul_right qs.length (show 1 + g ≤ 1 + g + 1 by omega); omega) fun G4 v4 s4 h7 => ?_⟩
  have j4 := j3.same s4
  refine rd_renG (hX.ext j4.e) h7 (by rw [cmpL_len, lt]) tr (by decide) (show 1 ≤ 1 + g by omega) (show 1 ≤ i + 4 by omega) wa.gg (wc.gg.cmp wb.gg (by rw [lt, lr]) (by omega)) ghi w6 fun G5 v5 s5 h8 => ?_
  have j5 := j4.same s5
  obtain ⟨y5, dy5, gs5, rfl, h9, h10, _⟩ := rh h8
  refine ⟨y5, dy5, gs5, rfl, h9, h10, .ref y5, _, rfl, h8, fun b6 G6 ws s6 n6 e6 m6 => ?_⟩
  have h11 := h6.same (s4.trans (s5.trans s6))
  rw [eqr] at h11
  refine ⟨_, _, _, rfl, h11, ⟨b6, ws, rfl, e6, m6⟩, fun G7 s7 => ⟨_, rfl, iteT ?_⟩⟩
  have j7 := (j5.same s6).same s7
  obtain ⟨y', dy', gs', e, h12, h13, _⟩ := rh (hY.ext j7.e)
  obtain rfl := V.ref.inj e
  refine ⟨_, rfl, y, dy', gs', rfl, h12, h13, .ref y, rs, rfl, hY.ext j7.e, fun b8 G8 ws8 s8 n8 e8 m8 => ?_⟩
  exact ⟨_, rfl, _, _, rfl, Ls.lk (n := 2) ⟨b8, ws8, rfl, e8, m8⟩ (hB.ext (j7.same s8).e) (by omega), fun H' s' => q' _ ((j7.same s8).same s')⟩
end
end Kx
end
section
set_option maxHeartbeats 4000000
namespace Kx
open PySem PySem.Spec PyProof.Rows L2 RZ
abbrev nExo : List Str := ["_law_a", "_law_b", "_law_f", "_law_g", "_law_one", "_law_two", "_law_some", "_law_told"]
def spExo (K : PySem.W.Frag) (T : List (Addr × Str)) : Sp := fun vs H Q _ => ∃ (x y : V) (qs rs : List Rat) (g i a b : Nat), vs = [x, y] ∧ Ls K H x qs ∧ Ls K H y rs ∧ rs.length = qs.length ∧ 2 ≤ qs.length ∧ qs.length ≤ 7 ∧ Wt a b qs ∧ Wt g i rs ∧ LamX.Tabs T H ∧
  ∀ H', LamX.Tabs T H' → LamX.ExtN H H' → Q (.bl true) H'
section
variable {P : Program} {w : World} {K : PySem.W.Frag} {mg : Str → Option Value} {base : Heap} {f c Pt C S CF CO CL CE : Addr} {cs : Fin 2 → Addr} {fd : FuncData} {T : List (Addr × Str)}
theorem rd_excG {H : Hp} {vx vy : V} {qs rs : List Rat} {a b c d : Nat} {E : XK} {R : VK} (hX : StAt K S H vx qs) (hY : StAt K S H vy rs) (le : qs.length = rs.length) (h1 : Trn qs) (h2 : Trn rs) (a1 : 1 ≤ a) (b1 : 1 ≤ b) (c1 : 1 ≤ c) (d1 : 1 ≤ d) (ga : Gr a qs) (gb : Gr b rs) (gc : Gr c (invL qs)) (gd : Gr d (invL rs)) (w1 : (a + b + c + d) * qs.length ≤ 130)
    (q : ∀ H' y, Same H H' → StAt K S H' y (cmpL (cmpL (cmpL qs rs) (invL qs)) (invL rs)) → R y H') : spExc K S (cs 0) (cs 1) [vx, vy] H R E :=
  ⟨vx, vy, qs, rs, rfl, hX, hY, fun n => absurd le n, fun _ => ⟨a, b, c, d, a1, b1, c1, d1, ga, gb, fun _ => gc, fun _ => gd, w1, fun n => by rcases n with n | n <;> exact absurd (by assumption) n, fun _ _ => q⟩⟩
theorem rd_excX {H : Hp} {vx vy : V} {qs rs : List Rat} {a b c d : Nat} {E : XK} {R : VK} (hX : StAt K S H vx qs) (hY : StAt K S H vy rs) (le : qs.length = rs.length) (wa : Wt a c qs) (wb : Wt b d rs) (h : ¬ Trn qs ∨ ¬ Trn rs) (w1 : (a + b + c + d) * qs.length ≤ 130) (q : Air H (cs 1) (fs0 "CantTurn" []) E) : spExc K S (cs 0) (cs 1) [vx, vy] H R E :=
  ⟨vx, vy, qs, rs, rfl, hX, hY, fun n => absurd le n, fun _ => ⟨a, b, c, d, wa.g0, wb.g0, wa.i0, wb.i0, wa.gg, wb.gg, wa.gi, wb.gi, w1, fun _ => q, fun h1 h2 => by rcases h with n | n <;> exact absurd (by assumption) n⟩⟩
theorem rd_trd {H : Hp} {vx vy : V} {qs rs : List Rat} {a b : Nat} {E : XK} {R : VK} (hX : StAt K S H vx qs) (hY : StAt K S H vy rs) (le : qs.length = rs.length) (a1 : 1 ≤ a) (b1 : 1 ≤ b) (ga : Gr a qs) (gb : Gr b rs) (w1 : (a + b) * qs.length ≤ 200) (q : ∀ H', Same H H' → R (.bl (decide (cmpL qs rs = cmpL rs qs))) H') : spTrd K S (cs 0) [vx, vy] H R E :=
  ⟨vx, vy, qs, rs, rfl, hX, hY, fun n => absurd le n, fun _ => ⟨a, b, a1, b1, ga, gb, w1, q⟩⟩
theorem scExo : FnScope nExo ["_law_a", "_law_b"] (defScope L_exchange_so) := ⟨rfl, rfl, rfl, by decide +kernel, rfl, by decide +kernel, by decide +kernel⟩
theorem ok_exchangeso (F : FunC K "_law_exchange_so" "_law_exchange_so" L_exchange_so f fd c) (U : Kit6 P w K mg base C S CF CO CL CE cs)
    (TB : LamX.TabB base mg c Pt) (hmT : (Pt, ((("_law_exchange_so" : Str) ++ ".<locals>.") ++ "<lambda>" : Str)) ∈ T) (hu : ∀ p ∈ T, p.1 = Pt → p.2 = ((("_law_exchange_so" : Str) ++ ".<locals>.") ++ "<lambda>" : Str)) : FnOk P w K mg base CX0 12 f fd ["_law_a", "_law_b"] (spExo K T) := by
  refine F.ok scExo (fun vs H Q E h => ?_) (fun A outer s H vs Q E hr h => ?_)
  · obtain ⟨x, y, qs, rs, g, i, a, b, rfl, _⟩ := h
    rfl
  obtain ⟨x0, y0, qs, rs, g, i, e, d, rfl, hA, hB, lr, l2, l7, wa, wb, hT, q⟩ := h
  have hr1 := hr.mono (show 1 ≤ 11 by decide)
  have hr2 := hr.mono (show 2 ≤ 11 by decide)
  have hr5 := hr.mono (show 5 ≤ 11 by decide)
  have hr6 := hr.mono (show 6 ≤ 11 by decide)
  have hr7 := hr.mono (show 7 ≤ 11 by decide)
  have hr8 := hr.mono (show 8 ≤ 11 by decide)
  have hr9 := hr.mono (show 9 ≤ 11 by decide)
  obtain ⟨gA, fdA, FA, bA, mA⟩ := U.ask
  obtain ⟨oc, od, kV, doc, pm, an, cdv, ct, osl, rfl, lkA, hcdA⟩ := FA.ex
  obtain ⟨fF, fdF, PF, bF, kF, mF⟩ := U.flt
  obtain ⟨fI, fdI, MI, FI, bI⟩ := U.sk.ini
  refine ⟨_, C8.pss_cut (ps_asg (pe_tup (pa_cons (pe_make (E := fun _ _ _ => False) MI FI hr7 rfl U.sk.m bI .nil passF (pa_cons (pv 0) pa_nil)) (pa_cons (pe_make (E := fun _ _ _ => False) MI FI hr7 rfl U.sk.m bI .nil passF (pa_cons (pv 1) pa_nil)) pa_nil))) (pg_tup rfl (pgs_cons (pg_name (i := 2) scExo.nd rfl (Or.inr rfl)) (pgs_cons (pg_name (i := 3) scExo.nd rfl (Or.inr rfl)) pgs_nil))))
    (C8.pss_cut (ps_par (i := 4) (j := 5) rfl scExo.nd rfl rfl (by decide) rfl rfl (pa_cons (pe_use U.behd hr5 rfl pass0 (pa_cons (pv 0) (pa_cons (pv 1) pa_nil))) (pa_cons (pe_use U.behd hr5 rfl pass0 (pa_cons (pv 1) (pa_cons (pv 0) pa_nil))) pa_nil)) rfl)
    (C8.pss_cut (ps_if (pt_not (pt_val (pe_use U.lik hr6 rfl pass0 (pa_cons (pe_lst (pa_cons (pe_use (E := fun _ _ _ => False) U.trd hr9 rfl passF (pa_cons (pv 2) (pa_cons (pv 3) pa_nil))) (pa_cons (pe_useR (E := fun _ _ _ => False) (ks := ["other", "one"]) U.trd hr9 rfl passF rfl (pk_cons (pv 3) (pk_cons (pv 2) pk_nil)) (by simp)) (pa_cons (pe_use (E := fun _ _ _ => False) U.trd hr9 rfl passF (pa_cons (pv 3) (pa_cons (pv 2) pa_nil))) pa_nil)))) (pa_cons (pe_lst (pa_cons (pe_cmpR (op_eqD hr.units) (pv 4) (pv 5) (nomark _)) (pa_cons (pe_cmpR (op_eqD hr.units) (pv 4) (pv 5) (nomark _)) (pa_cons (pe_cmpR (op_eqD hr.units) (pv 4) (pv 5) (nomark _)) pa_nil)))) pa_nil))))) (pss_one (ps_ret pe_bl)) pss_nil)
    (C8.pss_cut (ps_set (i := 6) scExo.nd rfl (Or.inl rfl) (pe_lst (pa_cons (LamX.pe_lamcall (k := 9) (t := fun E => tCall (spExc K S (cs 0) (cs 1)) [] E (tCons (tVar 2) (tCons (tVar 3) tNil))) (TT := TAsk2 cs) rfl mA FA.kp lkA hcdA bA scAsk rfl (Or.inl rfl) (ask_gives2 (hr.mono (by decide)) PF bF kF mF U.mC U.e1) TB rfl hmT hu hr (LamX.lamS_by (show LamX.lamSB (defScope L_exchange_so) _ = true by decide +kernel)) rfl (fun _ _ _ _ _ => rfl)
      (fun A outer s H E f c' hk => pe_use U.exc hk rfl (passes_call (takes_of rfl rfl rfl rfl) (fun _ _ _ _ h => h)) (pa_cons (pv 2) (pa_cons (pv 3) pa_nil)))) (pa_cons (LamX.pe_lamcallD (k := 9) (kd := 0) (px := "_law_x") (t := fun E => tCallR 2 (spExc K S (cs 0) (cs 1)) E (tCons (tVar 3) (tCons (tVar 2) tNil))) (TT := TAsk2 cs) rfl mA FA.kp lkA hcdA bA scAsk rfl (Or.inl rfl) (ask_gives2 (hr.mono (by decide)) PF bF kF mF U.mC U.e1) TB rfl hmT hu hr (LamX.lamD_by (show LamX.lamDB nExo (defScope L_exchange_so) _ "_law_x" = true by decide +kernel)) rfl (fun _ _ _ _ _ _ _ => ⟨_, rfl, rfl⟩)
      (fun A outer s H E f c' hk => pe_useR (ks := ["other", "one"]) U.exc hk rfl (passes_call (takes_of rfl rfl rfl rfl) (fun _ _ _ _ h => h)) rfl (pk_cons (pv 3) (pk_cons (pv 2) pk_nil)) (by simp))) pa_nil))))
    (C8.pss_cut (ps_if (PW.pt (pw_or (pt_cmpR op_eq (pe_ix ix_tup (pe_ix ix_list (pv 0) pe_int (fun _ _ => rfl)) pe_int (fun _ _ => rfl)) pe_int (nomark _)) (pw_or1 (pt_cmpR op_eq (pe_ix ix_tup (pe_ix ix_list (pv 1) pe_int (fun _ _ => rfl)) pe_int (fun _ _ => rfl)) pe_int (nomark _))))) (pss_one (ps_ret (pe_use U.lik hr6 rfl pass0 (pa_cons (pv 6) (pa_cons (pe_lst (pa_cons (pe_lst (pa_cons pe_str pa_nil)) (pa_cons (pe_lst (pa_cons pe_str pa_nil)) pa_nil))) pa_nil))))) pss_nil)
    (C8.pss_cut (ps_if (PW.pt (pw_or (pt_cmpR op_ne (pe_ix ix_list (pe_ix ix_list (pv 6) pe_int (fun _ _ => rfl)) pe_int (fun _ _ => rfl)) pe_str (nomark _)) (pw_or (pt_cmpR op_ne (pe_ix ix_list (pe_ix ix_list (pv 6) pe_int (fun _ _ => rfl)) pe_int (fun _ _ => rfl)) pe_str (nomark _)) (pw_or1 (pt_not (pt_val (pe_use U.nso hr7 rfl pass0 (pa_cons (pe_ix ix_list (pe_ix ix_list (pv 6) pe_int (fun _ _ => rfl)) pe_int (fun _ _ => rfl)) (pa_cons (pe_callB call_len_seq rfl U.mn PySem.boot_len (pa_cons (pv 0) pa_nil)) pa_nil))))))))) (pss_one (ps_ret pe_bl)) pss_nil)
    (C8.pss_cut (ps_set (i := 7) scExo.nd rfl (Or.inl rfl) (pe_mu0 U.snum (pe_ix ix_list (pe_ix ix_list (pv 6) pe_int (fun _ _ => rfl)) pe_int (fun _ _ => rfl)) hr1 pass0))
    (pss_one (ps_ret (pe_and (pe_cmpR (op_eqD hr.units) (pe_use U.behd hr5 rfl pass0 (pa_cons (pv 7) (pa_cons (pv 5) pa_nil))) (pv 4) (nomark _)) (pe_one (pe_use U.sso hr7 rfl pass0 (pa_cons (pe_ix ix_list (pe_ix ix_list (pv 6) pe_int (fun _ _ => rfl)) pe_int (fun _ _ => rfl)) (pa_cons (pv 7) pa_nil))))))))))))), ?_⟩
  obtain ⟨a, xs, rfl, ha, nx⟩ := id hA
  obtain ⟨b, ys, rfl, hb, ny⟩ := id hB
  have lx : xs.length = qs.length := nx.1
  refine ⟨fun σ G => ∃ x y, σ = [some (.ref a), some (.ref b), some (.ref x), some (.ref y), none, none, none, none] ∧ Jn T H G ∧ StAt K S G (.ref x) qs ∧ StAt K S G (.ref y) rs, ?_, ?_⟩
  · refine ⟨_, rfl, fun x dx xn dn en => step_newG (.inl ha) nx l2 (by omega) xn dn en fun G1 s1 hX => ⟨rfl, ?_⟩⟩
    clear xn dn en dx
    refine ⟨_, rfl, fun y dy xn dn en => step_newG (.inl (s1 _ _ hb)) (ny.same s1) (by omega) (by omega) xn dn en fun G2 s2 hY => ⟨rfl, ?_⟩⟩
    refine ⟨(by show 2 ≤ sizeLine; decide), fun t nt => ?_⟩
    have s4 := new_same nt (HO.tup [V.ref x, V.ref y])
    have j0 : Jn T H H := ⟨hT, LamX.ExtN.refl H⟩
    exact ⟨t, _, rfl, SqT.of upd_same, rfl, _, _, rfl, _, _, rfl, rfl, x, y, rfl, ((j0.same s1).same s2).same s4, hX.same (s2.trans s4), hY.same s4⟩
  rintro σ HF ⟨x, y, rfl, jF, hX, hY⟩
  have hA := hA.ext jF.e
  have hB := hB.ext jF.e
  have nx := nx.ext jF.e
  have ny := ny.ext jF.e
  have ra : HF a = some (.lst xs) := jF.e _ _ ha (fun ps z => by cases z)
  have rb : HF b = some (.lst ys) := jF.e _ _ hb (fun ps z => by cases z)
  have q' : ∀ G, Jn T HF G → Q (.bl true) G := fun G j => q G j.t (jF.e.trans j.e)
  have j0 : Jn T HF HF := ⟨jF.t, LamX.ExtN.refl HF⟩
  clear ha hb hT q jF
  have ls : ∀ {G : Hp} {d : Addr} {zs : List V}, LamX.ExtN HF G → HF d = some (.lst zs) → G d = some (.lst zs) := fun e h => e _ _ h (fun ps z => by cases z)
  have rh : ∀ {G : Hp} {v : V} {us : List Rat}, StAt K S G v us → ∃ x dx fs, v = .ref x ∧ G x = some (.ins S dx fs) ∧ fs.lookup ("numbers" : Str) = none ∧ fs.lookup ("renamed" : Str) = none := fun h => by
    obtain ⟨x', dx, fs, _, e, h1, _, _, h2, _, h3, _⟩ := h.ld
    exact ⟨x', dx, fs, e, h1, h2, h3⟩
  have l1 : 1 ≤ qs.length := by omega
  have w130 : (e + g + d + i) * qs.length ≤ 130 ∧ (e + g + d + i + (g + e)) * qs.length ≤ 130 ∧ (e + g) * qs.length ≤ 130 := by
    have k1 := wb.k
    have k2 := wa.k
    rw [lr] at k1
    rcases k1 with ⟨rfl, rfl⟩ | ⟨rfl, rfl, h4⟩ <;> rcases k2 with ⟨rfl, rfl⟩ | ⟨rfl, rfl, h4'⟩ <;> omega
  obtain ⟨w1, w2, w3⟩ := w130
  have g0 := wb.g0
  have i0 := wb.i0
  have e0 := wa.g0
  have d0 := wa.i0
  let one := cmpL qs rs
  let two := cmpL rs qs
  have l1' : one.length = qs.length := cmpL_len _ _
  have l2' : two.length = qs.length := by show (cmpL _ _).length = _; rw [cmpL_len, lr]
  refine ⟨fun σ G => ∃ v4 v5, σ = [some (.ref a), some (.ref b), some (.ref x), some (.ref y), some v4, some v5, none, none] ∧ Jn T HF G ∧ Ls K G v4 one ∧ Ls K G v5 two, ?_, ?_⟩
  · refine ⟨_, rfl, _, rfl, .ref a, .ref b, qs, rs, e, g, rfl, hA, hB, lr.symm, by omega, by omega, e0, g0, by rw [lr]; exact w3, wa.gg, wb.gg, fun v4 G2 s2 h2 => ?_⟩
    refine ⟨_, rfl, _, rfl, .ref b, .ref a, rs, qs, g, e, rfl, hB.same s2, hA.same s2, lr, by omega, by omega, g0, e0, by rw [Nat.add_comm]; exact w3, wb.gg, wa.gg, fun v5 G3 s3 h3 => ?_⟩
    exact ⟨_, _, rfl, v4, v5, rfl, (j0.same s2).same s3, h2.same s3, h3⟩
  clear j0
  rintro σ G ⟨v4, v5, rfl, j, h4, h5⟩
  refine ⟨fun σ G => σ = [some (.ref a), some (.ref b), some (.ref x), some (.ref y), some v4, some v5, none, none] ∧ Jn T HF G ∧ Ls K G v4 one ∧ Ls K G v5 two, ?_, ?_⟩
  · refine ⟨_, rfl, _, rfl, ?_⟩
    dsimp only [tNil, List.append_nil, List.nil_append, List.cons_append, List.reverse_cons, List.reverse_nil]
    refine rd_trd (cs := cs) (hX.ext j.e) (hY.ext j.e) lr.symm e0 g0 wa.gg wb.gg (by omega) fun G2 s2 => ?_
    have j2 := j.same s2
    refine ⟨_, rfl, _, rfl, rfl, ?_⟩
    dsimp only [tNil, List.append_nil, List.nil_append, List.cons_append, List.reverse_cons, List.reverse_nil]
    refine rd_trd (cs := cs) (hX.ext j2.e) (hY.ext j2.e) lr.symm e0 g0 wa.gg wb.gg (by omega) fun G3 s3 => ?_
    have j3 := j2.same s3
    refine ⟨_, rfl, _, rfl, ?_⟩
    dsimp only [tNil, List.append_nil, List.nil_append, List.cons_append, List.reverse_cons, List.reverse_nil]
    refine rd_trd (cs := cs) (hY.ext j3.e) (hX.ext j3.e) lr g0 e0 wb.gg wa.gg (by rw [lr, Nat.add_comm]; omega) fun G4 s4 => ?_
    refine ⟨(by show 3 ≤ sizeLine; decide), fun l nl => ?_⟩
    have s5 := new_same nl (HO.lst [V.bl (decide (cmpL qs rs = cmpL rs qs)), .bl (decide (cmpL qs rs = cmpL rs qs)), .bl (decide (cmpL rs qs = cmpL qs rs))])
    have sA := s2.trans (s3.trans (s4.trans s5))
    have el : upd G4 l (HO.lst [V.bl (decide (cmpL qs rs = cmpL rs qs)), .bl (decide (cmpL qs rs = cmpL rs qs)), .bl (decide (cmpL rs qs = cmpL qs rs))]) l = some (HO.lst [V.bl (decide (cmpL qs rs = cmpL rs qs)), .bl (decide (cmpL qs rs = cmpL rs qs)), .bl (decide (cmpL rs qs = cmpL qs rs))]) := upd_same
    generalize upd G4 l (HO.lst [V.bl (decide (cmpL qs rs = cmpL rs qs)), .bl (decide (cmpL qs rs = cmpL rs qs)), .bl (decide (cmpL rs qs = cmpL qs rs))]) = G5 at sA el
    have b4 := h4.same sA
    have b5 := h5.same sA
    refine ⟨_, rfl, _, rfl, datL one, datL two, b4.dp, b5.dp, shaped_list _, shaped_list _, ?_⟩
    rw [eqv_list]
    refine ⟨_, rfl, _, rfl, datL one, datL two, b4.dp, b5.dp, shaped_list _, shaped_list _, ?_⟩
    rw [eqv_list]
    refine ⟨_, rfl, _, rfl, datL one, datL two, b4.dp, b5.dp, shaped_list _, shaped_list _, ?_⟩
    rw [eqv_list]
    refine ⟨(by show 3 ≤ sizeLine; decide), fun l' nl' => ?_⟩
    have s6 := new_same nl' (HO.lst [V.bl (decide (one = two)), .bl (decide (one = two)), .bl (decide (one = two))])
    have sy : decide (cmpL rs qs = cmpL qs rs) = decide (one = two) := decide_eq_decide.mpr ⟨Eq.symm, Eq.symm⟩
    refine ⟨_, _, rfl, Lk.lst (n := 3) (s6 _ _ el) upd_same (by show 3 ≤ 60; decide) (.cons (Lk.flat rfl) (.cons (Lk.flat rfl) (.cons (by rw [sy]; exact Lk.flat rfl) .nil))), fun H' s' => ⟨_, rfl, iteF ?_⟩⟩
    have sB := sA.trans (s6.trans s')
    exact ⟨rfl, j.same sB, h4.same sB, h5.same sB⟩
  clear j h4 h5
  rintro σ G ⟨rfl, j, h4, h5⟩
  have zero : ∀ {us : List Rat}, ¬ Trn us → V.int (us.getD 0 0).num = V.int 0 := fun h => congrArg V.int (Classical.byContradiction fun z => h (trn_num.mpr z))
  by_cases ht : Trn qs ∧ Trn rs
  case neg =>
    have ht' : ¬ Trn qs ∨ ¬ Trn rs := Classical.not_and_iff_not_or_not.mp ht
    refine ⟨fun σ G => ∃ l r1 r2, σ = [some (.ref a), some (.ref b), some (.ref x), some (.ref y), some v4, some v5, some (.ref l), none] ∧ Jn T HF G ∧ G l = some (.lst [.ref r1, .ref r2]) ∧ G r1 = some (.lst [.str "CantTurn"]) ∧ G r2 = some (.lst [.str "CantTurn"]), ?_, ?_⟩
    · refine ⟨j.t, fun H3 x3 T3 => ?_⟩
      have j3 := j.ext x3 T3
      refine ⟨_, rfl, _, rfl, rd_excX (hX.ext j3.e) (hY.ext j3.e) lr.symm wa wb ht' w1 (air_ct fun r1 G4 s4 e4 => ?_)⟩
      have j4 := j3.same s4
      refine ⟨j4.t, fun H5 t5 x5 T5 ht5 => ⟨ht5, ?_⟩⟩
      have j5 := j4.ext x5 T5
      refine ⟨_, rfl, _, rfl, rfl, rd_excX (hX.ext j5.e) (hY.ext j5.e) lr.symm wa wb ht' w1 (air_ct fun r2 G6 s6 e6 => ?_)⟩
      refine ⟨(by show 2 ≤ sizeLine; decide), fun l nl => ?_⟩
      have s7 := new_same nl (HO.lst [V.ref r1, .ref r2])
      exact ⟨l, r1, r2, rfl, (j5.same s6).same s7, upd_same, s7 _ _ (s6 _ _ (x5 _ _ e4 (fun ps z => by cases z))), s7 _ _ e6⟩
    clear j h4 h5
    rintro σ G ⟨l, r1, r2, rfl, j, el, e1, e2⟩
    refine ⟨fun _ _ => False, ?_, fun _ _ z => z.elim⟩
    have fin : (fun (v : V) (H1 : Hp) => Q v H1) (.bl true) G ∨ True := .inr trivial
    have go : ∀ {R : VK}, (∀ H', Jn T HF H' → R (.bl true) H') → (1 ≤ sizeLine ∧ ∀ d1, G d1 = none → 1 ≤ sizeLine ∧ ∀ d2, upd G d1 (.lst [.str "CantTurn"]) d2 = none → 2 ≤ sizeLine ∧ ∀ d3, upd (upd G d1 (.lst [.str "CantTurn"])) d2 (.lst [.str "CantTurn"]) d3 = none → spLike K S 4 [.ref l, .ref d3] (upd (upd (upd G d1 (.lst [.str "CantTurn"])) d2 (.lst [.str "CantTurn"])) d3 (.lst [.ref d1, .ref d2])) R E0) := fun {R} hR =>
      ⟨(by show 1 ≤ sizeLine; decide), fun d1 n1 => ⟨(by show 1 ≤ sizeLine; decide), fun d2 n2 => ⟨(by show 2 ≤ sizeLine; decide), fun d3 n3 => by
        have t1 := new_same n1 (HO.lst [V.str "CantTurn"])
        have t2 := new_same n2 (HO.lst [V.str "CantTurn"])
        have t3 := new_same n3 (HO.lst [V.ref d1, .ref d2])
        have t23 := t2.trans t3
        have tA := t1.trans t23
        have lk : ∀ {r d : Addr} {G' : Hp}, G' r = some (.lst [.str "CantTurn"]) → G' d = some (.lst [.str "CantTurn"]) → Lk K S 3 G' (.ref r) (.ref d) := fun h h' => Lk.lst (n := 2) h h' (by show 1 ≤ 60; decide) (.cons (Lk.flat rfl) .nil)
        exact ⟨_, _, rfl, Lk.lst (n := 3) (tA _ _ el) upd_same (by show 2 ≤ 60; decide) (.cons (lk (tA _ _ e1) (t23 _ _ upd_same)) (.cons (lk (tA _ _ e2) (t3 _ _ upd_same)) .nil)), fun H' s' => hR _ (j.same (tA.trans s'))⟩⟩⟩⟩
    obtain ⟨a0, at0, sa⟩ := first_num (nx.ext j.e) l1
    refine ⟨_, rfl, a, xs, _, _, rfl, rfl, SqL.of (ls j.e ra), at0, a0, _, 0, _, rfl, rfl, sa, rfl, rfl, _, rfl, ?_⟩
    by_cases t1 : Trn qs
    · rw [decide_eq_false (fun z => trn_num.mp t1 (V.int.inj z))]
      refine iteF ?_
      obtain ⟨b0, bt0, sb⟩ := first_num (ny.ext j.e) (by omega)
      refine ⟨_, rfl, b, ys, _, _, rfl, rfl, SqL.of (ls j.e rb), bt0, b0, _, 0, _, rfl, rfl, sb, rfl, rfl, _, rfl, ?_⟩
      rw [decide_eq_true (zero (ht'.resolve_left (fun n => n t1)))]
      exact iteT ⟨_, rfl, go q'⟩
    · rw [decide_eq_true (zero t1)]
      exact iteT ⟨_, rfl, go q'⟩
  obtain ⟨t1, t2⟩ := ht
  have gd := wa.gi t1
  have gi := wb.gi t2
  have li : (invL rs).length = rs.length := invL_len rs
  have lj : (invL qs).length = qs.length := invL_len qs
  let xn := cmpL (cmpL one (invL qs)) (invL rs)
  have lxn : xn.length = qs.length := by show (cmpL _ _).length = _; rw [cmpL_len, cmpL_len, l1']
  have gone : Gr (e + g) one := wa.gg.cmp wb.gg lr.symm (by omega)
  have gtwo : Gr (g + e) two := wb.gg.cmp wa.gg lr (by omega)
  have gxn : Gr (e + g + d + i) xn := (gone.cmp gd (by rw [l1', lj]) (by omega)).cmp gi (by rw [cmpL_len, l1', li, lr]) (by rw [cmpL_len]; omega)
  refine ⟨fun σ G => ∃ l r1 r2 y1 y2, σ = [some (.ref a), some (.ref b), some (.ref x), some (.ref y), some v4, some v5, some (.ref l), none] ∧ Jn T HF G ∧ Ls K G v4 one ∧ Ls K G v5 two ∧ G l = some (.lst [.ref r1, .ref r2]) ∧ G r1 = some (.lst [.str "told", .ref y1]) ∧ G r2 = some (.lst [.str "told", .ref y2]) ∧ StAt K S G (.ref y1) xn ∧ StAt K S G (.ref y2) xn, ?_, ?_⟩
  · refine ⟨j.t, fun H3 x3 T3 => ?_⟩
    have j3 := j.ext x3 T3
    refine ⟨_, rfl, _, rfl, rd_excG (hX.ext j3.e) (hY.ext j3.e) lr.symm t1 t2 e0 g0 d0 i0 wa.gg wb.gg gd gi w1 fun G4 v4' s4 h6 => ?_⟩
    obtain ⟨y1, rfl⟩ := h6.ref
    refine ⟨(by show 2 ≤ sizeLine; decide), fun r1 n1 => ?_⟩
    have s4' := new_same n1 (HO.lst [V.str "told", .ref y1])
    have e4 : upd G4 r1 (.lst [.str "told", .ref y1]) r1 = some (.lst [.str "told", .ref y1]) := upd_same
    have h6 := h6.same s4'
    generalize upd G4 r1 (.lst [.str "told", .ref y1]) = G4' at s4' e4 h6
    have s44 := s4.trans s4'
    have j4 := j3.same s44
    refine ⟨j4.t, fun H5 t5 x5 T5 ht5 => ⟨ht5, ?_⟩⟩
    have j5 := j4.ext x5 T5
    refine ⟨_, rfl, _, rfl, rfl, rd_excG (hX.ext j5.e) (hY.ext j5.e) lr.symm t1 t2 e0 g0 d0 i0 wa.gg wb.gg gd gi w1 fun G6 v6 s6 h7 => ?_⟩
    obtain ⟨y2, rfl⟩ := h7.ref
    refine ⟨(by show 2 ≤ sizeLine; decide), fun r2 n2 => ?_⟩
    have s6' := new_same n2 (HO.lst [V.str "told", .ref y2])
    refine ⟨(by show 2 ≤ sizeLine; decide), fun l nl => ?_⟩
    have s7 := new_same nl (HO.lst [V.ref r1, .ref r2])
    have s67 := s6'.trans s7
    have k4 := (((((h4.ext x3).same s44).ext x5).same s6).same s67)
    have k5 := (((((h5.ext x3).same s44).ext x5).same s6).same s67)
    exact ⟨l, r1, r2, y1, y2, rfl, ((j5.same s6).same s6').same s7, k4, k5, upd_same, s67 _ _ (s6 _ _ (x5 _ _ e4 (fun ps z => by cases z))), s7 _ _ upd_same, ((h6.ext x5).same s6).same s67, h7.same s67⟩
  clear j h4 h5
  rintro σ G ⟨l, r1, r2, y1, y2, rfl, j, h4, h5, el, e1, e2, h1, h2⟩
  refine ⟨fun σ G => σ = [some (.ref a), some (.ref b), some (.ref x), some (.ref y), some v4, some v5, some (.ref l), none] ∧ Jn T HF G ∧ Ls K G v4 one ∧ Ls K G v5 two ∧ G l = some (.lst [.ref r1, .ref r2]) ∧ G r1 = some (.lst [.str "told", .ref y1]) ∧ G r2 = some (.lst [.str "told", .ref y2]) ∧ StAt K S G (.ref y1) xn ∧ StAt K S G (.ref y2) xn, ?_, ?_⟩
  · obtain ⟨a0, at0, sa⟩ := first_num (nx.ext j.e) l1
    refine ⟨_, rfl, a, xs, _, _, rfl, rfl, SqL.of (ls j.e ra), at0, a0, _, 0, _, rfl, rfl, sa, rfl, rfl, _, rfl, ?_⟩
    rw [decide_eq_false (fun z => trn_num.mp t1 (V.int.inj z))]
    refine iteF ?_
    obtain ⟨b0, bt0, sb⟩ := first_num (ny.ext j.e) (by omega)
    refine ⟨_, rfl, b, ys, _, _, rfl, rfl, SqL.of (ls j.e rb), bt0, b0, _, 0, _, rfl, rfl, sb, rfl, rfl, _, rfl, ?_⟩
    rw [decide_eq_false (fun z => trn_num.mp t2 (V.int.inj z))]
    exact iteF ⟨rfl, j, h4, h5, el, e1, e2, h1, h2⟩
  clear j h4 h5 el e1 e2 h1 h2
  rintro σ G ⟨rfl, j, h4, h5, el, e1, e2, h1, h2⟩
  refine ⟨fun σ G => σ = [some (.ref a), some (.ref b), some (.ref x), some (.ref y), some v4, some v5, some (.ref l), none] ∧ Jn T HF G ∧ Ls K G v4 one ∧ Ls K G v5 two ∧ G l = some (.lst [.ref r1, .ref r2]) ∧ G r1 = some (.lst [.str "told", .ref y1]) ∧ G r2 = some (.lst [.str "told", .ref y2]) ∧ StAt K S G (.ref y1) xn ∧ StAt K S G (.ref y2) xn, ?_, ?_⟩
  · refine ⟨_, rfl, l, _, 0, _, rfl, rfl, SqL.of el, rfl, r1, _, 0, _, rfl, rfl, SqL.of e1, rfl, rfl, _, rfl, iteF ?_⟩
    refine ⟨_, rfl, l, _, 1, _, rfl, rfl, SqL.of el, rfl, r2, _, 0, _, rfl, rfl, SqL.of e2, rfl, rfl, _, rfl, iteF ?_⟩
    refine ⟨_, rfl, l, _, 0, _, rfl, rfl, SqL.of el, rfl, r1, _, 1, _, rfl, rfl, SqL.of e1, rfl, _, rfl, a, xs, rfl, .inl (SqL.of (ls j.e ra)), .ref y1, xn, (e + g + d + i) * qs.length, by rw [lx, lxn]; rfl, h1, by have := gxn.all; rw [lxn] at this; exact this, w1, fun G2 s2 => ⟨_, rfl, iteF ⟨rfl, j.same s2, h4.same s2, h5.same s2, s2 _ _ el, s2 _ _ e1, s2 _ _ e2, h1.same s2, h2.same s2⟩⟩⟩
  clear j h4 h5 el e1 e2 h1 h2
  rintro σ G ⟨rfl, j, h4, h5, el, e1, e2, h1, h2⟩
  refine ⟨fun σ G => ∃ vt, σ = [some (.ref a), some (.ref b), some (.ref x), some (.ref y), some v4, some v5, some (.ref l), some vt] ∧ Jn T HF G ∧ Ls K G v4 one ∧ Ls K G v5 two ∧ G l = some (.lst [.ref r1, .ref r2]) ∧ G r2 = some (.lst [.str "told", .ref y2]) ∧ StAt K S G (.ref y2) xn ∧ Ls K G vt xn, ?_, ?_⟩
  · obtain ⟨x', dx, fs', ex, h6, h7, _⟩ := rh h1
    obtain rfl := V.ref.inj ex
    refine ⟨_, rfl, l, _, 0, _, rfl, rfl, SqL.of el, rfl, r1, _, 1, _, rfl, rfl, SqL.of e1, rfl, y1, dx, fs', rfl, h6, h7, .ref y1, xn, rfl, h1, fun b G2 zs s2 nb eb mb => ?_⟩
    exact ⟨_, rfl, j.same s2, h4.same s2, h5.same s2, s2 _ _ el, s2 _ _ e2, h2.same s2, ⟨b, zs, rfl, eb, mb⟩⟩
  clear j h4 h5 el e1 e2 h1 h2
  rintro σ G ⟨vt, rfl, j, h4, h5, el, e2, h2, hV⟩
  refine ⟨_, rfl, _, rfl, vt, v5, xn, two, e + g + d + i, g + e, rfl, hV, h5, by rw [lxn, l2'], by omega, by omega, by omega, by omega, by rw [l2']; exact w2, gxn, gtwo, fun v8 G2 s2 h8 => ?_⟩
  have eq : cmpL xn two = one := by
    show cmpL xn (cmpL rs qs) = one
    rw [← cmp_assoc (by rw [lxn, lr])]
    show cmpL (cmpL (cmpL (cmpL one (invL qs)) (invL rs)) rs) qs = one
    rw [canc1 (by rw [cmpL_len, l1', lr]) (by omega) t2, canc1 l1' l1 t1]
  rw [eq] at h8
  refine ⟨_, rfl, datL one, datL one, h8.dp, (h4.same s2).dp, shaped_list _, shaped_list _, ?_⟩
  rw [eqv_list, decide_eq_true rfl]
  refine ⟨_, rfl, iteT ?_⟩
  have el := s2 _ _ el
  have e2 := s2 _ _ e2
  exact ⟨_, rfl, l, _, 1, _, rfl, rfl, SqL.of el, rfl, r2, _, 1, _, rfl, rfl, SqL.of e2, rfl, _, rfl, .ref y2, vt, xn, rfl, h2.same s2, hV.same s2, fun G3 s3 => q' _ ((j.same s2).same s3)⟩
end
end Kx
end
section
set_option maxHeartbeats 4000000
namespace Kx
open PySem PySem.Spec PyProof.Rows L2 RZ
abbrev nUnl : List Str := ["_law_bag_here", "_law_a", "_law_size_here", "_law_f", "_law_g", "_law_told", "_law_due"]
def spUnl (K : PySem.W.Frag) (T : List (Addr × Str)) : Sp := fun vs H Q _ => ∃ (B p : Addr) (x : V) (qs : List Rat), vs = [.ref B, x] ∧ Bag H B p ∧ Ls K H x qs ∧ 2 ≤ qs.length ∧ qs.length ≤ 7 ∧ LamX.Tabs T H ∧
  ∀ H', Bag H' B p → Go B H H' → LamX.Tabs T H' → Q (.bl true) H'
section
variable {P : Program} {w : World} {K : PySem.W.Frag} {mg : Str → Option Value} {base : Heap} {f c Pt C S CF CO CL CE : Addr} {cs : Fin 2 → Addr} {fd : FuncData} {T : List (Addr × Str)}
theorem scUnl : FnScope nUnl ["_law_bag_here", "_law_a"] (defScope L_unlike_so) := ⟨rfl, rfl, rfl, by decide +kernel, rfl, by decide +kernel, by decide +kernel⟩
theorem ok_unlikeso (F : FunC K "_law_unlike_so" "_law_unlike_so" L_unlike_so f fd c) (U : Kit6 P w K mg base C S CF CO CL CE cs)
    (TB : LamX.TabB base mg c Pt) (hmT : (Pt, ((("_law_unlike_so" : Str) ++ ".<locals>.") ++ "<lambda>" : Str)) ∈ T) (hu : ∀ p ∈ T, p.1 = Pt → p.2 = ((("_law_unlike_so" : Str) ++ ".<locals>.") ++ "<lambda>" : Str)) : FnOk P w K mg base CX0 12 f fd ["_law_bag_here", "_law_a"] (spUnl K T) := by
  refine F.ok scUnl (fun vs H Q E h => ?_) (fun A outer s H vs Q E hr h => ?_)
  · obtain ⟨B, p, x, qs, rfl, _⟩ := h
    rfl
  obtain ⟨B, p, x0, qs, rfl, hb, hA, l2, l7, hT, q⟩ := h
  have hr1 := hr.mono (show 1 ≤ 11 by decide)
  have hr2 := hr.mono (show 2 ≤ 11 by decide)
  have hr5 := hr.mono (show 5 ≤ 11 by decide)
  have hr6 := hr.mono (show 6 ≤ 11 by decide)
  have hr7 := hr.mono (show 7 ≤ 11 by decide)
  have hr8 := hr.mono (show 8 ≤ 11 by decide)
  have hr9 := hr.mono (show 9 ≤ 11 by decide)
  obtain ⟨gA, fdA, FA, bA, mA⟩ := U.ask
  obtain ⟨oc, od, kV, doc, pm, an, cdv, ct, osl, rfl, lkA, hcdA⟩ := FA.ex
  obtain ⟨fF, fdF, PF, bF, kF, mF⟩ := U.flt
  obtain ⟨fI, fdI, MI, FI, bI⟩ := U.sk.ini
  refine ⟨_, C8.pss_cut (ps_set (i := 2) scUnl.nd rfl (Or.inl rfl) (pe_use U.ofL hr2 rfl pass0 (pa_cons (pv 0) (pa_cons (pe_lst (pa_cons (pe_op op_add (pe_callB call_len_seq rfl U.mn PySem.boot_len (pa_cons (pv 1) pa_nil)) pe_int) (pa_cons pe_int (pa_cons pe_int (pa_cons pe_int pa_nil))))) pa_nil))))
    (C8.pss_cut (ps_if (pt_cmpR op_eq (pv 2) (pe_callB call_len_seq rfl U.mn PySem.boot_len (pa_cons (pv 1) pa_nil)) (nomark _)) (pss_one (ps_set (i := 2) scUnl.nd rfl (Or.inl rfl) pe_int)) pss_nil)
    (C8.pss_cut (ps_asg (pe_tup (pa_cons (pe_make (E := fun _ _ _ => False) MI FI hr7 rfl U.sk.m bI .nil passF (pa_cons (pv 1) pa_nil)) (pa_cons (pe_make (E := fun _ _ _ => False) MI FI hr7 rfl U.sk.m bI .nil passF (pa_cons (pe_use U.step hr6 rfl pass0 (pa_cons (pv 0) (pa_cons (pv 2) pa_nil))) pa_nil)) pa_nil))) (pg_tup rfl (pgs_cons (pg_name (i := 3) scUnl.nd rfl (Or.inr rfl)) (pgs_cons (pg_name (i := 4) scUnl.nd rfl (Or.inr rfl)) pgs_nil))))
    (C8.pss_cut (ps_set (i := 5) scUnl.nd rfl (Or.inl rfl) (pe_lst (pa_cons (LamX.pe_lamcall (k := 9) (t := fun E => tMeth S "renamed" (spRen K S (cs 0) (cs 1)) [] E (tVar 3) (tCons (tVar 4) tNil)) (TT := TAsk2 cs) rfl mA FA.kp lkA hcdA bA scAsk rfl (Or.inl rfl) (ask_gives2 (hr.mono (by decide)) PF bF kF mF U.mC U.e1) TB rfl hmT hu hr (LamX.lamS_by (show LamX.lamSB (defScope L_unlike_so) _ = true by decide +kernel)) rfl (fun _ _ _ _ _ => rfl)
      (fun A outer s H E f c' hk => pe_mu U.sren (pv 3) hk (passes_call (takes_of rfl rfl rfl rfl) (fun _ _ _ _ h => h)) (pa_cons (pv 4) pa_nil))) (pa_cons (LamX.pe_lamcallD (k := 9) (kd := 0) (px := "_law_x") (t := fun E => tCall (spExc K S (cs 0) (cs 1)) [] E (tCons (tVar 3) (tCons (tVar 4) tNil))) (TT := TAsk2 cs) rfl mA FA.kp lkA hcdA bA scAsk rfl (Or.inl rfl) (ask_gives2 (hr.mono (by decide)) PF bF kF mF U.mC U.e1) TB rfl hmT hu hr (LamX.lamD_by (show LamX.lamDB nUnl (defScope L_unlike_so) _ "_law_x" = true by decide +kernel)) rfl (fun _ _ _ _ _ _ _ => ⟨_, rfl, rfl⟩)
      (fun A outer s H E f c' hk => pe_use U.exc hk rfl (passes_call (takes_of rfl rfl rfl rfl) (fun _ _ _ _ h => h)) (pa_cons (pv 3) (pa_cons (pv 4) pa_nil)))) (pa_cons (LamX.pe_lamcallD (k := 9) (kd := 0) (px := "_law_y") (t := fun E => tCall (spTrd K S (cs 0)) [] E (tCons (tVar 3) (tCons (tVar 4) tNil))) (TT := TAsk2 cs) rfl mA FA.kp lkA hcdA bA scAsk rfl (Or.inl rfl) (ask_gives2 (hr.mono (by decide)) PF bF kF mF U.mC U.e1) TB rfl hmT hu hr (LamX.lamD_by (show LamX.lamDB nUnl (defScope L_unlike_so) _ "_law_y" = true by decide +kernel)) rfl (fun _ _ _ _ _ _ _ => ⟨_, rfl, rfl⟩)
      (fun A outer s H E f c' hk => pe_use U.trd hk rfl (passes_call (takes_of rfl rfl rfl rfl) (fun _ _ _ _ h => h)) (pa_cons (pv 3) (pa_cons (pv 4) pa_nil)))) pa_nil)))))
    (C8.pss_cut (ps_set (i := 6) scUnl.nd rfl (Or.inl rfl) (pe_lst (pa_cons pe_str (pa_cons (pe_callB call_len_seq rfl U.mn PySem.boot_len (pa_cons (pv 1) pa_nil)) (pa_cons (pv 2) pa_nil)))))
    (pss_one (ps_ret (pe_use U.lik hr6 rfl pass0 (pa_cons (pv 5) (pa_cons (pe_lst (pa_cons (pv 6) (pa_cons (pv 6) (pa_cons (pv 6) pa_nil)))) pa_nil))))))))), ?_⟩
  obtain ⟨a, xs, rfl, ha, nx⟩ := id hA
  have lx : xs.length = qs.length := nx.1
  refine ⟨fun σ G => ∃ m : Nat, σ = [some (.ref B), some (.ref a), some (.int (m : Nat)), none, none, none, none] ∧ Jg T B p H G ∧ 2 ≤ m ∧ m ≤ 24 ∧ (m = qs.length → m = 2), ?_, ?_⟩
  · refine ⟨_, rfl, _, rfl, a, xs, rfl, .inl (SqL.of ha), (xs.length : Nat), 1, rfl, rfl, (by show 4 ≤ sizeLine; decide), fun l nl => ?_⟩
    refine ⟨B, p, l, _, rfl, upd_same, (hb.at nl).1, (by show 0 < 4; decide), (by show 4 ≤ 1000; decide), hb.put nl, fun H2 x b2 u2 hx => ?_⟩
    have uu : But B H H2 := (But.new nl).trans u2
    have j : Jg T B p H H2 := ⟨b2, tabs_but hT hb uu, Go.of uu⟩
    simp only [List.mem_cons, List.not_mem_nil, or_false] at hx
    rcases hx with rfl | rfl | rfl | rfl
    · exact ⟨xs.length + 1, rfl, j, by omega, by omega, by omega⟩
    · exact ⟨2, rfl, j, by decide, by decide, by omega⟩
    · exact ⟨9, rfl, j, by decide, by decide, by omega⟩
    · exact ⟨24, rfl, j, by decide, by decide, by omega⟩
  rintro σ G ⟨m0, rfl, j0, m2, m24, mm⟩
  have ra : ∀ {G'}, Go B H G' → G' a = some (.lst xs) := fun g => g _ _ (nx.ne l2 ha hb) (fun ps z => by cases z) ha
  refine ⟨fun σ G => ∃ m : Nat, σ = [some (.ref B), some (.ref a), some (.int (m : Nat)), none, none, none, none] ∧ Jg T B p H G ∧ 2 ≤ m ∧ m ≤ 24 ∧ qs.length ≠ m, ?_, ?_⟩
  · refine ⟨_, rfl, _, rfl, a, xs, rfl, .inl (SqL.of (ra j0.g)), rfl, _, rfl, ite2 (fun cc => ?_) (fun cc => ?_)⟩
    · have e : V.int (m0 : Nat) = V.int (xs.length : Nat) := of_decide_eq_true cc
      have := V.int.inj e
      exact ⟨3, rfl, j0, by decide, by decide, by omega⟩
    · have e : ¬ V.int (m0 : Nat) = V.int (xs.length : Nat) := of_decide_eq_false (Bool.eq_false_iff.mpr cc)
      exact ⟨m0, rfl, j0, m2, m24, fun z => e (by rw [lx, z])⟩
  clear j0 m2 m24
  rintro σ G ⟨m, rfl, j0, m2, m24, mn⟩
  refine ⟨fun σ G => ∃ x y rs, σ = [some (.ref B), some (.ref a), some (.int (m : Nat)), some (.ref x), some (.ref y), none, none] ∧ Jg T B p H G ∧ StAt K S G (.ref x) qs ∧ StAt K S G (.ref y) rs ∧ rs.length = m, ?_, ?_⟩
  · refine ⟨_, rfl, fun x dx xn dn en => step_newG (.inl (ra j0.g)) (nx.go hb j0.g) l2 (by omega) xn dn en fun G1 s1 hX => ⟨rfl, ?_⟩⟩
    clear xn dn en dx
    have j1 := j0.same s1
    refine ⟨_, rfl, _, rfl, B, p, m, rfl, j1.b, m2, m24, fun G2 v rs b2 u2 hv lv dv => ?_⟩
    have j2 := j1.but b2 u2
    obtain ⟨d, ds, rfl, hd, nd⟩ := hv
    refine fun y dy xn dn en => ?_
    refine step_newG (.inl hd) nd (by omega) (by omega) xn dn en fun G3 s3 hY => ⟨rfl, ?_⟩
    refine ⟨(by show 2 ≤ sizeLine; decide), fun t nt => ?_⟩
    have s4 := new_same nt (HO.tup [V.ref x, V.ref y])
    exact ⟨t, _, rfl, SqT.of upd_same, rfl, _, _, rfl, _, _, rfl, rfl, x, y, rs, rfl, (j2.same s3).same s4, ((hX.go j1.b (Go.of u2)).same s3).same s4, hY.same s4, lv⟩
  clear j0
  rintro σ G ⟨x, y, rs, rfl, j, hX, hY, lr⟩
  subst lr
  have rh : ∀ {G : Hp} {v : V} {us : List Rat}, StAt K S G v us → ∃ x dx fs, v = .ref x ∧ G x = some (.ins S dx fs) ∧ fs.lookup ("renamed" : Str) = none := fun h => by
    obtain ⟨x', dx, fs, _, e, h1, _, _, _, _, h3, _⟩ := h.ld
    exact ⟨x', dx, fs, e, h1, h3⟩
  let due : HO := .lst [.str "UnlikeOrders", .int (qs.length : Int), .int (rs.length : Int)]
  refine ⟨fun σ G => ∃ l r1 r2 r3, σ = [some (.ref B), some (.ref a), some (.int (rs.length : Nat)), some (.ref x), some (.ref y), some (.ref l), none] ∧ Jg T B p H G ∧ G l = some (.lst [.ref r1, .ref r2, .ref r3]) ∧ G r1 = some due ∧ G r2 = some due ∧ G r3 = some due, ?_, ?_⟩
  · refine ⟨j.t, fun H3 x3 T3 => ?_⟩
    have j3 := j.ext x3 T3
    have hX3 := hX.ext x3
    have hY3 := hY.ext x3
    obtain ⟨x', dx, fs, e, h1, h2⟩ := rh hX3
    obtain rfl := V.ref.inj e
    refine ⟨_, rfl, x, dx, fs, rfl, h1, h2, _, rfl, .ref x, .ref y, qs, rs, rfl, hX3, hY3, fun _ => air_ul fun r1 G4 s4 e4 => ?_, fun e => absurd e mn⟩
    have j4 := j3.same s4
    refine ⟨j4.t, fun H5 t5 x5 T5 ht5 => ⟨ht5, ?_⟩⟩
    have j5 := j4.ext x5 T5
    have hX5 := (hX3.same s4).ext x5
    have hY5 := (hY3.same s4).ext x5
    refine ⟨_, rfl, _, rfl, .ref x, .ref y, qs, rs, rfl, hX5, hY5, fun _ => air_ul fun r2 G6 s6 e6 => ?_, fun e => absurd e mn⟩
    have j6 := j5.same s6
    refine ⟨j6.t, fun H7 t7 x7 T7 ht7 => ⟨ht7, ?_⟩⟩
    have j7 := j6.ext x7 T7
    have hX7 := (hX5.same s6).ext x7
    have hY7 := (hY5.same s6).ext x7
    refine ⟨_, rfl, _, rfl, .ref x, .ref y, qs, rs, rfl, hX7, hY7, fun _ => air_ul fun r3 G8 s8 e8 => ?_, fun e => absurd e mn⟩
    refine ⟨(by show 3 ≤ sizeLine; decide), fun l nl => ?_⟩
    have s9 := new_same nl (HO.lst [V.ref r1, .ref r2, .ref r3])
    have z6 := s9 _ _ (s8 _ _ (x7 _ _ e6 (fun ps z => by cases z)))
    have z4 := s9 _ _ (s8 _ _ (x7 _ _ (s6 _ _ (x5 _ _ e4 (fun ps z => by cases z))) (fun ps z => by cases z)))
    exact ⟨l, r1, r2, r3, rfl, (j7.same s8).same s9, upd_same, z4, z6, s9 _ _ e8⟩
  clear j hX hY
  rintro σ G ⟨l, r1, r2, r3, rfl, j, el, e1, e2, e3⟩
  refine ⟨fun σ G => ∃ d, σ = [some (.ref B), some (.ref a), some (.int (rs.length : Nat)), some (.ref x), some (.ref y), some (.ref l), some (.ref d)] ∧ Jg T B p H G ∧ G l = some (.lst [.ref r1, .ref r2, .ref r3]) ∧ G r1 = some due ∧ G r2 = some due ∧ G r3 = some due ∧ G d = some due, ?_, ?_⟩
  · refine ⟨_, rfl, a, xs, rfl, .inl (SqL.of (ra j.g)), _, rfl, (by show 3 ≤ sizeLine; decide), fun d nd => ?_⟩
    rw [lx]
    have s1 := new_same nd due
    exact ⟨d, rfl, j.same s1, s1 _ _ el, s1 _ _ e1, s1 _ _ e2, s1 _ _ e3, upd_same⟩
  clear j el e1 e2 e3
  rintro σ G ⟨d, rfl, j, el, e1, e2, e3, ed⟩
  refine ⟨_, rfl, _, rfl, _, rfl, _, rfl, (by show 3 ≤ sizeLine; decide), fun l' nl => ?_⟩
  have s1 := new_same nl (HO.lst [V.ref d, .ref d, .ref d])
  have lk : ∀ {r : Addr}, G r = some due → Lk K S 3 (upd G l' (.lst [V.ref d, .ref d, .ref d])) (.ref r) (.ref d) := fun h => Lk.lst (n := 2) (s1 _ _ h) (s1 _ _ ed) (by show 3 ≤ 60; decide) (.cons (Lk.flat rfl) (.cons (Lk.flat rfl) (.cons (Lk.flat rfl) .nil)))
  exact ⟨_, _, rfl, Lk.lst (n := 3) (s1 _ _ el) upd_same (by show 3 ≤ 60; decide) (.cons (lk e1) (.cons (lk e2) (.cons (lk e3) .nil))), fun H' s' => q _ (j.same (s1.trans s')).b (j.same (s1.trans s')).g (j.same (s1.trans s')).t⟩
end
end Kx
end
section
set_option maxHeartbeats 4000000
namespace Kx
open PySem PySem.Spec PyProof.Rows L2 RZ
def spLaw (K : PySem.W.Frag) (T : List (Addr × Str)) : Sp := fun vs H Q _ => ∃ (a : Addr) (ns : List Int), vs = [.ref a] ∧ SqL K H a (ns.map V.int) ∧ LamX.Tabs T H ∧ ∀ H', Q (.bl true) H'
abbrev nLaw : List Str := ["_law_script", "_law_bag_here", "_law_size_here", "_law_a", "_law_b", "_law_c", "_law_f", "_law_g"]
structure Kit6L (P : Program) (w : World) (K : PySem.W.Frag) (mg : Str → Option Value) (base : Heap) (T : List (Addr × Str)) : Prop where
  bag : Use P w K mg base CX0 1 "_law_bag" ["_law_script"] (spBag K) []
  tur : Use P w K mg base CX0 11 "_law_turned_so" ["_law_bag_here", "_law_a"] (spTur K T) []
  rno : Use P w K mg base CX0 12 "_law_renamed_so" ["_law_a", "_law_b", "_law_c"] (spRno K T) []
  exo : Use P w K mg base CX0 12 "_law_exchange_so" ["_law_a", "_law_b"] (spExo K T) []
  unl : Use P w K mg base CX0 12 "_law_unlike_so" ["_law_bag_here", "_law_a"] (spUnl K T) []
/-- what stands of the three lists -/
structure Lw (K : PySem.W.Frag) (T : List (Addr × Str)) (B p : Addr) (va vb vc : V) (qs rs ts : List Rat) (H : Hp) : Prop where
  b : Bag H B p
  t : LamX.Tabs T H
  la : Ls K H va qs
  lb : Ls K H vb rs
  lc : Ls K H vc ts
section
variable {K : PySem.W.Frag} {S : Addr} {T : List (Addr × Str)} {B p : Addr} {va vb vc : V} {qs rs ts : List Rat} {H H' : Hp}
theorem Lw.same (j : Lw K T B p va vb vc qs rs ts H) (s : Same H H') : Lw K T B p va vb vc qs rs ts H' := ⟨j.b.same s, j.t.ext s, j.la.same s, j.lb.same s, j.lc.same s⟩
theorem Lw.ext (j : Lw K T B p va vb vc qs rs ts H) (t : LamX.Tabs T H') (s : LamX.ExtN H H') : Lw K T B p va vb vc qs rs ts H' := ⟨j.b.ext s, t, j.la.ext s, j.lb.ext s, j.lc.ext s⟩
theorem Lw.go (j : Lw K T B p va vb vc qs rs ts H) (l2 : 2 ≤ qs.length) (m2 : 2 ≤ rs.length) (k2 : 2 ≤ ts.length) (b : Bag H' B p) (g : Go B H H') (t : LamX.Tabs T H') : Lw K T B p va vb vc qs rs ts H' :=
  ⟨b, t, j.la.go l2 j.b g, j.lb.go m2 j.b g, j.lc.go k2 j.b g⟩
theorem Lw.but (j : Lw K T B p va vb vc qs rs ts H) (l2 : 2 ≤ qs.length) (m2 : 2 ≤ rs.length) (k2 : 2 ≤ ts.length) (b : Bag H' B p) (u : But B H H') : Lw K T B p va vb vc qs rs ts H' :=
  j.go l2 m2 k2 b (Go.of u) (tabs_but j.t j.b u)
end
theorem wt_two {qs : List Rat} (h : Dr qs) (l1 : 1 ≤ qs.length) (l4 : qs.length ≤ 4) : Wt 2 8 (cmpL qs qs) := by
  refine ⟨by decide, by decide, h.gr.cmp h.gr rfl (by omega), fun t => ?_, .inr ⟨rfl, rfl, by rw [cmpL_len]; exact l4⟩⟩
  have tq : Trn qs := fun z => t (by rw [cmp_lead rfl l1, z, Rat.zero_mul])
  rw [inv_mul rfl l1 tq tq]
  exact (h.inv tq l1 (by omega)).cmp (h.inv tq l1 (by omega)) rfl (by rw [invL_len]; omega)
section
variable {P : Program} {w : World} {K : PySem.W.Frag} {mg : Str → Option Value} {base : Heap} {f C S CF CO CL CE : Addr} {cs : Fin 2 → Addr} {fd : FuncData} {T : List (Addr × Str)}
theorem scLaw : FnScope nLaw ["_law_script"] (defScope L_law) := ⟨rfl, rfl, rfl, by decide +kernel, rfl, by decide +kernel, by decide +kernel⟩
theorem ok_law (F : Fun K "law" "law" L_law f fd) (U : Kit6 P w K mg base C S CF CO CL CE cs) (W : Kit6L P w K mg base T) : FnOk P w K mg base CX0 13 f fd ["_law_script"] (spLaw K T) := by
  refine F.ok scLaw (fun vs H Q E h => ?_) (fun cdv A outer s H vs Q E hr h => ?_)
  · obtain ⟨a, ns, rfl, _⟩ := h
    rfl
  obtain ⟨a0, ns, rfl, ha0, hT, q⟩ := h
  have hr1 := hr.mono (show 1 ≤ 12 by decide)
  have hr2 := hr.mono (show 2 ≤ 12 by decide)
  have hr5 := hr.mono (show 5 ≤ 12 by decide)
  have hr6 := hr.mono (show 6 ≤ 12 by decide)
  have hr7 := hr.mono (show 7 ≤ 12 by decide)
  have hr8 := hr.mono (show 8 ≤ 12 by decide)
  have hr11 := hr.mono (show 11 ≤ 12 by decide)
  obtain ⟨fI, fdI, MI, FI, bI⟩ := U.sk.ini
  refine ⟨_, C8.pss_cut (ps_set (i := 1) scLaw.nd rfl (Or.inl rfl) (pe_use W.bag hr1 rfl pass0 (pa_cons (pv 0) pa_nil)))
    (C8.pss_cut (ps_set (i := 2) scLaw.nd rfl (Or.inl rfl) (pe_use U.ofL hr2 rfl pass0 (pa_cons (pv 1) (pa_cons (pe_lst (pa_cons pe_int (pa_cons pe_int (pa_cons pe_int (pa_cons pe_int (pa_cons pe_int (pa_cons pe_int (pa_cons pe_int (pa_cons pe_int (pa_cons pe_int (pa_cons pe_int (pa_cons pe_int (pa_cons pe_int (pa_cons pe_int (pa_cons pe_int pa_nil))))))))))))))) pa_nil))))
    (C8.pss_cut (ps_par3 (i := 3) (j := 4) (l := 5) rfl scLaw.nd rfl rfl rfl (by decide) (by decide) (by decide) rfl rfl rfl (pa_cons (pe_use U.trn hr7 rfl pass0 (pa_cons (pv 1) (pa_cons (pv 2) pa_nil))) (pa_cons (pe_use U.trn hr7 rfl pass0 (pa_cons (pv 1) (pa_cons (pv 2) pa_nil))) (pa_cons (pe_use U.step hr6 rfl pass0 (pa_cons (pv 1) (pa_cons (pv 2) pa_nil))) pa_nil))) rfl)
    (C8.pss_cut (ps_if (pt_cmpR op_eq (pe_use U.draw hr1 rfl pass0 (pa_cons (pv 1) (pa_cons pe_int pa_nil))) pe_int (nomark _)) (pss_one (ps_set (i := 3) scLaw.nd rfl (Or.inl rfl) (pe_use U.step hr6 rfl pass0 (pa_cons (pv 1) (pa_cons (pv 2) pa_nil))))) pss_nil)
    (C8.pss_cut (ps_if (pt_cmpR op_eq (pe_use U.draw hr1 rfl pass0 (pa_cons (pv 1) (pa_cons pe_int pa_nil))) pe_int (nomark _)) (pss_one (ps_set (i := 4) scLaw.nd rfl (Or.inl rfl) (pe_ifExp (pt_cmpR op_lt (pv 2) pe_int (nomark _)) (pe_use U.behd hr5 rfl pass0 (pa_cons (pv 3) (pa_cons (pv 3) pa_nil))) (pe_callTy call_list_of rfl U.ml (by decide +kernel) (pa_cons (pv 3) pa_nil))))) pss_nil)
    (C8.pss_cut (ps_par (i := 6) (j := 7) rfl scLaw.nd rfl rfl (by decide) rfl rfl (pa_cons (pe_make (E := fun _ _ _ => False) MI FI hr7 rfl U.sk.m bI .nil passF (pa_cons (pv 3) pa_nil)) (pa_cons (pe_make (E := fun _ _ _ => False) MI FI hr7 rfl U.sk.m bI .nil passF (pa_cons (pv 4) pa_nil)) pa_nil)) rfl)
    (C8.pss_cut (ps_if (PW.pt (pw_or (pt_not (pt_val (pe_use W.tur hr11 rfl pass0 (pa_cons (pv 1) (pa_cons (pv 3) pa_nil))))) (pw_or1 (pt_not (pt_val (pe_use W.tur hr11 rfl pass0 (pa_cons (pv 1) (pa_cons (pv 5) pa_nil)))))))) (pss_one (ps_ret pe_bl)) pss_nil)
    (C8.pss_cut (ps_if (PW.pt (pw_and (pt_cmpR op_ne (pe_ix ix_tup (pe_ix ix_list (pv 3) pe_int (fun _ _ => rfl)) pe_int (fun _ _ => rfl)) pe_int (nomark _)) (pw_and (pt_cmpR op_ne (pe_ix ix_tup (pe_ix ix_list (pv 4) pe_int (fun _ _ => rfl)) pe_int (fun _ _ => rfl)) pe_int (nomark _)) (pw_and1 (pt_not (pt_val (pe_use U.sso hr7 rfl pass0 (pa_cons (pe_un (un_inv (E := fun _ _ _ => False) U.sinv hr8 passF) (pe_op (op_bin (E := fun _ _ _ => False) U.smul rfl hr8 passF) (pv 6) (pv 7))) (pa_cons (pe_mu0 U.snum (pe_op (op_bin (E := fun _ _ _ => False) U.smul rfl hr8 passF) (pe_un (un_inv (E := fun _ _ _ => False) U.sinv hr8 passF) (pv 7)) (pe_un (un_inv (E := fun _ _ _ => False) U.sinv hr8 passF) (pv 6))) hr1 pass0) pa_nil))))))))) (pss_one (ps_ret pe_bl)) pss_nil)
    (C8.pss_cut (ps_if (PW.pt (pw_or (pt_not (pt_val (pe_use W.rno hr rfl pass0 (pa_cons (pv 3) (pa_cons (pv 4) (pa_cons (pv 5) pa_nil)))))) (pw_or (pt_not (pt_val (pe_use W.exo hr rfl pass0 (pa_cons (pv 3) (pa_cons (pv 4) pa_nil))))) (pw_or1 (PW.pt (pw_and (pt_cmpR op_lt (pv 2) pe_int (nomark _)) (pw_and1 (pt_not (pt_val (pe_use W.exo hr rfl pass0 (pa_cons (pv 4) (pa_cons (pv 5) pa_nil)))))))))))) (pss_one (ps_ret pe_bl)) pss_nil)
    (pss_one (ps_ret (pe_and (pe_use W.unl hr rfl pass0 (pa_cons (pv 1) (pa_cons (pv 3) pa_nil))) (pe_and (pe_use W.unl hr rfl pass0 (pa_cons (pv 1) (pa_cons (pv 5) pa_nil))) (pe_one (pe_use U.lik hr6 rfl pass0 (pa_cons (pe_lst (pa_cons (pe_mu0 U.snum (pv 6) hr1 pass0) (pa_cons (pe_mu0 U.snum (pv 7) hr1 pass0) pa_nil))) (pa_cons (pe_lst (pa_cons (pv 3) (pa_cons (pv 4) pa_nil))) pa_nil)))))))))))))))), ?_⟩
  refine ⟨fun σ G => ∃ B p, σ = [some (.ref a0), some (.ref B), none, none, none, none, none, none] ∧ Bag G B p ∧ LamX.Tabs T G, ?_, ?_⟩
  · exact ⟨_, rfl, a0, ns, rfl, ha0, fun H1 B p s1 nb hb => ⟨B, p, rfl, hb, hT.ext s1⟩⟩
  clear hT ha0
  rintro σ G ⟨B, p, rfl, b0, T0⟩
  refine ⟨fun σ G => ∃ n : Nat, σ = [some (.ref a0), some (.ref B), some (.int (n : Nat)), none, none, none, none, none] ∧ Bag G B p ∧ LamX.Tabs T G ∧ 2 ≤ n ∧ n ≤ 7, ?_, ?_⟩
  · refine ⟨_, rfl, (by show 14 ≤ sizeLine; decide), fun l nl => ?_⟩
    refine ⟨B, p, l, _, rfl, upd_same, (b0.at nl).1, (by show 0 < 14; decide), (by show 14 ≤ 1000; decide), b0.put nl, fun H2 x b2 u2 hx => ?_⟩
    have t2 := tabs_but T0 b0 ((But.new nl).trans u2)
    have fin : ∀ n : Nat, x = .int (n : Nat) → 2 ≤ n → n ≤ 7 → ∃ n : Nat, x = .int (n : Nat) ∧ 2 ≤ n ∧ n ≤ 7 := fun n e h1 h2 => ⟨n, e, h1, h2⟩
    have hn : ∃ n : Nat, x = .int (n : Nat) ∧ 2 ≤ n ∧ n ≤ 7 := by
      simp only [List.mem_cons, List.not_mem_nil, or_false] at hx
      rcases hx with e | e | e | e | e | e | e | e | e | e | e | e | e | e
      · exact ⟨3, e, by decide, by decide⟩
      · exact ⟨4, e, by decide, by decide⟩
      · exact ⟨2, e, by decide, by decide⟩
      · exact ⟨3, e, by decide, by decide⟩
      · exact ⟨4, e, by decide, by decide⟩
      · exact ⟨5, e, by decide, by decide⟩
      · exact ⟨3, e, by decide, by decide⟩
      · exact ⟨4, e, by decide, by decide⟩
      · exact ⟨3, e, by decide, by decide⟩
      · exact ⟨6, e, by decide, by decide⟩
      · exact ⟨4, e, by decide, by decide⟩
      · exact ⟨3, e, by decide, by decide⟩
      · exact ⟨7, e, by decide, by decide⟩
      · exact ⟨2, e, by decide, by decide⟩
    obtain ⟨n, rfl, h1, h2⟩ := hn
    exact ⟨n, rfl, b2, t2, h1, h2⟩
  clear b0 T0
  rintro σ G ⟨n, rfl, b0, T0, n2, n7⟩
  refine ⟨fun σ G => ∃ va vb vc qs rs ts, σ = [some (.ref a0), some (.ref B), some (.int (n : Nat)), some va, some vb, some vc, none, none] ∧ Lw K T B p va vb vc qs rs ts G ∧ qs.length = n ∧ rs.length = n ∧ ts.length = n ∧ Dr qs ∧ Dr rs ∧ Dr ts, ?_, ?_⟩
  · refine ⟨_, rfl, _, rfl, B, p, n, rfl, b0, n2, by omega, fun G2 va qs b2 u2 h2 l2 z2 => ?_⟩
    refine ⟨_, rfl, _, rfl, B, p, n, rfl, b2, n2, by omega, fun G3 vb rs b3 u3 h3 l3 z3 => ?_⟩
    refine ⟨_, rfl, _, rfl, B, p, n, rfl, b3, n2, by omega, fun G4 vc ts b4 u4 h4 l4 z4 => ?_⟩
    exact ⟨_, _, _, rfl, va, vb, vc, qs, rs, ts, rfl, ⟨b4, tabs_but (tabs_but (tabs_but T0 b0 u2) b2 u3) b3 u4, (h2.go (by omega) b2 (Go.of u3)).go (by omega) b3 (Go.of u4), h3.go (by omega) b3 (Go.of u4), h4⟩, l2, l3, l4, z2, z3, z4⟩
  clear b0 T0
  rintro σ G ⟨va, vb, vc, qs0, rs0, ts, rfl, j, lq, lr, lt, dq, dr, dt⟩
  refine ⟨fun σ G => ∃ va qs, σ = [some (.ref a0), some (.ref B), some (.int (n : Nat)), some va, some vb, some vc, none, none] ∧ Lw K T B p va vb vc qs rs0 ts G ∧ qs.length = n ∧ Dr qs, ?_, ?_⟩
  · refine ⟨_, rfl, B, p, 4, rfl, by decide, by decide, j.b, fun G2 k b2 u2 k0 k1 => ⟨rfl, _, rfl, ite2 (fun _ => ?_) (fun _ => ⟨va, qs0, rfl, j.but (by omega) (by omega) (by omega) b2 u2, lq, dq⟩)⟩⟩
    have j2 := j.but (by omega) (by omega) (by omega) b2 u2
    refine ⟨_, rfl, _, rfl, B, p, n, rfl, b2, n2, by omega, fun G3 v us b3 u3 h3 l3 z3 => ?_⟩
    have j3 := j2.but (by omega) (by omega) (by omega) b3 u3
    exact ⟨v, us, rfl, ⟨j3.b, j3.t, h3, j3.lb, j3.lc⟩, l3, z3⟩
  clear j lq dq
  rintro σ G ⟨va, qs, rfl, j, lq, dq⟩
  subst lq
  refine ⟨fun σ G => ∃ vb rs g i, σ = [some (.ref a0), some (.ref B), some (.int (qs.length : Nat)), some va, some vb, some vc, none, none] ∧ Lw K T B p va vb vc qs rs ts G ∧ rs.length = qs.length ∧ Wt g i rs, ?_, ?_⟩
  · refine ⟨_, rfl, B, p, 5, rfl, by decide, by decide, j.b, fun G2 k b2 u2 k0 k1 => ⟨rfl, _, rfl, ite2 (fun _ => ?_) (fun _ => ⟨vb, rs0, 1, 4, rfl, j.but n2 (by omega) (by omega) b2 u2, lr, dr.wt (by omega) (by omega)⟩)⟩⟩
    have j2 := j.but n2 (by omega) (by omega) b2 u2
    refine ⟨_, rfl, (qs.length : Nat), 5, rfl, rfl, _, rfl, ite2 (fun cc => ?_) (fun cc => ?_)⟩
    · have c5 : ((qs.length : Nat) : Int) < 5 := of_decide_eq_true cc
      refine ⟨_, rfl, _, rfl, va, va, qs, qs, 1, 1, rfl, j2.la, j2.la, rfl, by omega, by omega, by decide, by decide, by omega, dq.gr, dq.gr, fun v G3 s3 h3 => ?_⟩
      have j3 := j2.same s3
      exact ⟨v, cmpL qs qs, 2, 8, rfl, ⟨j3.b, j3.t, j3.la, h3, j3.lc⟩, cmpL_len _ _, wt_two dq (by omega) (by omega)⟩
    · obtain ⟨a, xs, rfl, ha, nx⟩ := id j2.la
      refine ⟨_, rfl, a, xs, rfl, .inl (SqL.of ha), fun d nd => ?_⟩
      have s3 := new_same nd (HO.lst xs)
      have j3 := j2.same s3
      exact ⟨.ref d, qs, 1, 4, rfl, ⟨j3.b, j3.t, j3.la, ⟨d, xs, rfl, upd_same, nx.same s3⟩, j3.lc⟩, rfl, dq.wt (by omega) n7⟩
  clear j lr dr
  rintro σ G ⟨vb, rs, g, i, rfl, j, lr, wb⟩
  have wa : Wt 1 4 qs := dq.wt (by omega) n7
  have wc : Wt 1 4 ts := dt.wt (by omega) (by omega)
  refine ⟨fun σ G => ∃ vf vg, σ = [some (.ref a0), some (.ref B), some (.int (qs.length : Nat)), some va, some vb, some vc, some vf, some vg] ∧ Lw K T B p va vb vc qs rs ts G ∧ StAt K S G vf qs ∧ StAt K S G vg rs, ?_, ?_⟩
  · obtain ⟨a, xs, rfl, ha, nx⟩ := id j.la
    obtain ⟨b, ys, rfl, hb, ny⟩ := id j.lb
    refine ⟨_, rfl, fun x dx xn dn en => ?_⟩
    refine step_newG (.inl ha) nx n2 (by omega) xn dn en fun G2 s2 hX => ⟨rfl, ?_⟩
    clear xn dn en dx
    refine ⟨_, rfl, fun y dy xn dn en => ?_⟩
    refine step_newG (.inl (s2 _ _ hb)) (ny.same s2) (by omega) (by omega) xn dn en fun G3 s3 hY => ⟨rfl, ?_⟩
    exact ⟨_, _, rfl, _, _, rfl, (j.same s2).same s3, hX.same s3, hY⟩
  clear j
  rintro σ G ⟨vf, vg, rfl, j, hX, hY⟩
  have m2 : 2 ≤ rs.length := by omega
  have k2 : 2 ≤ ts.length := by omega
  let J : Hp → Prop := fun G => Lw K T B p va vb vc qs rs ts G ∧ StAt K S G vf qs ∧ StAt K S G vg rs
  have js : ∀ {G G'}, J G → Same G G' → J G' := fun ⟨j, hX, hY⟩ s => ⟨j.same s, hX.same s, hY.same s⟩
  have jg : ∀ {G G'}, J G → Bag G' B p → Go B G G' → LamX.Tabs T G' → J G' := fun ⟨j, hX, hY⟩ b g t => ⟨j.go n2 m2 k2 b g t, hX.go j.b g, hY.go j.b g⟩
  have jx : ∀ {G G'}, J G → LamX.Tabs T G' → LamX.ExtN G G' → J G' := fun ⟨j, hX, hY⟩ t e => ⟨j.ext t e, hX.ext e, hY.ext e⟩
  have j0 : J G := ⟨j, hX, hY⟩
  clear j hX hY
  refine ⟨fun σ G => σ = [some (.ref a0), some (.ref B), some (.int (qs.length : Nat)), some va, some vb, some vc, some vf, some vg] ∧ J G, ?_, ?_⟩
  · refine ⟨_, rfl, _, rfl, B, p, va, qs, rfl, j0.1.b, j0.1.la, n2, n7, dq, j0.1.t, fun G2 b2 g2 t2 => ⟨_, rfl, iteF ?_⟩⟩
    have j2 := jg j0 b2 g2 t2
    refine ⟨_, rfl, _, rfl, B, p, vc, ts, rfl, j2.1.b, j2.1.lc, k2, by omega, dt, j2.1.t, fun G3 b3 g3 t3 => ⟨_, rfl, iteF ?_⟩⟩
    exact ⟨rfl, jg j2 b3 g3 t3⟩
  clear j0
  rintro σ G ⟨rfl, j0⟩
  have li : (invL rs).length = rs.length := invL_len rs
  have lj : (invL qs).length = qs.length := invL_len qs
  have w130 : (1 + g + (i + 4)) * qs.length ≤ 130 ∧ (1 + g) * qs.length ≤ 130 ∧ (g + i) * qs.length ≤ 130 ∧ (i + 4) * qs.length ≤ 130 := by
    have k1 := wb.k
    rw [lr] at k1
    rcases k1 with ⟨rfl, rfl⟩ | ⟨rfl, rfl, h4⟩ <;> omega
  obtain ⟨w1, w2, w3, w4⟩ := w130
  have g0 := wb.g0
  have i0 := wb.i0
  refine ⟨fun σ G => σ = [some (.ref a0), some (.ref B), some (.int (qs.length : Nat)), some va, some vb, some vc, some vf, some vg] ∧ J G, ?_, ?_⟩
  · obtain ⟨a, xs, rfl, ha, nx⟩ := id j0.1.la
    obtain ⟨b, ys, rfl, hb, ny⟩ := id j0.1.lb
    obtain ⟨a1, at1, sa⟩ := first_num nx (by omega)
    obtain ⟨b1, bt1, sb⟩ := first_num ny (by omega)
    refine ⟨_, rfl, a, xs, _, _, rfl, rfl, SqL.of ha, at1, a1, _, 0, _, rfl, rfl, sa, rfl, rfl, _, rfl, ?_⟩
    have zero : ∀ {us : List Rat}, ¬ Trn us → V.int (us.getD 0 0).num = V.int 0 := fun h => congrArg V.int (Classical.byContradiction fun z => h (trn_num.mpr z))
    by_cases t1 : Trn qs
    case neg =>
      rw [decide_eq_true (zero t1)]
      exact iteF (iteF ⟨rfl, j0⟩)
    rw [decide_eq_false (fun z => trn_num.mp t1 (V.int.inj z))]
    refine iteT ⟨_, rfl, b, ys, _, _, rfl, rfl, SqL.of hb, bt1, b1, _, 0, _, rfl, rfl, sb, rfl, rfl, _, rfl, ?_⟩
    by_cases t2 : Trn rs
    case neg =>
      rw [decide_eq_true (zero t2)]
      exact iteF (iteF ⟨rfl, j0⟩)
    rw [decide_eq_false (fun z => trn_num.mp t2 (V.int.inj z))]
    have gqi := wa.gi t1
    have gri := wb.gi t2
    have em := inv_mul lr.symm (by omega) t1 t2
    have tm : Trn (cmpL qs rs) := cmp_trn lr.symm (by omega) t1 t2
    have gm : Gr (i + 4) (invL (cmpL qs rs)) := by
      rw [em]
      exact gri.cmp gqi (by rw [li, lj, lr]) (by omega)
    refine iteT ⟨_, rfl, _, rfl, rd_smG j0.2.1 j0.2.2 lr.symm (by decide) g0 wa.gg wb.gg (by omega) fun G2 v2 s2 h2 => ?_⟩
    refine rd_inG h2 tm (show 1 ≤ 1 + g by omega) (show 1 ≤ i + 4 by omega) (wa.gg.cmp wb.gg lr.symm (by omega)) gm (by rw [cmpL_len]; exact w1) fun G3 v3 s3 h3 => ?_
    have j3 := js j0 (s2.trans s3)
    refine ⟨_, rfl, rd_inG j3.2.2 t2 g0 i0 wb.gg gri (by rw [lr]; exact w3) fun G4 v4 s4 h4 => ?_⟩
    have j4 := js j3 s4
    refine ⟨_, rfl, rd_inG j4.2.1 t1 (by decide) (by decide) wa.gg gqi (by omega) fun G5 v5 s5 h5 => ?_⟩
    have j5 := js j4 s5
    refine rd_smG (h4.same s5) h5 (by rw [li, lj, lr]) i0 (by decide) gri gqi (by rw [li, lr]; omega) fun G6 v6 s6 h6 => ?_
    obtain ⟨z, dz, fz, _, rfl, hz1, _, _, hz2, _⟩ := h6.ld
    refine ⟨z, dz, fz, rfl, hz1, hz2, .ref z, _, rfl, h6, fun d G7 zs s7 nd ed md => ?_⟩
    have s37 := s4.trans (s5.trans (s6.trans s7))
    rw [em] at h3
    exact ⟨_, _, _, rfl, h3.same s37, ⟨d, zs, rfl, ed, md⟩, fun G8 s8 => ⟨_, rfl, iteF ⟨rfl, js j3 (s37.trans s8)⟩⟩⟩
  clear j0
  rintro σ G ⟨rfl, j0⟩
  refine ⟨fun σ G => σ = [some (.ref a0), some (.ref B), some (.int (qs.length : Nat)), some va, some vb, some vc, some vf, some vg] ∧ J G, ?_, ?_⟩
  · refine ⟨_, rfl, _, rfl, _, rfl, va, vb, vc, qs, rs, ts, g, i, rfl, j0.1.la, j0.1.lb, j0.1.lc, lr, lt, n2, n7, wa, wb, wc, j0.1.t, fun G2 t2 e2 => ⟨_, rfl, iteF ?_⟩⟩
    have j2 := jx j0 t2 e2
    refine ⟨_, rfl, _, rfl, va, vb, qs, rs, g, i, 1, 4, rfl, j2.1.la, j2.1.lb, lr, n2, n7, wa, wb, j2.1.t, fun G3 t3 e3 => ⟨_, rfl, iteF ?_⟩⟩
    have j3 := jx j2 t3 e3
    refine ⟨_, rfl, (qs.length : Nat), 4, rfl, rfl, _, rfl, ite2 (fun cc => ?_) (fun cc => iteF ⟨rfl, j3⟩)⟩
    exact ⟨_, rfl, _, rfl, vb, vc, rs, ts, 1, 4, g, i, rfl, j3.1.lb, j3.1.lc, by rw [lt, lr], m2, by omega, wb, wc, j3.1.t, fun G4 t4 e4 => ⟨_, rfl, iteF ⟨rfl, jx j3 t4 e4⟩⟩⟩
  clear j0
  rintro σ G ⟨rfl, j0⟩
  refine ⟨_, rfl, _, rfl, B, p, va, qs, rfl, j0.1.b, j0.1.la, n2, n7, j0.1.t, fun G2 b2 g2 t2 => ⟨_, rfl, iteT ?_⟩⟩
  have j2 := jg j0 b2 g2 t2
  refine ⟨_, rfl, _, rfl, B, p, vc, ts, rfl, j2.1.b, j2.1.lc, k2, by omega, j2.1.t, fun G3 b3 g3 t3 => ⟨_, rfl, iteT ?_⟩⟩
  have j3 := jg j2 b3 g3 t3
  obtain ⟨x, dx, fx, _, ex, hx1, _, _, hx2, _⟩ := j3.2.1.ld
  refine ⟨_, rfl, x, dx, fx, ex, hx1, hx2, _, qs, by rw [ex]; rfl, j3.2.1, fun t1 G4 zs1 s4 nt1 et1 nz1 => ?_⟩
  have j4 := js j3 s4
  obtain ⟨y, dy, fy, _, ey, hy1, _, _, hy2, _⟩ := j4.2.2.ld
  refine ⟨_, rfl, y, dy, fy, ey, hy1, hy2, _, rs, by rw [ey]; rfl, j4.2.2, fun t2 G5 zs2 s5 nt2 et2 nz2 => ⟨(by show 2 ≤ sizeLine; decide), fun t3 nt3 => ?_⟩⟩
  have s6 := new_same nt3 (HO.lst [V.ref t1, V.ref t2])
  refine ⟨_, rfl, _, rfl, (by show 2 ≤ sizeLine; decide), fun t4 nt4 => ?_⟩
  have s7 := new_same nt4 (HO.lst [va, vb])
  have s67 := s6.trans s7
  have j7 := js j4 (s5.trans s67)
  exact ⟨_, _, rfl, Lk.lst (n := 3) (s7 _ _ upd_same) upd_same (by show 2 ≤ 60; decide) (.cons (Ls.lk (n := 1) (qs := qs) ⟨t1, zs1, rfl, (s5.trans s67) _ _ et1, nz1.same (s5.trans s67)⟩ j7.1.la (by omega)) (.cons (Ls.lk (n := 1) (qs := rs) ⟨t2, zs2, rfl, s67 _ _ et2, nz2.same s67⟩ j7.1.lb (by omega)) .nil)), fun H' s' => q _⟩
end
end Kx
end
section
set_option maxHeartbeats 4000000
namespace Kx
open PySem PySem.Spec PyProof.Rows L2
theorem kpB_ok {K : PySem.W.Frag} {a : Addr} {x y : Int} (h : kpB K a x y = true) : KP K a x y := by
  unfold kpB at h
  split at h
  · rename_i c d its n sl q
    obtain ⟨h1, h⟩ := He.ba h
    obtain ⟨h2, h3⟩ := He.ba h
    exact ⟨_, its, n, q, congrArg Value.type (of_decide_eq_true h1), rfl, of_decide_eq_true h2, He.relAll_ok h3⟩
  · cases h
theorem owT_ok {K : PySem.W.Frag} {C iA : Addr} {ns : List Str} (h : owT K C iA ns = true) :
    Cls K C ∧ (∀ n ∈ ns, NoAttr K C n) ∧ Mk K C iA ∧ ∀ (H : Hp) a dx fs, H a = some (.ins C dx fs) → TyX K H (.ref a) (.ref C) := by
  unfold owT at h
  obtain ⟨a1, h⟩ := He.ba h
  obtain ⟨a2, h⟩ := He.ba h
  obtain ⟨a3, h⟩ := He.ba h
  obtain ⟨a4, h⟩ := He.ba h
  obtain ⟨a5, h⟩ := He.ba h
  obtain ⟨a6, h⟩ := He.ba h
  obtain ⟨a7, h⟩ := He.ba h
  obtain ⟨a8, h⟩ := He.ba h
  obtain ⟨a9, h⟩ := He.ba h
  obtain ⟨b6, h⟩ := He.ba h
  obtain ⟨b7, h⟩ := He.ba h
  obtain ⟨b8, b9⟩ := He.ba h
  have cls : Cls K C := ⟨a1, a2, a3, He.eqO_ok a4⟩
  exact ⟨cls, fun n hn => He.eqO_ok (List.all_eq_true.mp a5 n hn), ⟨a6, He.eqO_ok a7, a8, a9⟩,
    fun H a dx fs e => .base (.ins e cls (He.eqO_ok b6) (He.eqO_ok b7) (of_decide_eq_true b8) (of_decide_eq_true b9))⟩
theorem exB_ok {K : PySem.W.Frag} {C iA : Addr} {mb : List Value} {nw : String} {ns : List Str} (h : exB K C iA mb nw ns = true) (hb : ∃ B iid, ExcBaseFacts B nw iid mb ∧ StoreFacts B mb "object.__setattr__" "object") :
    XC K C ∧ PySem.W.typeIn K (.ref C) = some (.type "type") ∧ PySem.W.findIn K (.ref C) "__init__" = some (some (.ref iA)) ∧ PySem.W.isFn K (.ref iA) = true ∧ ∀ n ∈ ns, PySem.W.findIn K (.ref C) n = some none := by
  unfold exB at h
  obtain ⟨B, iid, FB, SF⟩ := hb
  obtain ⟨a1, h⟩ := He.ba h
  obtain ⟨a2, h⟩ := He.ba h
  obtain ⟨a3, h⟩ := He.ba h
  obtain ⟨a4, h⟩ := He.ba h
  obtain ⟨a5, h⟩ := He.ba h
  obtain ⟨a6, h⟩ := He.ba h
  obtain ⟨a7, h⟩ := He.ba h
  obtain ⟨a8, h⟩ := He.ba h
  obtain ⟨a9, h⟩ := He.ba h
  obtain ⟨b1, h⟩ := He.ba h
  obtain ⟨b2, h⟩ := He.ba h
  obtain ⟨b3, h⟩ := He.ba h
  obtain ⟨b4, h⟩ := He.ba h
  obtain ⟨b5, h⟩ := He.ba h
  obtain ⟨b6, h⟩ := He.ba h
  obtain ⟨b7, b8⟩ := He.ba h
  exact ⟨⟨⟨B, nw, iid, mb, FB, SF, a1, a2⟩, a3, a4, He.eqO_ok a5, He.eqO_ok a6, He.eqO_ok a7, of_decide_eq_true a8, He.eqO_ok a9, He.eqO_ok b1, of_decide_eq_true b2, of_decide_eq_true b3, b4⟩, of_decide_eq_true b5, He.eqO_ok b6, b7, fun n hn => He.eqO_ok (List.all_eq_true.mp b8 n hn)⟩
section
variable {K : PySem.W.Frag}
theorem SaysR.fact (c : SaysR K) (i : Nat) {f : PySem.W.Frag → Bool} (h : faT[i]? = some f := by rfl) : f K = true :=
  List.all_eq_true.mp (He.ba (show ((faT.all fun f => f K) && fnT.all fun d => d.ok K) = true from congrArg (fun z : ObV => z.1) c)).1 f (List.mem_of_getElem? h)
theorem SaysR.def_ (c : SaysR K) (i : Nat) {d : He5.DefA} (h : fnT[i]? = some d) : ∃ fd, L2.FunD K d.name d.qual d.params d.body d.scope (d.dvs K) (d.kws K) (d.at_ K) fd := by
  have c2 := (He.ba (show ((faT.all fun f => f K) && fnT.all fun d => d.ok K) = true from congrArg (fun z : ObV => z.1) c)).2
  have e : fnT.map (fun d => He5.fnA K (d.at_ K)) = fnT.map He5.DefA.val := congrArg (fun z : ObV => z.2) c
  have e2 : (fnT.map fun d => He5.fnA K (d.at_ K))[i]? = (fnT.map He5.DefA.val)[i]? := by rw [e]
  rw [List.getElem?_map, List.getElem?_map, h] at e2
  exact He5.DefA.funD (Option.some.inj e2) (List.all_eq_true.mp c2 d (List.mem_of_getElem? h))
theorem fun_ld (c : SaysR K) (i : Nat) {d : LD} (h : ldT[i]? = some d) : ∃ fd, Fun K d.nm d.nm (top d.ix) d.f fd := by
  obtain ⟨fd, F⟩ := c.def_ (i + 13) (d := ldD d) (by
    show (clT ++ ldT.map ldD)[i + 13]? = _
    rw [List.getElem?_append_right (by show 13 ≤ i + 13; omega)]
    show (ldT.map ldD)[i + 13 - 13]? = _
    rw [Nat.add_sub_cancel, List.getElem?_map, h]
    rfl)
  exact ⟨fd, He5.fun_of F⟩
theorem fun_cl (c : SaysR K) (i : Nat) {q nm : Str} {f : Addr} {st : Stmt} (h : fnT[i]? = some (mtD q nm f st) := by rfl) : ∃ fd, Fun K nm q st f fd := by
  obtain ⟨fd, F⟩ := c.def_ i h
  exact ⟨fd, He5.fun_of F⟩
theorem fun_c {x q : Str} {st : Stmt} {f c : Addr} {fd : FuncData} (F : Fun K x q st f fd) (h : codeB K f c = true) : FunC K x q st f fd c := by
  obtain ⟨oc, od, kV, doc, pm, an, cdv, ct, osl, rfl, lk, hcd⟩ := F.ex
  have e : cdv = .ref c := by
    unfold codeB at h
    rw [lk] at h
    cases cdv <;> first | exact congrArg Value.ref (of_decide_eq_true h) | exact (Bool.false_ne_true h).elim
  subst e
  exact ⟨⟨oc, od, kV, doc, pm, an, ct, osl, rfl, lk, hcd⟩, F.kp⟩
section
variable {h : Heap} {mg : Str → Option Value}
theorem mg_ld (X : K.In h) (G : h.Ns mainGlobals mg) (c : SaysR K) {d : LD} (hd : d ∈ ldT) : mg d.nm = some (.ref d.f) := PySem.W.mg_of X G (He.eqO_ok (List.all_eq_true.mp (c.fact 0) d hd))
theorem mg_free (X : K.In h) (G : h.Ns mainGlobals mg) (c : SaysR K) {x : Str} (hx : x ∈ freeN) : mg x = none := PySem.W.mg_none_of X G (He.eqO_ok (List.all_eq_true.mp (c.fact 1) x hx))
theorem mg_at (X : K.In h) (G : h.Ns mainGlobals mg) {x : Str} {v : Value} (e : He.eqO (PySem.W.nsIn K mainGlobals x) (some (some v)) = true) : mg x = some v := PySem.W.mg_of X G (He.eqO_ok e)
theorem at_ld (X : K.In h) (G : h.Ns mainGlobals mg) (c : SaysR K) {d : LD} (i : Nat) (e : ldT[i]? = some d) : (∃ fd, Fun K d.nm d.nm (top d.ix) d.f fd) ∧ mg d.nm = some (.ref d.f) := ⟨fun_ld c i e, mg_ld X G c (List.mem_of_getElem? e)⟩
end
end
end Kx
end
section
set_option maxHeartbeats 4000000
namespace Kx
open PySem PySem.Spec PyProof.Rows L2
section
variable {P : Program} {w : World} {K : PySem.W.Frag} {mg : Str → Option Value} {h base : Heap} {CX : CXT} {k : Nat} {x : Str} {f : Addr} {fd : FuncData} {ps ks : List Str} {sp : Sp}
theorem use0 (G : FnOk P w K mg base CX k f fd ps sp) (b : Binds K fd ps []) (kp : PySem.W.keepIn K (.ref f) = true) (m : mg x = some (.ref f)) : Use P w K mg base CX k x ps sp [] := ⟨⟨f, fd, G, b, kp, m, (fun _ h => (nomatch h)), (fun _ h => (nomatch h))⟩⟩
theorem useR (G : FnOk P w K mg base CX k f fd ps sp) (b : Binds K fd ps []) (kp : PySem.W.keepIn K (.ref f) = true) (m : mg x = some (.ref f)) (kb : KBn K fd ps 0 ks revB revA) (hl : ¬ (ks.length = 1 ∧ ps.length = 2)) : Use P w K mg base CX k x ps sp [ks] :=
  ⟨⟨f, fd, G, b, kp, m, fun ks' h _ => by rw [List.mem_singleton.mp h]; exact kb, fun ks' h l1 l2 => absurd ⟨by rw [← List.mem_singleton.mp h]; exact l1, l2⟩ hl⟩⟩
theorem useN (G : FnOk P w K mg base CX k f fd ps sp) (b : Binds K fd ps []) (kp : PySem.W.keepIn K (.ref f) = true) (m : mg x = some (.ref f)) (kb : KBn K fd ps 1 ks appB appA) (hl : ks.length ≠ ps.length) : Use P w K mg base CX k x ps sp [ks] :=
  ⟨⟨f, fd, G, b, kp, m, fun ks' h l => absurd (by rw [← List.mem_singleton.mp h]; exact l) hl, fun ks' h _ _ => by rw [List.mem_singleton.mp h]; exact kb⟩⟩
end
def csT : List (Addr × Addr) := [(835, 831), (842, 838), (849, 845), (856, 852)]
theorem c1 : ((835 : Addr), (831 : Addr)) ∈ csT := List.mem_cons_self
theorem c2 : ((842 : Addr), (838 : Addr)) ∈ csT := List.mem_cons_of_mem _ (List.mem_cons_self)
theorem c3 : ((849 : Addr), (845 : Addr)) ∈ csT := List.mem_cons_of_mem _ (List.mem_cons_of_mem _ (List.mem_cons_self))
theorem c4 : ((856 : Addr), (852 : Addr)) ∈ csT := List.mem_cons_of_mem _ (List.mem_cons_of_mem _ (List.mem_cons_of_mem _ (List.mem_cons_self)))
abbrev lmN (x : Str) : Str := (x ++ ".<locals>.") ++ "<lambda>"
def tbT : List (Addr × Str) := [(831, lmN "_law_turned_so"), (838, lmN "_law_renamed_so"), (845, lmN "_law_exchange_so"), (852, lmN "_law_unlike_so")]
theorem t1 : ((831 : Addr), lmN "_law_turned_so") ∈ tbT := List.mem_cons_self
theorem t2 : ((838 : Addr), lmN "_law_renamed_so") ∈ tbT := List.mem_cons_of_mem _ (List.mem_cons_self)
theorem t3 : ((845 : Addr), lmN "_law_exchange_so") ∈ tbT := List.mem_cons_of_mem _ (List.mem_cons_of_mem _ (List.mem_cons_self))
theorem t4 : ((852 : Addr), lmN "_law_unlike_so") ∈ tbT := List.mem_cons_of_mem _ (List.mem_cons_of_mem _ (List.mem_cons_of_mem _ (List.mem_cons_self)))
theorem memN {α : Type} {p a0 a1 a2 a3 : α} (h : p ∈ [a0, a1, a2, a3]) : p = a0 ∨ p = a1 ∨ p = a2 ∨ p = a3 := by simpa using h
theorem tu1 : ∀ p ∈ tbT, p.1 = 831 → p.2 = lmN "_law_turned_so" := fun p hp e => by
  rcases memN hp with h | h | h | h <;> rw [h] at e ⊢
  · exact absurd (show (838 : Nat) = 831 from e) (by decide)
  · exact absurd (show (845 : Nat) = 831 from e) (by decide)
  · exact absurd (show (852 : Nat) = 831 from e) (by decide)
theorem tu2 : ∀ p ∈ tbT, p.1 = 838 → p.2 = lmN "_law_renamed_so" := fun p hp e => by
  rcases memN hp with h | h | h | h <;> rw [h] at e ⊢
  · exact absurd (show (831 : Nat) = 838 from e) (by decide)
  · exact absurd (show (845 : Nat) = 838 from e) (by decide)
  · exact absurd (show (852 : Nat) = 838 from e) (by decide)
theorem tu3 : ∀ p ∈ tbT, p.1 = 845 → p.2 = lmN "_law_exchange_so" := fun p hp e => by
  rcases memN hp with h | h | h | h <;> rw [h] at e ⊢
  · exact absurd (show (831 : Nat) = 845 from e) (by decide)
  · exact absurd (show (838 : Nat) = 845 from e) (by decide)
  · exact absurd (show (852 : Nat) = 845 from e) (by decide)
theorem tu4 : ∀ p ∈ tbT, p.1 = 852 → p.2 = lmN "_law_unlike_so" := fun p hp e => by
  rcases memN hp with h | h | h | h <;> rw [h] at e ⊢
  · exact absurd (show (831 : Nat) = 852 from e) (by decide)
  · exact absurd (show (838 : Nat) = 852 from e) (by decide)
  · exact absurd (show (845 : Nat) = 852 from e) (by decide)
theorem allE {f : _root_.Fin 2 → Bool} (h : (List.finRange 2).all f = true) (i : _root_.Fin 2) : f i = true := List.all_eq_true.mp h i (List.mem_finRange i)
section
variable {P : Program} {w : World} {K : PySem.W.Frag} {mg : Str → Option Value} {h : Heap}
theorem facts {f : Addr} (X : K.In h) (G : h.Ns mainGlobals mg) (hfa : mg ("law" : Str) = some (.ref f)) (c : SaysR K) :
    ∃ fd : FuncData, (∀ (s : Shared) (v : Value), BindsTo s fd ⟨[v], []⟩ [("_law_script", v)]) ∧ ∀ base : Heap, K.In base → base.Ns mainGlobals mg → (∀ p ∈ csT, LamX.TabB base mg p.1 p.2) → FnOk P w K mg base CX0 13 f fd ["_law_script"] (spLaw K tbT) := by
  have mf : ∀ x ∈ freeN, mg x = none := fun x hx => mg_free X G c hx
  have mn := mf "len" (by decide)
  have mI := mf "isinstance" (by decide)
  have ml := mf "list" (by decide)
  have mt := mf "tuple" (by decide)
  have mi := mf "int" (by decide)
  have mr := mf "range" (by decide)
  have ma := mf "all" (by decide)
  have mz := mf "zip" (by decide)
  have mb := mf "bool" (by decide)
  have ms := mf "str" (by decide)
  have mabs := mf "abs" (by decide)
  have men := mf "enumerate" (by decide)
  have msum := mf "sum" (by decide)
  have mG : mg "gcd" = some (.builtin "math.gcd") := mg_at X G (c.fact 2)
  have mLc : mg "lcm" = some (.builtin "math.lcm") := mg_at X G (c.fact 3)
  have mS : mg "Step" = some (.ref stA) := mg_at X G (c.fact 4)
  have mZ : mg "ZERO" = some (.ref zeA) := mg_at X G (c.fact 5)
  have mO : mg "ONE" = some (.ref onA) := mg_at X G (c.fact 6)
  have mM : mg "MINUS_ONE" = some (.ref moA) := mg_at X G (c.fact 7)
  have mC : mg "CreepError" = some (.ref ceA) := mg_at X G (c.fact 8)
  have mLO : ∃ u, mg "LOWEST_ORDER" = some u ∧ RelV (.int 2) u := let ⟨t, e⟩ := He.int_ok X G (c.fact 9); ⟨_, e, t, rfl⟩
  have mHO : ∃ u, mg "HIGHEST_ORDER" = some u ∧ RelV (.int 24) u := let ⟨t, e⟩ := He.int_ok X G (c.fact 10); ⟨_, e, t, rfl⟩
  have mMP : ∃ u, mg "MOST_POWER" = some u ∧ RelV (.int 64) u := let ⟨t, e⟩ := He.int_ok X G (c.fact 11); ⟨_, e, t, rfl⟩
  have k0 : KP K zeA 0 1 := kpB_ok (c.fact 12)
  have k1 : KP K onA 1 1 := kpB_ok (c.fact 13)
  have km : KP K moA (-1) 1 := kpB_ok (c.fact 14)
  obtain ⟨dm0, Fm0⟩ := fun_cl c 0
  obtain ⟨dm1, Fm1⟩ := fun_cl c 1
  obtain ⟨dm2, Fm2⟩ := fun_cl c 2
  obtain ⟨dm3, Fm3⟩ := fun_cl c 3
  obtain ⟨dm4, Fm4⟩ := fun_cl c 4
  obtain ⟨dm5, Fm5⟩ := fun_cl c 5
  obtain ⟨dm6, Fm6⟩ := fun_cl c 6
  obtain ⟨dm7, Fm7⟩ := fun_cl c 7
  obtain ⟨dm8, Fm8⟩ := fun_cl c 8
  obtain ⟨dm9, Fm9⟩ := fun_cl c 9
  obtain ⟨dm10, Fm10⟩ := fun_cl c 10
  obtain ⟨dm11, Fm11⟩ := fun_cl c 11
  obtain ⟨dm12, Fm12⟩ := fun_cl c 12
  obtain ⟨clS, nAS, MkS, tyS'⟩ := owT_ok (c.fact 15)
  obtain ⟨x0, ty0, i0, fi0, n0⟩ := exB_ok (c.fact 16) ⟨_, _, F.excBase_ValueError, F.store_ValueError⟩
  obtain ⟨x1, ty1, i1, fi1, n1⟩ := exB_ok (c.fact 17) ⟨_, _, F.excBase_ValueError, F.store_ValueError⟩
  obtain ⟨x2, ty2, i2, fi2, n2⟩ := exB_ok (c.fact 18) ⟨_, _, F.excBase_ValueError, F.store_ValueError⟩
  obtain ⟨x3, ty3, i3, fi3, n3⟩ := exB_ok (c.fact 19) ⟨_, _, F.excBase_ValueError, F.store_ValueError⟩
  obtain ⟨x4, ty4, i4, fi4, n4⟩ := exB_ok (c.fact 20) ⟨_, _, F.excBase_ValueError, F.store_ValueError⟩
  obtain ⟨⟨d_is_whole, F_is_whole⟩, g_is_whole⟩ := at_ld X G c 0 rfl
  obtain ⟨⟨d_is_between, F_is_between⟩, g_is_between⟩ := at_ld X G c 1 rfl
  obtain ⟨⟨d_is_fraction, F_is_fraction⟩, g_is_fraction⟩ := at_ld X G c 2 rfl
  obtain ⟨⟨d_ratio, F_ratio⟩, g_ratio⟩ := at_ld X G c 3 rfl
  obtain ⟨⟨d_difference_of, F_difference_of⟩, g_difference_of⟩ := at_ld X G c 4 rfl
  obtain ⟨⟨d_quotient_of, F_quotient_of⟩, g_quotient_of⟩ := at_ld X G c 5 rfl
  obtain ⟨⟨d_is_listing, F_is_listing⟩, g_is_listing⟩ := at_ld X G c 6 rfl
  obtain ⟨⟨d_check_order, F_check_order⟩, g_check_order⟩ := at_ld X G c 7 rfl
  obtain ⟨⟨d_check_orders, F_check_orders⟩, g_check_orders⟩ := at_ld X G c 8 rfl
  obtain ⟨⟨d_check_cut, F_check_cut⟩, g_check_cut⟩ := at_ld X G c 9 rfl
  obtain ⟨⟨d_wrong_item, F_wrong_item⟩, g_wrong_item⟩ := at_ld X G c 10 rfl
  obtain ⟨⟨d_check_fractions, F_check_fractions⟩, g_check_fractions⟩ := at_ld X G c 11 rfl
  obtain ⟨⟨d_checked_numbers, F_checked_numbers⟩, g_checked_numbers⟩ := at_ld X G c 12 rfl
  obtain ⟨⟨d_check_turnable, F_check_turnable⟩, g_check_turnable⟩ := at_ld X G c 13 rfl
  obtain ⟨⟨d_is_zero, F_is_zero⟩, g_is_zero⟩ := at_ld X G c 14 rfl
  obtain ⟨⟨d_least_place, F_least_place⟩, g_least_place⟩ := at_ld X G c 15 rfl
  obtain ⟨⟨d_dot, F_dot⟩, g_dot⟩ := at_ld X G c 16 rfl
  obtain ⟨⟨d_mixed, F_mixed⟩, g_mixed⟩ := at_ld X G c 17 rfl
  obtain ⟨⟨d_over_one_lower, F_over_one_lower⟩, g_over_one_lower⟩ := at_ld X G c 18 rfl
  obtain ⟨⟨d_multiplied, F_multiplied⟩, g_multiplied⟩ := at_ld X G c 19 rfl
  obtain ⟨⟨d_still_numbers, F_still_numbers⟩, g_still_numbers⟩ := at_ld X G c 20 rfl
  obtain ⟨⟨d_table_lines, F_table_lines⟩, g_table_lines⟩ := at_ld X G c 21 rfl
  obtain ⟨⟨d_put_behind, F_put_behind⟩, g_put_behind⟩ := at_ld X G c 22 rfl
  obtain ⟨⟨d_solved, F_solved⟩, g_solved⟩ := at_ld X G c 23 rfl
  obtain ⟨⟨d_turned_back, F_turned_back⟩, g_turned_back⟩ := at_ld X G c 24 rfl
  obtain ⟨⟨d_done_times, F_done_times⟩, g_done_times⟩ := at_ld X G c 25 rfl
  obtain ⟨⟨d_kind_of, F_kind_of⟩, g_kind_of⟩ := at_ld X G c 26 rfl
  obtain ⟨⟨d_trade, F_trade⟩, g_trade⟩ := at_ld X G c 27 rfl
  obtain ⟨⟨d_exchange, F_exchange⟩, g_exchange⟩ := at_ld X G c 28 rfl
  obtain ⟨⟨d__law_bag, F__law_bag⟩, g__law_bag⟩ := at_ld X G c 29 rfl
  obtain ⟨⟨d__law_draw, F__law_draw⟩, g__law_draw⟩ := at_ld X G c 30 rfl
  obtain ⟨⟨d__law_of, F__law_of⟩, g__law_of⟩ := at_ld X G c 31 rfl
  obtain ⟨⟨d__law_like, F__law_like⟩, g__law_like⟩ := at_ld X G c 32 rfl
  obtain ⟨⟨d__law_low, F__law_low⟩, g__law_low⟩ := at_ld X G c 33 rfl
  obtain ⟨⟨d__law_add, F__law_add⟩, g__law_add⟩ := at_ld X G c 34 rfl
  obtain ⟨⟨d__law_mul, F__law_mul⟩, g__law_mul⟩ := at_ld X G c 35 rfl
  obtain ⟨⟨d__law_times, F__law_times⟩, g__law_times⟩ := at_ld X G c 36 rfl
  obtain ⟨⟨d__law_plus, F__law_plus⟩, g__law_plus⟩ := at_ld X G c 37 rfl
  obtain ⟨⟨d__law_scale, F__law_scale⟩, g__law_scale⟩ := at_ld X G c 38 rfl
  obtain ⟨⟨d__law_put, F__law_put⟩, g__law_put⟩ := at_ld X G c 39 rfl
  obtain ⟨⟨d__law_behind, F__law_behind⟩, g__law_behind⟩ := at_ld X G c 40 rfl
  obtain ⟨⟨d__law_still, F__law_still⟩, g__law_still⟩ := at_ld X G c 41 rfl
  obtain ⟨⟨d__law_size, F__law_size⟩, g__law_size⟩ := at_ld X G c 42 rfl
  obtain ⟨⟨d__law_number, F__law_number⟩, g__law_number⟩ := at_ld X G c 43 rfl
  obtain ⟨⟨d__law_full, F__law_full⟩, g__law_full⟩ := at_ld X G c 44 rfl
  obtain ⟨⟨d__law_spread, F__law_spread⟩, g__law_spread⟩ := at_ld X G c 45 rfl
  obtain ⟨⟨d__law_lead, F__law_lead⟩, g__law_lead⟩ := at_ld X G c 46 rfl
  obtain ⟨⟨d__law_step, F__law_step⟩, g__law_step⟩ := at_ld X G c 47 rfl
  obtain ⟨⟨d__law_slow, F__law_slow⟩, g__law_slow⟩ := at_ld X G c 48 rfl
  obtain ⟨⟨d__law_turnable, F__law_turnable⟩, g__law_turnable⟩ := at_ld X G c 49 rfl
  obtain ⟨⟨d__law_is, F__law_is⟩, g__law_is⟩ := at_ld X G c 50 rfl
  obtain ⟨⟨d__law_step_so, F__law_step_so⟩, g__law_step_so⟩ := at_ld X G c 51 rfl
  obtain ⟨⟨d__law_numbers_so, F__law_numbers_so⟩, g__law_numbers_so⟩ := at_ld X G c 52 rfl
  obtain ⟨⟨d__law_fault, F__law_fault⟩, g__law_fault⟩ := at_ld X G c 53 rfl
  obtain ⟨⟨d__law_ask, F__law_ask⟩, g__law_ask⟩ := at_ld X G c 54 rfl
  obtain ⟨⟨d__law_turned_so, F__law_turned_so⟩, g__law_turned_so⟩ := at_ld X G c 55 rfl
  obtain ⟨⟨d__law_renamed_so, F__law_renamed_so⟩, g__law_renamed_so⟩ := at_ld X G c 56 rfl
  obtain ⟨⟨d__law_exchange_so, F__law_exchange_so⟩, g__law_exchange_so⟩ := at_ld X G c 57 rfl
  obtain ⟨⟨d__law_unlike_so, F__law_unlike_so⟩, g__law_unlike_so⟩ := at_ld X G c 58 rfl
  obtain ⟨⟨d_law, F_law⟩, g_law⟩ := at_ld X G c 59 rfl
  have b_is_whole : Binds K d_is_whole ["value"] [] := F_is_whole.binds fun _ _ _ _ _ _ us hl => match us, hl with | [_], _ => rfl
  have b_is_between : Binds K d_is_between ["value", "low", "high"] [] := F_is_between.binds fun _ _ _ _ _ _ us hl => match us, hl with | [_, _, _], _ => rfl
  have b_is_fraction : Binds K d_is_fraction ["value"] [] := F_is_fraction.binds fun _ _ _ _ _ _ us hl => match us, hl with | [_], _ => rfl
  have b_ratio : Binds K d_ratio ["upper", "lower"] [] := F_ratio.binds fun _ _ _ _ _ _ us hl => match us, hl with | [_, _], _ => rfl
  have b_difference_of : Binds K d_difference_of ["one", "other"] [] := F_difference_of.binds fun _ _ _ _ _ _ us hl => match us, hl with | [_, _], _ => rfl
  have b_quotient_of : Binds K d_quotient_of ["one", "other"] [] := F_quotient_of.binds fun _ _ _ _ _ _ us hl => match us, hl with | [_, _], _ => rfl
  have b_is_listing : Binds K d_is_listing ["value"] [] := F_is_listing.binds fun _ _ _ _ _ _ us hl => match us, hl with | [_], _ => rfl
  have b_check_order : Binds K d_check_order ["order"] [] := F_check_order.binds fun _ _ _ _ _ _ us hl => match us, hl with | [_], _ => rfl
  have b_check_orders : Binds K d_check_orders ["one", "other"] [] := F_check_orders.binds fun _ _ _ _ _ _ us hl => match us, hl with | [_, _], _ => rfl
  have b_check_cut : Binds K d_check_cut ["have", "wanted"] [] := F_check_cut.binds fun _ _ _ _ _ _ us hl => match us, hl with | [_, _], _ => rfl
  have b_wrong_item : Binds K d_wrong_item ["numbers"] [] := F_wrong_item.binds fun _ _ _ _ _ _ us hl => match us, hl with | [_], _ => rfl
  have b_check_fractions : Binds K d_check_fractions ["numbers"] [] := F_check_fractions.binds fun _ _ _ _ _ _ us hl => match us, hl with | [_], _ => rfl
  have b_checked_numbers : Binds K d_checked_numbers ["numbers", "further"] [] := F_checked_numbers.binds fun _ _ _ _ _ _ us hl => match us, hl with | [_, _], _ => rfl
  have b_check_turnable : Binds K d_check_turnable ["step"] [] := F_check_turnable.binds fun _ _ _ _ _ _ us hl => match us, hl with | [_], _ => rfl
  have b_is_zero : Binds K d_is_zero ["numbers"] [] := F_is_zero.binds fun _ _ _ _ _ _ us hl => match us, hl with | [_], _ => rfl
  have b_least_place : Binds K d_least_place ["numbers", "first"] [] := F_least_place.binds fun _ _ _ _ _ _ us hl => match us, hl with | [_, _], _ => rfl
  have b_dot : Binds K d_dot ["ones", "others"] [] := F_dot.binds fun _ _ _ _ _ _ us hl => match us, hl with | [_, _], _ => rfl
  have b_mixed : Binds K d_mixed ["factors", "lists"] [] := F_mixed.binds fun _ _ _ _ _ _ us hl => match us, hl with | [_, _], _ => rfl
  have b_over_one_lower : Binds K d_over_one_lower ["numbers"] [] := F_over_one_lower.binds fun _ _ _ _ _ _ us hl => match us, hl with | [_], _ => rfl
  have b_multiplied : Binds K d_multiplied ["one", "other"] [] := F_multiplied.binds fun _ _ _ _ _ _ us hl => match us, hl with | [_, _], _ => rfl
  have b_still_numbers : Binds K d_still_numbers ["order"] [] := F_still_numbers.binds fun _ _ _ _ _ _ us hl => match us, hl with | [_], _ => rfl
  have b_table_lines : Binds K d_table_lines ["numbers"] [] := F_table_lines.binds fun _ _ _ _ _ _ us hl => match us, hl with | [_], _ => rfl
  have b_put_behind : Binds K d_put_behind ["one", "other"] [] := F_put_behind.binds fun _ _ _ _ _ _ us hl => match us, hl with | [_, _], _ => rfl
  have b_solved : Binds K d_solved ["lines", "wanted"] [] := F_solved.binds fun _ _ _ _ _ _ us hl => match us, hl with | [_, _], _ => rfl
  have b_turned_back : Binds K d_turned_back ["numbers"] [] := F_turned_back.binds fun _ _ _ _ _ _ us hl => match us, hl with | [_], _ => rfl
  have b_done_times : Binds K d_done_times ["numbers", "times"] [] := F_done_times.binds fun _ _ _ _ _ _ us hl => match us, hl with | [_, _], _ => rfl
  have b_kind_of : Binds K d_kind_of ["numbers"] [] := F_kind_of.binds fun _ _ _ _ _ _ us hl => match us, hl with | [_], _ => rfl
  have b_trade : Binds K d_trade ["one", "other"] [] := F_trade.binds fun _ _ _ _ _ _ us hl => match us, hl with | [_, _], _ => rfl
  have b_exchange : Binds K d_exchange ["one", "other"] [] := F_exchange.binds fun _ _ _ _ _ _ us hl => match us, hl with | [_, _], _ => rfl
  have b__law_bag : Binds K d__law_bag ["_law_script"] [] := F__law_bag.binds fun _ _ _ _ _ _ us hl => match us, hl with | [_], _ => rfl
  have b__law_draw : Binds K d__law_draw ["_law_bag_here", "_law_limit"] [] := F__law_draw.binds fun _ _ _ _ _ _ us hl => match us, hl with | [_, _], _ => rfl
  have b__law_of : Binds K d__law_of ["_law_bag_here", "_law_things"] [] := F__law_of.binds fun _ _ _ _ _ _ us hl => match us, hl with | [_, _], _ => rfl
  have b__law_like : Binds K d__law_like ["_law_told", "_law_due"] [] := F__law_like.binds fun _ _ _ _ _ _ us hl => match us, hl with | [_, _], _ => rfl
  have b__law_low : Binds K d__law_low ["_law_p", "_law_q"] [] := F__law_low.binds fun _ _ _ _ _ _ us hl => match us, hl with | [_, _], _ => rfl
  have b__law_add : Binds K d__law_add ["_law_a", "_law_b"] [] := F__law_add.binds fun _ _ _ _ _ _ us hl => match us, hl with | [_, _], _ => rfl
  have b__law_mul : Binds K d__law_mul ["_law_a", "_law_b"] [] := F__law_mul.binds fun _ _ _ _ _ _ us hl => match us, hl with | [_, _], _ => rfl
  have b__law_times : Binds K d__law_times ["_law_u", "_law_w"] [] := F__law_times.binds fun _ _ _ _ _ _ us hl => match us, hl with | [_, _], _ => rfl
  have b__law_plus : Binds K d__law_plus ["_law_u", "_law_w"] [] := F__law_plus.binds fun _ _ _ _ _ _ us hl => match us, hl with | [_, _], _ => rfl
  have b__law_scale : Binds K d__law_scale ["_law_u", "_law_c"] [] := F__law_scale.binds fun _ _ _ _ _ _ us hl => match us, hl with | [_, _], _ => rfl
  have b__law_put : Binds K d__law_put ["_law_u", "_law_f"] [] := F__law_put.binds fun _ _ _ _ _ _ us hl => match us, hl with | [_, _], _ => rfl
  have b__law_behind : Binds K d__law_behind ["_law_a", "_law_b"] [] := F__law_behind.binds fun _ _ _ _ _ _ us hl => match us, hl with | [_, _], _ => rfl
  have b__law_still : Binds K d__law_still ["_law_size_here"] [] := F__law_still.binds fun _ _ _ _ _ _ us hl => match us, hl with | [_], _ => rfl
  have b__law_size : Binds K d__law_size ["_law_bag_here"] [] := F__law_size.binds fun _ _ _ _ _ _ us hl => match us, hl with | [_], _ => rfl
  have b__law_number : Binds K d__law_number ["_law_bag_here"] [] := F__law_number.binds fun _ _ _ _ _ _ us hl => match us, hl with | [_], _ => rfl
  have b__law_full : Binds K d__law_full ["_law_bag_here"] [] := F__law_full.binds fun _ _ _ _ _ _ us hl => match us, hl with | [_], _ => rfl
  have b__law_spread : Binds K d__law_spread ["_law_bag_here", "_law_size_here", "_law_first"] [] := F__law_spread.binds fun _ _ _ _ _ _ us hl => match us, hl with | [_, _, _], _ => rfl
  have b__law_lead : Binds K d__law_lead ["_law_bag_here"] [] := F__law_lead.binds fun _ _ _ _ _ _ us hl => match us, hl with | [_], _ => rfl
  have b__law_step : Binds K d__law_step ["_law_bag_here", "_law_size_here"] [] := F__law_step.binds fun _ _ _ _ _ _ us hl => match us, hl with | [_, _], _ => rfl
  have b__law_slow : Binds K d__law_slow ["_law_bag_here", "_law_size_here"] [] := F__law_slow.binds fun _ _ _ _ _ _ us hl => match us, hl with | [_, _], _ => rfl
  have b__law_turnable : Binds K d__law_turnable ["_law_bag_here", "_law_size_here"] [] := F__law_turnable.binds fun _ _ _ _ _ _ us hl => match us, hl with | [_, _], _ => rfl
  have b__law_is : Binds K d__law_is ["_law_thing"] [] := F__law_is.binds fun _ _ _ _ _ _ us hl => match us, hl with | [_], _ => rfl
  have b__law_step_so : Binds K d__law_step_so ["_law_told", "_law_due"] [] := F__law_step_so.binds fun _ _ _ _ _ _ us hl => match us, hl with | [_, _], _ => rfl
  have b__law_numbers_so : Binds K d__law_numbers_so ["_law_told", "_law_size_here"] [] := F__law_numbers_so.binds fun _ _ _ _ _ _ us hl => match us, hl with | [_, _], _ => rfl
  have b__law_fault : Binds K d__law_fault ["_law_error"] [] := F__law_fault.binds fun _ _ _ _ _ _ us hl => match us, hl with | [_], _ => rfl
  have b__law_ask : Binds K d__law_ask ["_law_deed"] [] := F__law_ask.binds fun _ _ _ _ _ _ us hl => match us, hl with | [_], _ => rfl
  have b__law_turned_so : Binds K d__law_turned_so ["_law_bag_here", "_law_a"] [] := F__law_turned_so.binds fun _ _ _ _ _ _ us hl => match us, hl with | [_, _], _ => rfl
  have b__law_renamed_so : Binds K d__law_renamed_so ["_law_a", "_law_b", "_law_c"] [] := F__law_renamed_so.binds fun _ _ _ _ _ _ us hl => match us, hl with | [_, _, _], _ => rfl
  have b__law_exchange_so : Binds K d__law_exchange_so ["_law_a", "_law_b"] [] := F__law_exchange_so.binds fun _ _ _ _ _ _ us hl => match us, hl with | [_, _], _ => rfl
  have b__law_unlike_so : Binds K d__law_unlike_so ["_law_bag_here", "_law_a"] [] := F__law_unlike_so.binds fun _ _ _ _ _ _ us hl => match us, hl with | [_, _], _ => rfl
  have b_law : Binds K d_law ["_law_script"] [] := F_law.binds fun _ _ _ _ _ _ us hl => match us, hl with | [_], _ => rfl
  have bm0 : Binds K dm0 ["self", "numbers"] [] := Fm0.binds fun _ _ _ _ _ _ us hl => match us, hl with | [_, _], _ => rfl
  have bm1 : Binds K dm1 ["self"] [] := Fm1.binds fun _ _ _ _ _ _ us hl => match us, hl with | [_], _ => rfl
  have bm2 : Binds K dm2 ["self", "order"] [] := Fm2.binds fun _ _ _ _ _ _ us hl => match us, hl with | [_, _], _ => rfl
  have bm3 : Binds K dm3 ["self", "t"] [] := Fm3.binds fun _ _ _ _ _ _ us hl => match us, hl with | [_, _], _ => rfl
  have bm4 : Binds K dm4 ["self", "step"] [] := Fm4.binds fun _ _ _ _ _ _ us hl => match us, hl with | [_, _], _ => rfl
  have bm5 : Binds K dm5 ["self", "other"] [] := Fm5.binds fun _ _ _ _ _ _ us hl => match us, hl with | [_, _], _ => rfl
  have bm6 : Binds K dm6 ["self"] [] := Fm6.binds fun _ _ _ _ _ _ us hl => match us, hl with | [_], _ => rfl
  have bm7 : Binds K dm7 ["self", "other"] [] := Fm7.binds fun _ _ _ _ _ _ us hl => match us, hl with | [_, _], _ => rfl
  have bm8 : Binds K dm8 ["self", "one", "other"] [] := Fm8.binds fun _ _ _ _ _ _ us hl => match us, hl with | [_, _, _], _ => rfl
  have bm9 : Binds K dm9 ["self"] [] := Fm9.binds fun _ _ _ _ _ _ us hl => match us, hl with | [_], _ => rfl
  have bm10 : Binds K dm10 ["self", "at"] [] := Fm10.binds fun _ _ _ _ _ _ us hl => match us, hl with | [_, _], _ => rfl
  have bm11 : Binds K dm11 ["self", "value"] [] := Fm11.binds fun _ _ _ _ _ _ us hl => match us, hl with | [_, _], _ => rfl
  have bm12 : Binds K dm12 ["self", "have", "wanted"] [] := Fm12.binds fun _ _ _ _ _ _ us hl => match us, hl with | [_, _, _], _ => rfl
  have e : f = 864 := Value.ref.inj (Option.some.inj (hfa.symm.trans g_law))
  subst e
  refine ⟨d_law, fun s v => ?_, fun base _ _ hTB => ?_⟩
  · obtain ⟨oc, od, kV, doc, pm, an, cdv, ct, osl, e, lk, hcd⟩ := F_law.ex
    rw [e]
    exact .of_eq rfl
  have Z0 : ErrC P w K mg base "UnlikeOrders" 2 (fs2 "UnlikeOrders" "one" "other") (csE 0) := ⟨x0, ty0, mg_at X G (c.fact 21), 133, dm8, _, i0, fi0, init_5 Fm8 x0 (n0 _ (by decide)) (n0 _ (by decide)) (n0 _ (by decide)), bm8⟩
  have Z1 : ErrC P w K mg base "CantTurn" 0 (fs0 "CantTurn") (csE 1) := ⟨x1, ty1, mg_at X G (c.fact 22), 190, dm9, _, i1, fi1, init_C Fm9 x1 (n1 _ (by decide)) , bm9⟩
  have Z2 : ErrC P w K mg base "InvalidFraction" 1 (fs1 "InvalidFraction" "at") cfA := ⟨x2, ty2, mg_at X G (c.fact 23), 76, dm10, _, i2, fi2, init_2 Fm10 x2 (n2 _ (by decide)) (n2 _ (by decide)), bm10⟩
  have Z3 : ErrC P w K mg base "InvalidOrder" 1 (fs1 "InvalidOrder" "value") coA := ⟨x3, ty3, mg_at X G (c.fact 24), 95, dm11, _, i3, fi3, init_3 Fm11 x3 (n3 _ (by decide)) (n3 _ (by decide)), bm11⟩
  have Z4 : ErrC P w K mg base "OrderTooLow" 2 (fs2 "OrderTooLow" "have" "wanted") clA := ⟨x4, ty4, mg_at X G (c.fact 25), 114, dm12, _, i4, fi4, init_4 Fm12 x4 (n4 _ (by decide)) (n4 _ (by decide)) (n4 _ (by decide)), bm12⟩
  have Uw : Use P w K mg base CX0 1 "is_whole" ["value"] (spWhole K) [] := use0 (ok_whole F_is_whole mI mi mb) b_is_whole F_is_whole.kp g_is_whole
  have Ub : Use P w K mg base CX0 2 "is_between" ["value", "low", "high"] (spBtw K) [] := use0 (ok_btw F_is_between Uw) b_is_between F_is_between.kp g_is_between
  have Uf : Use P w K mg base CX0 2 "is_fraction" ["value"] (spIsG K) [] := use0 (ok_isg F_is_fraction mI mt mn mG Uw) b_is_fraction F_is_fraction.kp g_is_fraction
  have Ur : Use P w K mg base CX0 1 "ratio" ["upper", "lower"] spLowQ [] := use0 (ok_ratio F_ratio mG) b_ratio F_ratio.kp g_ratio
  have Udf : Use P w K mg base CX0 2 "difference_of" ["one", "other"] (spDifQ K) [] := use0 (ok_difference F_difference_of Ur) b_difference_of F_difference_of.kp g_difference_of
  have Uqu : Use P w K mg base CX0 2 "quotient_of" ["one", "other"] (spQuoQ K) [] := use0 (ok_quotient F_quotient_of Ur) b_quotient_of F_quotient_of.kp g_quotient_of
  have Uco : Use P w K mg base (L2.CX P w) 3 "check_order" ["order"] (spCo K coA) [] := use0 (ok_corder F_check_order Ub mLO mHO Z3) b_check_order F_check_order.kp g_check_order
  have Ucs : Use P w K mg base (L2.CX P w) 3 "check_orders" ["one", "other"] (spCor K (csE 0)) [] := use0 (ok_corders F_check_orders Z0) b_check_orders F_check_orders.kp g_check_orders
  have Ucc : Use P w K mg base (L2.CX P w) 4 "check_cut" ["have", "wanted"] (spCc K coA clA) [] := use0 (ok_ccut F_check_cut Uco Z4) b_check_cut F_check_cut.kp g_check_cut
  have Uil : Use P w K mg base CX0 1 "is_listing" ["value"] (spIl K) [] := use0 (ok_listing F_is_listing mI ml mt) b_is_listing F_is_listing.kp g_is_listing
  have Uwi : Use P w K mg base CX0 3 "wrong_item" ["numbers"] (spWi K) [] := use0 (ok_wrong F_wrong_item men Uf) b_wrong_item F_wrong_item.kp g_wrong_item
  have Ucf : Use P w K mg base (L2.CX P w) 4 "check_fractions" ["numbers"] (spCf K cfA) [] := use0 (ok_cfrac F_check_fractions Uwi Z2) b_check_fractions F_check_fractions.kp g_check_fractions
  have Ucn : Use P w K mg base (L2.CX P w) 5 "checked_numbers" ["numbers", "further"] (spCn K cfA coA) [] := use0 (ok_checked F_checked_numbers mn ml Uil Uco Ucf Z2) b_checked_numbers F_checked_numbers.kp g_checked_numbers
  have Uiz : Use P w K mg base CX0 1 "is_zero" ["numbers"] (spIz K) [] := use0 (ok_iszero F_is_zero k0 ma mZ) b_is_zero F_is_zero.kp g_is_zero
  have Ulp : Use P w K mg base CX0 1 "least_place" ["numbers", "first"] (spLp K) [] := use0 (ok_least F_least_place k0 men mZ) b_least_place F_least_place.kp g_least_place
  have Uol : Use P w K mg base CX0 1 "over_one_lower" ["numbers"] (spOol K) [] := use0 (ok_ool F_over_one_lower mLc) b_over_one_lower F_over_one_lower.kp g_over_one_lower
  have Umd : Use P w K mg base CX0 2 "multiplied" ["one", "other"] (spMulL K) [] := use0 (ok_multiplied F_multiplied mn mr msum Uol Ur) b_multiplied F_multiplied.kp g_multiplied
  have Utb : Use P w K mg base CX0 3 "table_lines" ["numbers"] (spTabG K) [] := use0 (ok_tabG F_table_lines k0 mZ mn Umd) b_table_lines F_table_lines.kp g_table_lines
  have Udo : Use P w K mg base CX0 2 "dot" ["ones", "others"] (spDot K) [] := use0 (ok_dot F_dot mz mLc Ur) b_dot F_dot.kp g_dot
  have Umx : Use P w K mg base CX0 3 "mixed" ["factors", "lists"] (spMix K) [] := use0 (ok_mixed F_mixed mn mr Udo) b_mixed F_mixed.kp g_mixed
  have Usn : Use P w K mg base CX0 1 "still_numbers" ["order"] (spSn K) [] := use0 (ok_stilln F_still_numbers k1 k0 mZ mO) b_still_numbers F_still_numbers.kp g_still_numbers
  have Upb : Use P w K mg base CX0 4 "put_behind" ["one", "other"] (spPutG K) [] := use0 (ok_putG F_put_behind Umx Utb) b_put_behind F_put_behind.kp g_put_behind
  have Uso : Use P w K mg base CX0 3 "solved" ["lines", "wanted"] (spSolv K) [] := use0 (ok_solved F_solved men Udo Udf Uqu) b_solved F_solved.kp g_solved
  have Utn : Use P w K mg base CX0 4 "turned_back" ["numbers"] (spTrn K) [] := use0 (ok_turned F_turned_back mn Uso Utb Usn) b_turned_back F_turned_back.kp g_turned_back
  have Ud0 : Use P w K mg base CX0 5 "done_times" ["numbers", "times"] (spDone K 0) [] := use0 (ok_done F_done_times (fun N' e => by cases e) Upb) b_done_times F_done_times.kp g_done_times
  have Ud1 : Use P w K mg base CX0 6 "done_times" ["numbers", "times"] (spDone K 1) [] := use0 (ok_done F_done_times (fun N' e => by cases e; exact Ud0) Upb) b_done_times F_done_times.kp g_done_times
  have Ud2 : Use P w K mg base CX0 7 "done_times" ["numbers", "times"] (spDone K 2) [] := use0 (ok_done F_done_times (fun N' e => by cases e; exact Ud1) Upb) b_done_times F_done_times.kp g_done_times
  have Uko : Use P w K mg base CX0 2 "kind_of" ["numbers"] (spKo K) [] := use0 (ok_kind F_kind_of k1 k0 km mZ mO mM Uiz) b_kind_of F_kind_of.kp g_kind_of
  have sk : StepK P w K mg base rwA stA cfA coA := ⟨clS, nAS, mS, ⟨_, _, MkS, ok_stinit Fm0 clS nAS mn Ucn Uko Ulp, bm0⟩, tyS', of_decide_eq_true (c.fact 30), fun n hn => of_decide_eq_true (List.all_eq_true.mp (c.fact 28) n hn), of_decide_eq_true (c.fact 29)⟩
  have kSS := of_decide_eq_true (c.fact 30)
  have mt' : ∀ t ∈ mtT, PySem.W.findIn K (.ref t.1) t.2.2 = some (some (.ref t.2.1)) ∧ PySem.W.isFn K (.ref t.2.1) = true := fun t ht => by
    obtain ⟨h1, h2⟩ := He.ba (List.all_eq_true.mp (c.fact 32) t ht)
    exact ⟨He.eqO_ok h1, h2⟩
  have Uct : Use P w K mg base (L2.CX P w) 3 "check_turnable" ["step"] (spCkT K stA (csE 1)) [] := use0 (ok_cturn F_check_turnable sk k0 mZ Z1) b_check_turnable F_check_turnable.kp g_check_turnable
  have Mnu : MUse P w K mg base CX0 1 stA "numbers" ["self"] (spNuS K stA) [] := ⟨⟨547, dm1, ⟨(mt' (stA, 547, "numbers") (by simp [mtT])).1, (mt' (stA, 547, "numbers") (by simp [mtT])).2, Fm1.kp⟩, ok_snumbers Fm1 sk ml, bm1, fun ks hk => nomatch hk⟩, clS⟩
  have Mcu : MUse P w K mg base (L2.CX P w) 8 stA "cut" ["self", "order"] (spCuS K stA coA clA) [["order"]] := ⟨⟨575, dm2, ⟨(mt' (stA, 575, "cut") (by simp [mtT])).1, (mt' (stA, 575, "cut") (by simp [mtT])).2, Fm2.kp⟩, ok_scut Fm2 sk Ucc, bm2, fun ks hk => by rw [List.mem_singleton.mp hk]; exact kb_mix Fm2 (fun _ _ _ _ _ _ _ _ => rfl)⟩, clS⟩
  have Mpw : MUse P w K mg base (L2.CX P w) 8 stA "power" ["self", "t"] (spPwS K stA (csE 1)) [] := ⟨⟨561, dm3, ⟨(mt' (stA, 561, "power") (by simp [mtT])).1, (mt' (stA, 561, "power") (by simp [mtT])).2, Fm3.kp⟩, ok_spower Fm3 sk Ub Uct Utn Ud2 mMP, bm3, fun ks hk => nomatch hk⟩, clS⟩
  have Oss : OpM P w K mg base CX0 1 stA "__eq__" (spEqS K stA) := ⟨⟨617, dm7, _, (mt' (stA, 617, "__eq__") (by simp [mtT])).1, (mt' (stA, 617, "__eq__") (by simp [mtT])).2, ok_seqS (ok_seqF Fm7 sk mI), bm7⟩, c.fact 31⟩
  have OsF : OpM P w K mg base CX0 1 stA "__eq__" (spEqF K stA) := ⟨⟨617, dm7, _, (mt' (stA, 617, "__eq__") (by simp [mtT])).1, (mt' (stA, 617, "__eq__") (by simp [mtT])).2, ok_seqF Fm7 sk mI, bm7⟩, c.fact 31⟩
  have Osm : OpM P w K mg base (L2.CX P w) 8 stA "__mul__" (spOpSG K stA (csE 0)) := ⟨⟨603, dm5, _, (mt' (stA, 603, "__mul__") (by simp [mtT])).1, (mt' (stA, 603, "__mul__") (by simp [mtT])).2, ok_smulG Fm5 sk Ucs Upb Mnu, bm5⟩, c.fact 31⟩
  have Oin : OpM P w K mg base (L2.CX P w) 8 stA "__invert__" (spInv K stA (csE 1)) := ⟨⟨610, dm6, _, (mt' (stA, 610, "__invert__") (by simp [mtT])).1, (mt' (stA, 610, "__invert__") (by simp [mtT])).2, ok_invert Fm6 sk Uct Utn, bm6⟩, c.fact 31⟩
  have Mre : MUse P w K mg base (L2.CX P w) 9 stA "renamed" ["self", "step"] (spRen K stA (csE 0) (csE 1)) [["step"]] := ⟨⟨568, dm4, ⟨(mt' (stA, 568, "renamed") (by simp [mtT])).1, (mt' (stA, 568, "renamed") (by simp [mtT])).2, Fm4.kp⟩, ok_renamed Fm4 sk Ucs Osm Oin, bm4, fun ks hk => by rw [List.mem_singleton.mp hk]; exact kb_mix Fm4 (fun _ _ _ _ _ _ _ _ => rfl)⟩, clS⟩
  have Utr : Use P w K mg base (L2.CX P w) 9 "trade" ["one", "other"] (spTrd K stA (csE 0)) [["other", "one"]] := useR (ok_trade F_trade sk Osm OsF) b_trade F_trade.kp g_trade (kb_two F_trade (fun _ _ _ _ _ _ _ _ => rfl)) (by decide)
  have Uex : Use P w K mg base (L2.CX P w) 9 "exchange" ["one", "other"] (spExc K stA (csE 0) (csE 1)) [["other", "one"]] := useR (ok_exchange F_exchange sk Osm Oin) b_exchange F_exchange.kp g_exchange (kb_two F_exchange (fun _ _ _ _ _ _ _ _ => rfl)) (by decide)
  have Ldr : Use P w K mg base CX0 1 "_law_draw" ["_law_bag_here", "_law_limit"] spDraw [] := use0 (ok_draw F__law_draw mn mi) b__law_draw F__law_draw.kp g__law_draw
  have Lof : Use P w K mg base CX0 2 "_law_of" ["_law_bag_here", "_law_things"] spOfL [] := use0 (ok_ofL F__law_of (ok_draw F__law_draw mn mi) b__law_draw F__law_draw.kp g__law_draw mn) b__law_of F__law_of.kp g__law_of
  have Glo := ok_lowQ (P := P) (w := w) (base := base) F__law_low mabs mi
  have Llo : Use P w K mg base CX0 1 "_law_low" ["_law_p", "_law_q"] spLowQ [] := use0 (Glo) b__law_low F__law_low.kp g__law_low
  have Lad : Use P w K mg base CX0 2 "_law_add" ["_law_a", "_law_b"] (spAddQ K) [] := use0 (ok_addQ F__law_add Glo b__law_low F__law_low.kp g__law_low) b__law_add F__law_add.kp g__law_add
  have Lmu : Use P w K mg base CX0 2 "_law_mul" ["_law_a", "_law_b"] (spMulQ K) [] := use0 (ok_mulQ F__law_mul Glo b__law_low F__law_low.kp g__law_low) b__law_mul F__law_mul.kp g__law_mul
  have Lti : Use P w K mg base CX0 3 "_law_times" ["_law_u", "_law_w"] (spTimesG K) [] := use0 (ok_timesG F__law_times mn mr Lad Lmu) b__law_times F__law_times.kp g__law_times
  have Lpl : Use P w K mg base CX0 3 "_law_plus" ["_law_u", "_law_w"] (spPlus K) [] := use0 (ok_plus F__law_plus mz Lad) b__law_plus F__law_plus.kp g__law_plus
  have Lsc : Use P w K mg base CX0 3 "_law_scale" ["_law_u", "_law_c"] (spScale K) [] := use0 (ok_scale F__law_scale Lmu) b__law_scale F__law_scale.kp g__law_scale
  have Lpu : Use P w K mg base CX0 4 "_law_put" ["_law_u", "_law_f"] (spLPut K) [] := use0 (ok_lputG F__law_put mn mr ml Lti Lpl Lsc) b__law_put F__law_put.kp g__law_put
  have Lbh : Use P w K mg base CX0 5 "_law_behind" ["_law_a", "_law_b"] (spLBeh K) [] := use0 (ok_lbehG F__law_behind Lpu) b__law_behind F__law_behind.kp g__law_behind
  have Lst : Use P w K mg base CX0 1 "_law_still" ["_law_size_here"] (spLst K) [] := use0 (ok_lstill F__law_still) b__law_still F__law_still.kp g__law_still
  have Lnu : Use P w K mg base CX0 3 "_law_number" ["_law_bag_here"] (spNum K) [] := use0 (ok_num Ldr Lof Llo F__law_number) b__law_number F__law_number.kp g__law_number
  have Lfu : Use P w K mg base CX0 4 "_law_full" ["_law_bag_here"] (spNum K) [] := use0 (ok_full Ldr Lof Llo F__law_full Lnu) b__law_full F__law_full.kp g__law_full
  have Lspr : Use P w K mg base CX0 5 "_law_spread" ["_law_bag_here", "_law_size_here", "_law_first"] (spSpr K) [] := use0 (ok_spread F__law_spread mr Lof Lfu Lnu) b__law_spread F__law_spread.kp g__law_spread
  have Lld : Use P w K mg base CX0 3 "_law_lead" ["_law_bag_here"] (spLd K) [] := use0 (ok_lead F__law_lead Lof) b__law_lead F__law_lead.kp g__law_lead
  have Lsp0 : Use P w K mg base CX0 6 "_law_step" ["_law_bag_here", "_law_size_here"] (spStp K) [] := use0 (ok_step F__law_step Ldr Lld Lspr) b__law_step F__law_step.kp g__law_step
  have Lsl : Use P w K mg base CX0 6 "_law_slow" ["_law_bag_here", "_law_size_here"] (spStp K) [] := use0 (ok_slow F__law_slow Ldr Lst Lspr) b__law_slow F__law_slow.kp g__law_slow
  have Ltr : Use P w K mg base CX0 7 "_law_turnable" ["_law_bag_here", "_law_size_here"] (spStp K) [] := use0 (ok_turnable F__law_turnable Ldr Lld Lsl Lspr) b__law_turnable F__law_turnable.kp g__law_turnable
  have Lis : Use P w K mg base CX0 2 "_law_is" ["_law_thing"] (spIs K) [] := use0 (ok_is F__law_is mI mt mn mi mb ma Llo) b__law_is F__law_is.kp g__law_is
  have L0 : FnOk P w K mg base CX0 2 _ _ _ (spLike K stA 0) := ok_like F__law_like sk Oss b__law_like g__law_like (fun n' e => by cases e) mI ml mt mb ms mi mn mz ma
  have L1 : FnOk P w K mg base CX0 3 _ _ _ (spLike K stA 1) := ok_like F__law_like sk Oss b__law_like g__law_like (fun n' e => by cases e; exact L0) mI ml mt mb ms mi mn mz ma
  have L2 : FnOk P w K mg base CX0 4 _ _ _ (spLike K stA 2) := ok_like F__law_like sk Oss b__law_like g__law_like (fun n' e => by cases e; exact L1) mI ml mt mb ms mi mn mz ma
  have L3 : FnOk P w K mg base CX0 5 _ _ _ (spLike K stA 3) := ok_like F__law_like sk Oss b__law_like g__law_like (fun n' e => by cases e; exact L2) mI ml mt mb ms mi mn mz ma
  have L4 : FnOk P w K mg base CX0 6 _ _ _ (spLike K stA 4) := ok_like F__law_like sk Oss b__law_like g__law_like (fun n' e => by cases e; exact L3) mI ml mt mb ms mi mn mz ma
  have Llk : Use P w K mg base CX0 6 "_law_like" ["_law_told", "_law_due"] (spLike K stA 4) [] := use0 (L4) b__law_like F__law_like.kp g__law_like
  have Lss : Use P w K mg base CX0 7 "_law_step_so" ["_law_told", "_law_due"] (spRsS K stA) [] := use0 (ok_stepso6 F__law_step_so sk kSS mI mn Mnu Llk) b__law_step_so F__law_step_so.kp g__law_step_so
  have Lns : Use P w K mg base CX0 7 "_law_numbers_so" ["_law_told", "_law_size_here"] (spNso K stA) [] := use0 (ok_numso F__law_numbers_so sk kSS mI mn ma Mnu Llk Lis) b__law_numbers_so F__law_numbers_so.kp g__law_numbers_so
  have ZZ : Errs2 P w K mg base csE := ⟨Z0, Z1, fun i => by
    match i with
    | 0 => exact n0 _ (by decide)
    | 1 => exact n1 _ (by decide),
    n0 "one" (by decide), n0 "other" (by decide),
    fun i j => of_decide_eq_true (allE (allE (c.fact 26) i) j)⟩
  have Gfa := ok_fault2 (P := P) (w := w) (base := base) F__law_fault mI ZZ
  have kit : Kit6 P w K mg base rwA stA cfA coA clA ceA csE := {
    sk := sk
    snum := Mnu
    scut := Mcu
    spow := Mpw
    sren := Mre
    smul := Osm
    sinv := Oin
    trd := Utr
    exc := Uex
    draw := Ldr
    ofL := Lof
    behd := Lbh
    still := Lst
    step := Lsp0
    trn := Ltr
    lik := Llk
    sso := Lss
    nso := Lns
    flt := ⟨_, _, Gfa, b__law_fault, F__law_fault.kp, g__law_fault⟩
    ask := ⟨_, _, F__law_ask, b__law_ask, g__law_ask⟩
    mC := mC
    e1 := fun i => of_decide_eq_true (allE (c.fact 27) i)
    mn := mn
    mI := mI
    ml := ml
    mr := mr }
  have Lts : Use P w K mg base CX0 11 "_law_turned_so" ["_law_bag_here", "_law_a"] (spTur K tbT) [] := use0 (ok_turnedso (fun_c F__law_turned_so (c.fact 34)) kit (hTB (835, 831) c1) t1 tu1) b__law_turned_so F__law_turned_so.kp g__law_turned_so
  have Lrs : Use P w K mg base CX0 12 "_law_renamed_so" ["_law_a", "_law_b", "_law_c"] (spRno K tbT) [] := use0 (ok_renamedso (fun_c F__law_renamed_so (c.fact 35)) kit (hTB (842, 838) c2) t2 tu2) b__law_renamed_so F__law_renamed_so.kp g__law_renamed_so
  have Les : Use P w K mg base CX0 12 "_law_exchange_so" ["_law_a", "_law_b"] (spExo K tbT) [] := use0 (ok_exchangeso (fun_c F__law_exchange_so (c.fact 36)) kit (hTB (849, 845) c3) t3 tu3) b__law_exchange_so F__law_exchange_so.kp g__law_exchange_so
  have Lus : Use P w K mg base CX0 12 "_law_unlike_so" ["_law_bag_here", "_law_a"] (spUnl K tbT) [] := use0 (ok_unlikeso (fun_c F__law_unlike_so (c.fact 37)) kit (hTB (856, 852) c4) t4 tu4) b__law_unlike_so F__law_unlike_so.kp g__law_unlike_so
  have kitL : Kit6L P w K mg base tbT := {
    bag := use0 (ok_bag F__law_bag ml mi) b__law_bag F__law_bag.kp g__law_bag
    tur := Lts
    rno := Lrs
    exo := Les
    unl := Lus }
  exact ok_law F_law kit kitL
end
end Kx
end
section
set_option maxHeartbeats 0
namespace Kx
open PySem PySem.Spec PyProof.Rows L2
theorem cs_tab {h : Heap} (hT : ∀ a ∈ tabA, h.get? a = some { cls := .none, data := .fields #[] }) : ∀ p ∈ csT, h.get? p.2 = some { cls := .none, data := .fields #[] } := fun p hp => by
  rcases memN hp with e | e | e | e <;> rw [e]
  · exact hT 831 (List.mem_cons_self)
  · exact hT 838 (List.mem_cons_of_mem _ (List.mem_cons_self))
  · exact hT 845 (List.mem_cons_of_mem _ (List.mem_cons_of_mem _ (List.mem_cons_self)))
  · exact hT 852 (List.mem_cons_of_mem _ (List.mem_cons_of_mem _ (List.mem_cons_of_mem _ (List.mem_cons_self))))
theorem cs_none {K : PySem.W.Frag} (c : SaysR K) : ∀ p ∈ csT, K.lookup p.2 = none := fun p hp => by
  have n := c.fact 33
  have nn : ∀ a ∈ tabA, K.lookup a = none := fun a ha => Option.isNone_iff_eq_none.mp (List.all_eq_true.mp n a ha)
  rcases memN hp with e | e | e | e <;> rw [e]
  · exact nn 831 (List.mem_cons_self)
  · exact nn 838 (List.mem_cons_of_mem _ (List.mem_cons_self))
  · exact nn 845 (List.mem_cons_of_mem _ (List.mem_cons_of_mem _ (List.mem_cons_self)))
  · exact nn 852 (List.mem_cons_of_mem _ (List.mem_cons_of_mem _ (List.mem_cons_of_mem _ (List.mem_cons_self))))
theorem cs_code {K : PySem.W.Frag} {h : Heap} (X : K.In h) (c : SaysR K) : ∀ p ∈ csT, PySem.W.CodeHd h p.1 p.2 := fun p hp => by
  rcases memN hp with e | e | e | e <;> rw [e]
  · exact PySem.W.codeHd_of_K X (c.fact 38)
  · exact PySem.W.codeHd_of_K X (c.fact 39)
  · exact PySem.W.codeHd_of_K X (c.fact 40)
  · exact PySem.W.codeHd_of_K X (c.fact 41)
theorem tabs_start {H : Hp} (hH : ∀ p ∈ csT, H p.2 = some (.tbl #[])) : LamX.Tabs tbT H := fun p hp => by
  rcases memN hp with e | e | e | e <;> rw [e]
  · exact LamX.TabS.nil (hH _ c1)
  · exact LamX.TabS.nil (hH _ c2)
  · exact LamX.TabS.nil (hH _ c3)
  · exact LamX.TabS.nil (hH _ c4)
end Kx
open PySem PySem.W PySem.Calls PyProof.Rows
theorem PySem.Challenge.cw_creepclocks_k06_whole_steps_turned_back_holds : PySem.Challenge.rw_creepclocks_k06_whole_steps_turned_back.Holds := by
  w_on; o_law
  refine HandSHeadRun.head_imp (r := OpenLaw.row PySem.Challenge.rw_creepclocks_k06_whole_steps_turned_back) (q := view (OpenLaw.row PySem.Challenge.rw_creepclocks_k06_whole_steps_turned_back).prog [0, 98]) (H := Kx.hookR) (ob := Kx.ob) (M := 20000) (loose := Kx.names) (d := HandSHeadRun.topDef (OpenLaw.row PySem.Challenge.rw_creepclocks_k06_whole_steps_turned_back).prog 98) (kwd := []) Kx.ob_eq
    Kx.run (by kernel_rfl) (by kernel_rfl) (by kernel_rfl) (by rfl) (by first | assumption | decide +kernel) (by decide +kernel) ⟨rfl, rfl, rfl, rfl, rfl, by decide +kernel⟩ ?hw ?hc
  case hw => w_witness2
  case hc =>
    refine LamX.walk_ofTsE (l := PySem.Challenge.rw_creepclocks_k06_whole_steps_turned_back) (n := 63) (k := 13) (x := "_law_script") (CX := fun _ => L2.CX0) rfl (by decide) (by kernel_rfl) ⟨rfl, by decide, by decide⟩ ?F (fun _ _ _ _ _ z => z)
    intro w mg fa h Y G hmg0
    obtain ⟨⟨K, KX, c⟩, hT⟩ := Y
    have hmg : mg ("law" : PySem.Str) = some (.ref fa) := by
      have e : (HandSHeadRun.topDef (OpenLaw.row PySem.Challenge.rw_creepclocks_k06_whole_steps_turned_back).prog 98).name = ("law" : PySem.Str) := by kernel_rfl
      rw [← e]
      exact hmg0
    obtain ⟨fd, hb, hF⟩ := Kx.facts (P := (PySem.Challenge.rw_creepclocks_k06_whole_steps_turned_back).prog) (w := w) KX G hmg c
    exact ⟨K, KX, fd, Kx.csT, Kx.spLaw K Kx.tbT, Kx.cs_tab hT, Kx.cs_none c, Kx.cs_code KX c, hb, fun H a ns hl _ hH hS => ⟨a, ns, rfl, hS, Kx.tabs_start hH, fun _ => rfl⟩, hF⟩
end
