import PyProof.Rows.All
import Wide.All
import OpenK.AllK
import Wide.FinOn
import HandS.Words
import HandS.WordsExc
import HandS.ForMost
import HandS.Zip
import HandS.Codes
import HandS.Walk
import HandS.Wide
import HandS.Gcd
import HandS.IsInst
import HandS.AnyAll
import HandS.ClsMeth
import HandS.Lambda
import HandS.ExcInitHot
import HandS.Defaults
import HandS.HeadHook1
import HandS.HeadHook2
import HandS.HeadNt
import HandS.NestedK
import KE.KExcInit
import KE.KStateDown
import Lean
import HandS.Head0
import HandS.Head1
import HandS.Head2
import HandS.Head3
import HandS.HeadEnd
import HandS.ExcInit
import KE.KExcIs
import HandS.MakeKw
import HandS.Exc
import HandS.ExcIs
import HandS.ExcField
import HandS.TryMany
import HandS.HotCalls
import PyProof.Draws
import PyProof.EnumMake
import KE.GoesMore
import HandS.MakeKwOnly
import HandS.Zip0
import PyProof.NeKinds
import HandS.ListEq
import HandS.OwnEq
import KE.KDictZip
import HandS.HeadWalk
import PySem.Challenge.RW_creepclocks_k07_steps_told
set_option Elab.async false
set_option linter.all false
set_option maxRecDepth 100000
section
set_option maxHeartbeats 4000000
namespace Kx
open PySem PySem.Spec PyProof.Rows L2
def top (i : Nat) : Stmt := PySem.Challenge.pw_creepclocks_k07_steps_told.main.body.getD i (.Pass ⟨0, 0, 0, 0⟩)
abbrev F__wall : Stmt := top 1
abbrev C_CreepError : Stmt := top 3
abbrev C_InvalidNumber : Stmt := top 4
abbrev C_InvalidNumber_init : Stmt := inClass (top 4) 0
abbrev C_InvalidFraction : Stmt := top 5
abbrev C_InvalidFraction_init : Stmt := inClass (top 5) 0
abbrev C_InvalidOrder : Stmt := top 6
abbrev C_InvalidOrder_init : Stmt := inClass (top 6) 0
abbrev C_OrderTooLow : Stmt := top 7
abbrev C_OrderTooLow_init : Stmt := inClass (top 7) 0
abbrev C_UnlikeOrders : Stmt := top 8
abbrev C_UnlikeOrders_init : Stmt := inClass (top 8) 0
abbrev C_InvalidPlace : Stmt := top 9
abbrev C_InvalidPlace_init : Stmt := inClass (top 9) 0
abbrev C_InvalidPower : Stmt := top 10
abbrev C_InvalidPower_init : Stmt := inClass (top 10) 0
abbrev C_CantTurn : Stmt := top 11
abbrev C_CantTurn_init : Stmt := inClass (top 11) 0
abbrev C_NotSlow : Stmt := top 12
abbrev C_NotSlow_init : Stmt := inClass (top 12) 0
abbrev C_NoAnswer : Stmt := top 13
abbrev C_DividedByZero : Stmt := top 14
abbrev C_DividedByZero_init : Stmt := inClass (top 14) 0
abbrev F_is_whole : Stmt := top 20
abbrev F_is_between : Stmt := top 21
abbrev F_is_fraction : Stmt := top 22
abbrev F_ratio : Stmt := top 23
abbrev F_difference_of : Stmt := top 24
abbrev F_product_of : Stmt := top 25
abbrev F_quotient_of : Stmt := top 26
abbrev F_negative_of : Stmt := top 27
abbrev F_fraction_text : Stmt := top 28
abbrev F_is_listing : Stmt := top 32
abbrev F_check_order : Stmt := top 33
abbrev F_check_orders : Stmt := top 34
abbrev F_check_cut : Stmt := top 35
abbrev F_check_place : Stmt := top 36
abbrev F_check_number : Stmt := top 37
abbrev F_wrong_item : Stmt := top 38
abbrev F_check_fractions : Stmt := top 39
abbrev F_checked_numbers : Stmt := top 40
abbrev F_check_slow : Stmt := top 41
abbrev F_check_turnable : Stmt := top 42
abbrev F_is_zero : Stmt := top 44
abbrev F_least_place : Stmt := top 45
abbrev F_sums_of : Stmt := top 46
abbrev F_differences_of : Stmt := top 47
abbrev F_dot : Stmt := top 48
abbrev F_mixed : Stmt := top 49
abbrev F_over_one_lower : Stmt := top 50
abbrev F_multiplied : Stmt := top 51
abbrev F_still_numbers : Stmt := top 52
abbrev F_table_lines : Stmt := top 53
abbrev F_row_behind : Stmt := top 54
abbrev F_put_behind : Stmt := top 55
abbrev F_solved : Stmt := top 56
abbrev F_turned_back : Stmt := top 57
abbrev F_done_times : Stmt := top 58
abbrev F_differences : Stmt := top 59
abbrev F_binomials : Stmt := top 60
abbrev F_binomial_power : Stmt := top 61
abbrev F_letter_text : Stmt := top 63
abbrev F_term_text : Stmt := top 64
abbrev F_term_words : Stmt := top 65
abbrev F_numbers_text : Stmt := top 66
abbrev C_Row : Stmt := top 68
abbrev C_Row_init : Stmt := inClass (top 68) 0
abbrev C_Row_constant : Stmt := inClass (top 68) 1
abbrev C_Row_numbers : Stmt := inClass (top 68) 2
abbrev C_Row_number : Stmt := inClass (top 68) 3
abbrev C_Row_scaled : Stmt := inClass (top 68) 4
abbrev C_Row_cut : Stmt := inClass (top 68) 5
abbrev C_Row_behind : Stmt := inClass (top 68) 6
abbrev C_Row_text : Stmt := inClass (top 68) 7
abbrev C_Row_add : Stmt := inClass (top 68) 8
abbrev C_Row_sub : Stmt := inClass (top 68) 9
abbrev C_Row_mul : Stmt := inClass (top 68) 10
abbrev C_Row_neg : Stmt := inClass (top 68) 11
abbrev C_Row_eq : Stmt := inClass (top 68) 12
abbrev C_Row_len : Stmt := inClass (top 68) 13
abbrev C_Row_str : Stmt := inClass (top 68) 14
abbrev C_Row_repr : Stmt := inClass (top 68) 15
abbrev F_kind_of : Stmt := top 70
abbrev C_Step : Stmt := top 71
abbrev C_Step_init : Stmt := inClass (top 71) 0
abbrev C_Step_still : Stmt := inClass (top 71) 1
abbrev C_Step_scaling : Stmt := inClass (top 71) 2
abbrev C_Step_numbers : Stmt := inClass (top 71) 3
abbrev C_Step_number : Stmt := inClass (top 71) 4
abbrev C_Step_power : Stmt := inClass (top 71) 5
abbrev C_Step_renamed : Stmt := inClass (top 71) 6
abbrev C_Step_cut : Stmt := inClass (top 71) 7
abbrev C_Step_gone_on : Stmt := inClass (top 71) 8
abbrev C_Step_as_row : Stmt := inClass (top 71) 9
abbrev C_Step_text : Stmt := inClass (top 71) 10
abbrev C_Step_mul : Stmt := inClass (top 71) 11
abbrev C_Step_invert : Stmt := inClass (top 71) 12
abbrev C_Step_eq : Stmt := inClass (top 71) 13
abbrev C_Step_len : Stmt := inClass (top 71) 14
abbrev C_Step_str : Stmt := inClass (top 71) 15
abbrev C_Step_repr : Stmt := inClass (top 71) 16
abbrev F_first_difference : Stmt := top 72
abbrev L_bag : Stmt := top 74
abbrev L_draw : Stmt := top 75
abbrev L_of : Stmt := top 76
abbrev L_like : Stmt := top 77
abbrev L_low : Stmt := top 78
abbrev L_add : Stmt := top 79
abbrev L_still : Stmt := top 80
abbrev L_number : Stmt := top 81
abbrev L_full : Stmt := top 82
abbrev L_spread : Stmt := top 83
abbrev L_lead : Stmt := top 84
abbrev L_step : Stmt := top 85
abbrev L_odd : Stmt := top 86
abbrev L_bent : Stmt := top 87
abbrev L_spoilt : Stmt := top 88
abbrev L_is : Stmt := top 89
abbrev L_any_size : Stmt := top 90
abbrev L_not_order : Stmt := top 91
abbrev L_list : Stmt := top 92
abbrev L_refused : Stmt := top 93
abbrev L_kind : Stmt := top 94
abbrev L_fault : Stmt := top 95
abbrev L_ask : Stmt := top 96
abbrev L_told_so : Stmt := top 97
abbrev L_made_so : Stmt := top 98
abbrev L_gone_so : Stmt := top 99
abbrev L_cut_so : Stmt := top 100
abbrev L_scaling_so : Stmt := top 101
abbrev L_compared_so : Stmt := top 102
abbrev L_law : Stmt := top 103
end Kx
end
section
set_option maxHeartbeats 4000000
namespace Kx
open PySem PySem.Spec PyProof.Rows L2
/-- a def of the module: its name, its place in the text, its address -/
structure LD where
  nm : Str
  ix : Nat
  f : Addr
def rwN0 : List Str := ["_numbers", "order", "height"]
def stN0 : List Str := ["_numbers", "order", "lead", "kind", "height", "flat", "strength"]
def ldT : List LD := [
  ⟨"is_whole", 20, 275⟩,
  ⟨"is_between", 21, 282⟩,
  ⟨"is_fraction", 22, 289⟩,
  ⟨"is_listing", 32, 338⟩,
  ⟨"check_order", 33, 345⟩,
  ⟨"check_orders", 34, 352⟩,
  ⟨"check_cut", 35, 359⟩,
  ⟨"check_place", 36, 366⟩,
  ⟨"check_number", 37, 373⟩,
  ⟨"wrong_item", 38, 380⟩,
  ⟨"check_fractions", 39, 387⟩,
  ⟨"checked_numbers", 40, 394⟩,
  ⟨"is_zero", 44, 413⟩,
  ⟨"least_place", 45, 420⟩,
  ⟨"still_numbers", 52, 459⟩,
  ⟨"kind_of", 70, 678⟩,
  ⟨"first_difference", 72, 824⟩,
  ⟨"_law_bag", 74, 831⟩,
  ⟨"_law_draw", 75, 838⟩,
  ⟨"_law_of", 76, 845⟩,
  ⟨"_law_like", 77, 850⟩,
  ⟨"_law_low", 78, 857⟩,
  ⟨"_law_add", 79, 864⟩,
  ⟨"_law_still", 80, 871⟩,
  ⟨"_law_number", 81, 878⟩,
  ⟨"_law_full", 82, 885⟩,
  ⟨"_law_spread", 83, 890⟩,
  ⟨"_law_lead", 84, 897⟩,
  ⟨"_law_step", 85, 904⟩,
  ⟨"_law_odd", 86, 911⟩,
  ⟨"_law_bent", 87, 918⟩,
  ⟨"_law_spoilt", 88, 925⟩,
  ⟨"_law_is", 89, 930⟩,
  ⟨"_law_any_size", 90, 937⟩,
  ⟨"_law_not_order", 91, 944⟩,
  ⟨"_law_list", 92, 949⟩,
  ⟨"_law_refused", 93, 954⟩,
  ⟨"_law_kind", 94, 959⟩,
  ⟨"_law_fault", 95, 966⟩,
  ⟨"_law_ask", 96, 973⟩,
  ⟨"_law_told_so", 97, 978⟩,
  ⟨"_law_made_so", 98, 985⟩,
  ⟨"_law_gone_so", 99, 990⟩,
  ⟨"_law_cut_so", 100, 997⟩,
  ⟨"_law_scaling_so", 101, 1004⟩,
  ⟨"_law_compared_so", 102, 1009⟩,
  ⟨"law", 103, 1016⟩
]
abbrev stA : Addr := 813
abbrev rwA : Addr := 667
abbrev zeA : Addr := 266
abbrev onA : Addr := 267
abbrev moA : Addr := 268
abbrev ceA : Addr := 59
def csE : _root_.Fin 6 → Addr := fun i => [79, 98, 117, 136, 155, 174].getD i.val 0
def freeN : List Str := ["isinstance", "len", "list", "tuple", "int", "range", "all", "zip", "bool", "str", "abs", "enumerate", "sum"]
def tabA : List Addr := [980, 987, 992, 999, 1006]
def ldD (d : LD) : He5.DefA := { at_ := fun _ => d.f, name := d.nm, qual := d.nm, params := defArgs (top d.ix), body := defBody (top d.ix), scope := defScope (top d.ix) }
def mtD (q nm : Str) (f : Addr) (st : Stmt) : He5.DefA := { at_ := fun _ => f, name := nm, qual := q, params := defArgs st, body := defBody st, scope := defScope st }
def clT : List He5.DefA := [mtD "Step.__init__" "__init__" 692 (inClass (top 71) 0),
  mtD "Step.still" "still" 699 (inClass (top 71) 1),
  mtD "Step.scaling" "scaling" 709 (inClass (top 71) 2),
  mtD "Step.numbers" "numbers" 719 (inClass (top 71) 3),
  mtD "Step.number" "number" 726 (inClass (top 71) 4),
  mtD "Step.cut" "cut" 747 (inClass (top 71) 7),
  mtD "Step.gone_on" "gone_on" 754 (inClass (top 71) 8),
  mtD "Step.as_row" "as_row" 761 (inClass (top 71) 9),
  mtD "Step.__eq__" "__eq__" 789 (inClass (top 71) 13),
  mtD "Step.__len__" "__len__" 796 (inClass (top 71) 14),
  mtD "Row.__init__" "__init__" 558 (inClass (top 68) 0),
  mtD "Row.numbers" "numbers" 575 (inClass (top 68) 2),
  mtD "Row.__eq__" "__eq__" 643 (inClass (top 68) 12),
  mtD "Row.constant" "constant" 565 (inClass (top 68) 1),
  mtD "InvalidNumber.__init__" "__init__" 76 (inClass (top 4) 0),
  mtD "InvalidFraction.__init__" "__init__" 95 (inClass (top 5) 0),
  mtD "InvalidOrder.__init__" "__init__" 114 (inClass (top 6) 0),
  mtD "OrderTooLow.__init__" "__init__" 133 (inClass (top 7) 0),
  mtD "UnlikeOrders.__init__" "__init__" 152 (inClass (top 8) 0),
  mtD "InvalidPlace.__init__" "__init__" 171 (inClass (top 9) 0)]
def fnT : List He5.DefA := clT ++ ldT.map ldD
def kpB (K : PySem.W.Frag) (a : Addr) (x y : Int) : Bool := match K.lookup a with
  | some ⟨.type c, _, .seq its _, _⟩ => decide (c = "tuple") && (decide (its.size ≤ sizeLine) && He.relAll [.int x, .int y] its.toList)
  | _ => false
/-- an own class -/
def owB (K : PySem.W.Frag) (C iA sA gA : Addr) (m : Str) (ns : List Str) : Bool :=
  PySem.W.plainGet K C Str.empty && (PySem.W.hasDictIn K C && (PySem.W.plainOver K C && (He.eqO (PySem.W.findIn K (.ref C) "__setattr__") (some (some (.builtin "object.__setattr__"))) && (ns.all (fun x => He.eqO (PySem.W.findIn K (.ref C) x) (some none)) &&
  (PySem.W.makesIn K C && (He.eqO (PySem.W.findIn K (.ref C) "__init__") (some (some (.ref iA))) && (PySem.W.isFn K (.ref iA) && (PySem.W.keepIn K (.ref C) && (He5.wrapB K C "staticmethod" "staticmethod.__get__" m && (decide (He.ma K C m = sA) && (decide (He5.wf K C "staticmethod" m = gA) &&
  (PySem.W.readsIn K C (.type "type") && (He.eqO (PySem.W.specialIn K (.ref C) "__getattribute__") (some (some (.builtin "type.__getattribute__"))) && (He.eqO (PySem.W.findIn K (.ref C) "__class__") (some (some (.builtin "object.__class__"))) &&
  (He.eqO (PySem.W.specialIn K (.builtin "object.__class__") "__get__") (some (some (.builtin "getset_descriptor.__get__"))) && (decide (PySem.W.takesIn K (.builtin "object.__class__") = some true) && decide (PySem.W.mroIn K C (.type "object") = some true)))))))))))))))))
/-- an own exception class -/
def exB (K : PySem.W.Frag) (C iA : Addr) (mb : List Value) (nw : String) (ns : List Str) : Bool :=
  PySem.W.excInitIn K C mb nw && (PySem.W.excOver K C mb && ((PySem.W.clsIn K C).isSome && (PySem.W.hasDictIn K C && (He.eqO (PySem.W.findIn K (.ref C) "__setattr__") (some (some (.builtin "object.__setattr__"))) && (He.eqO (PySem.W.findIn K (.ref C) "__getattribute__") (some (some (.builtin "BaseException.__getattribute__"))) &&
  (He.eqO (PySem.W.findIn K (.ref C) "__getattr__") (some none) && (decide (PySem.W.subIn K (.ref C) (.type "BaseException") = some true) && (He.eqO (PySem.W.findIn K (.ref C) "__class__") (some (some (.builtin "object.__class__"))) && (He.eqO (PySem.W.specialIn K (.builtin "object.__class__") "__get__") (some (some (.builtin "getset_descriptor.__get__"))) &&
  (decide (PySem.W.takesIn K (.builtin "object.__class__") = some true) && (decide (PySem.W.mroIn K C (.type "object") = some true) && (PySem.W.keepIn K (.ref C) && (decide (PySem.W.typeIn K (.ref C) = some (.type "type")) && (He.eqO (PySem.W.findIn K (.ref C) "__init__") (some (some (.ref iA))) &&
  (PySem.W.isFn K (.ref iA) && ns.all (fun x => He.eqO (PySem.W.findIn K (.ref C) x) (some none)))))))))))))))))
def codeB (K : PySem.W.Frag) (f c : Addr) : Bool := match K.lookup f with
  | some ⟨_, _, .func fd, _⟩ => (match fd.code with | .ref c' => decide (c' = c) | _ => false)
  | _ => false
def mtB (K : PySem.W.Frag) (C f : Addr) (m : Str) : Bool := He.eqO (PySem.W.findIn K (.ref C) m) (some (some (.ref f))) && PySem.W.isFn K (.ref f)
def mtT : List (Addr × Addr × Str) := [(stA, 719, "numbers"), (stA, 726, "number"), (stA, 747, "cut"), (stA, 754, "gone_on"), (stA, 761, "as_row"), (stA, 789, "__eq__"), (stA, 796, "__len__"), (rwA, 575, "numbers"), (rwA, 643, "__eq__")]
/-- the looks -/
def faT : List (PySem.W.Frag → Bool) := [
  fun K => ldT.all fun d => He.eqO (PySem.W.nsIn K mainGlobals d.nm) (some (some (.ref d.f))),
  fun K => freeN.all fun x => He.eqO (PySem.W.nsIn K mainGlobals x) (some none),
  fun K => He.eqO (PySem.W.nsIn K mainGlobals "gcd") (some (some (.builtin "math.gcd"))),
  fun K => He.eqO (PySem.W.nsIn K mainGlobals "lcm") (some (some (.builtin "math.lcm"))),
  fun K => He.eqO (PySem.W.nsIn K mainGlobals "Step") (some (some (.ref stA))),
  fun K => He.eqO (PySem.W.nsIn K mainGlobals "Row") (some (some (.ref rwA))),
  fun K => He.eqO (PySem.W.nsIn K mainGlobals "ZERO") (some (some (.ref zeA))),
  fun K => He.eqO (PySem.W.nsIn K mainGlobals "ONE") (some (some (.ref onA))),
  fun K => He.eqO (PySem.W.nsIn K mainGlobals "MINUS_ONE") (some (some (.ref moA))),
  fun K => He.eqO (PySem.W.nsIn K mainGlobals "CreepError") (some (some (.ref ceA))),
  (He.Fa.int "LOWEST_ORDER" 2).ok,
  (He.Fa.int "HIGHEST_ORDER" 24).ok,
  fun K => kpB K zeA 0 1,
  fun K => kpB K onA 1 1,
  fun K => kpB K moA (-1) 1,
  fun K => owB K stA 692 701 699 "still" stN0,
  fun K => owB K rwA 558 567 565 "constant" rwN0,
  fun K => exB K 79 76 [.type "ValueError", .type "Exception", .type "BaseException", .type "object"] "ValueError.__new__" ["code", "value"],
  fun K => exB K 98 95 [.type "ValueError", .type "Exception", .type "BaseException", .type "object"] "ValueError.__new__" ["code", "at"],
  fun K => exB K 117 114 [.type "ValueError", .type "Exception", .type "BaseException", .type "object"] "ValueError.__new__" ["code", "value"],
  fun K => exB K 136 133 [.type "ValueError", .type "Exception", .type "BaseException", .type "object"] "ValueError.__new__" ["code", "have", "wanted"],
  fun K => exB K 155 152 [.type "ValueError", .type "Exception", .type "BaseException", .type "object"] "ValueError.__new__" ["code", "one", "other"],
  fun K => exB K 174 171 [.type "ValueError", .type "Exception", .type "BaseException", .type "object"] "ValueError.__new__" ["code", "value"],
  fun K => He.eqO (PySem.W.nsIn K mainGlobals "InvalidNumber") (some (some (.ref 79))),
  fun K => He.eqO (PySem.W.nsIn K mainGlobals "InvalidFraction") (some (some (.ref 98))),
  fun K => He.eqO (PySem.W.nsIn K mainGlobals "InvalidOrder") (some (some (.ref 117))),
  fun K => He.eqO (PySem.W.nsIn K mainGlobals "OrderTooLow") (some (some (.ref 136))),
  fun K => He.eqO (PySem.W.nsIn K mainGlobals "UnlikeOrders") (some (some (.ref 155))),
  fun K => He.eqO (PySem.W.nsIn K mainGlobals "InvalidPlace") (some (some (.ref 174))),
  fun K => (List.finRange 6).all fun i => (List.finRange 6).all fun j => decide (PySem.W.kitOne K (.ref (csE i)) (.ref (csE j)) = some (decide (i = j))),
  fun K => (List.finRange 6).all fun i => decide (PySem.W.exmOne K (.ref (csE i)) (.ref ceA) = some true),
  fun K => (["int", "bool", "str", "tuple", "list"] : List String).all fun n => decide (PySem.W.kitOne K (.ref stA) (.type n) = some false),
  fun K => decide (PySem.W.kitOne K (.ref stA) (.ref rwA) = some false),
  fun K => decide (PySem.W.kitOne K (.ref rwA) (.ref stA) = some false),
  fun K => decide (PySem.W.kitOne K (.ref stA) (.ref stA) = some true),
  fun K => decide (PySem.W.kitOne K (.ref rwA) (.ref rwA) = some true),
  fun K => PySem.W.notFirst K rwA (.ref stA),
  fun K => PySem.W.notFirst K stA (.ref rwA),
  fun K => (["list", "str", "tuple"] : List String).all fun n => PySem.W.notFirst K stA (.type n),
  fun K => (["list", "str", "tuple"] : List String).all fun n => decide (PySem.W.kitOne K (.type n) (.ref stA) = some false),
  fun K => PySem.W.selfFirst K stA,
  fun K => PySem.W.selfFirst K rwA,
  fun K => mtT.all fun t => mtB K t.1 t.2.1 t.2.2,
  fun K => tabA.all fun a => (K.lookup a).isNone,
  fun K => codeB K 985 984,
  fun K => codeB K 990 989,
  fun K => codeB K 997 996,
  fun K => codeB K 1004 1003,
  fun K => codeB K 1009 1008,
  fun K => PySem.W.codeHdIn K 984 980,
  fun K => PySem.W.codeHdIn K 989 987,
  fun K => PySem.W.codeHdIn K 996 992,
  fun K => PySem.W.codeHdIn K 1003 999,
  fun K => PySem.W.codeHdIn K 1008 1006,
  fun K => He5.wrapB K stA "staticmethod" "staticmethod.__get__" "scaling" && (decide (He.ma K stA "scaling" = 711) && decide (He5.wf K stA "staticmethod" "scaling" = 709))]
abbrev ObV : Type := Bool × List He5.FnW
def obK (K : PySem.W.Frag) : ObV := ((faT.all fun f => f K) && fnT.all fun d => d.ok K, fnT.map fun d => He5.fnA K (d.at_ K))
def valR : ObV := (true, fnT.map He5.DefA.val)
def adr : List Addr := [mainGlobals, cStatics, stA, 812, rwA, 666, ceA, 58, zeA, onA, moA, 701, 700, 567, 566, 711, 710, 79, 78, 98, 97, 117, 116, 136, 135, 155, 154, 174, 173, 692, 691, 699, 698, 709, 708, 719, 718, 726, 725, 747, 746, 754, 753, 761, 760, 789, 788, 796, 795, 558, 557, 575, 574, 643, 642, 565, 564, 76, 75, 95, 94, 114, 113, 133, 132, 152, 151, 171, 170] ++ ldT.flatMap fun d => [d.f, d.f - 1]
def obR (g : Addr → Option Obj) : ObV := obK (He.frG g adr)
def tblB (g : Addr → Option Obj) : Bool := tabA.all fun a => match g a with
  | some ⟨.none, none, .fields vs, sl⟩ => decide (vs = #[]) && decide (sl.size = 0)
  | _ => false
theorem tblB_ok {g : Addr → Option Obj} (h : tblB g = true) : ∀ a ∈ tabA, g a = some { cls := .none, data := .fields #[] } := fun a ha => by
  have q := List.all_eq_true.mp h a ha
  split at q
  · rename_i vs sl e
    obtain ⟨q1, q2⟩ := He.ba q
    have e2 : sl = #[] := Array.eq_empty_of_size_eq_zero (of_decide_eq_true q2)
    rw [e, of_decide_eq_true q1, e2]
  · cases q
def SaysR (K : PySem.W.Frag) : Prop := obK K = valR
def hookR : PySem.W.Hook where
  α := ObV × Bool
  obs := fun s => (obR s.heap.get?, tblB s.heap.get?)
  val := fun _ => (valR, true)
  says := fun _ h => (∃ K : PySem.W.Frag, K.In h ∧ SaysR K) ∧ ∀ a ∈ tabA, h.get? a = some { cls := .none, data := .fields #[] }
  of := fun _ _ e => ⟨⟨_, He.frG_in, (Prod.mk.inj e).1⟩, tblB_ok (Prod.mk.inj e).2⟩
  keeps := fun _ _ _ ⟨⟨K, hK, c⟩, t⟩ k => ⟨⟨K, PySem.W.Frag.In.keeps hK k, c⟩, fun a ha => k _ _ (t a ha)⟩
end Kx
end
section
set_option maxHeartbeats 0
namespace Kx
open PySem PySem.Spec PyProof.Rows L2
abbrev R : PySem.W.OpenRow := PySem.W.OpenLaw.row PySem.Challenge.rw_creepclocks_k07_steps_told
def names0 : List PySem.Str := ["_wall", "CreepError", "InvalidNumber", "InvalidFraction", "InvalidOrder", "OrderTooLow", "UnlikeOrders", "InvalidPlace", "InvalidPower", "CantTurn", "NotSlow", "NoAnswer", "DividedByZero", "ZERO", "ONE", "MINUS_ONE", "MOST_POWER", "is_whole", "is_between", "is_fraction"]
def names1 : List PySem.Str := ["ratio", "difference_of", "product_of", "quotient_of", "negative_of", "fraction_text", "LOWEST_ORDER", "HIGHEST_ORDER", "is_listing", "check_order", "check_orders", "check_cut", "check_place", "check_number", "wrong_item", "check_fractions", "checked_numbers", "check_slow", "check_turnable", "is_zero"]
def names2 : List PySem.Str := ["least_place", "sums_of", "differences_of", "dot", "mixed", "over_one_lower", "multiplied", "still_numbers", "table_lines", "row_behind", "put_behind", "solved", "turned_back", "done_times", "differences", "binomials", "binomial_power", "letter_text", "term_text", "term_words"]
def names3 : List PySem.Str := ["numbers_text", "Row", "kind_of", "Step", "first_difference", "_law_bag", "_law_draw", "_law_of", "_law_like", "_law_low", "_law_add", "_law_still", "_law_number", "_law_full", "_law_spread", "_law_lead", "_law_step", "_law_odd", "_law_bent", "_law_spoilt"]
def names4 : List PySem.Str := ["_law_is", "_law_any_size", "_law_not_order", "_law_list", "_law_refused", "_law_kind", "_law_fault", "_law_ask", "_law_told_so", "_law_made_so", "_law_gone_so", "_law_cut_so", "_law_scaling_so", "_law_compared_so"]
def names : List PySem.Str := names0 ++ names1 ++ names2 ++ names3 ++ names4
abbrev hk : PySem.W.Hook := hookR
def ob (s : PySem.W.SharedT) : ObV × Bool := (obR (HandSHeadRun.getT s), tblB (HandSHeadRun.getT s))
theorem ob_eq (s : PySem.W.SharedT) : ob s = hk.obs s.abs := by
  have e : HandSHeadRun.getT s = s.abs.heap.get? := funext fun a => HandSHeadRun.getT_eq s a
  unfold ob
  rw [e]
  rfl
noncomputable abbrev endI (w : World) := HandSHeadRun.wholeF (fun p => HandSHeadRun.stepQ (HandSHeadRun.denQ HandSHeadRun.tabQ) p w) HandSHeadRun.fenceQ 20000 R.prog
abbrev qv := PySem.W.view R.prog [0, 103]
theorem run1 (w : World) : (endI w).map (fun x => (HandSHeadRun.looksF R.prog x.1.heap x.2.abs, ob x.2)) = some (true, (valR, true)) := by
  kernel_rfl
theorem run2 (w : World) : (endI w).map (fun x => HandSHeadRun.seenQ qv names (importedModules R.prog.main.body) (fun s => PySem.W.xlAt qv [] s && PySem.W.recOk R.toRowW.records s) x.2.abs) = some (PySem.W.openGood qv names) := by
  kernel_rfl
theorem run (w : World) : HandSHeadRun.RunEqI R qv hk ob 20000 names w := by
  obtain ⟨x, e1, e2⟩ := Option.map_eq_some_iff.mp (run1 w)
  have e3 := run2 w
  show (endI w).map _ = _
  rw [e1] at e3 ⊢
  have e4 := Option.some.inj e3
  have e5 := (Prod.mk.inj e2).1
  have e6 := (Prod.mk.inj e2).2
  show some (HandSHeadRun.looksF R.prog x.1.heap x.2.abs, HandSHeadRun.seenQ qv names (importedModules R.prog.main.body) (fun s => PySem.W.xlAt qv [] s && PySem.W.recOk R.toRowW.records s) x.2.abs, ob x.2) = _
  rw [e5, e6]
  exact congrArg some (congrArg (Prod.mk true) (congrArg (fun z => (z, (valR, true))) e4))
end Kx
end
section
set_option maxHeartbeats 4000000
namespace Kx
open PySem PySem.Spec PyProof.Rows L2
/-! ### the bag -/
def bagL (p : Addr) (i r sd c : Int) : List V := [.ref p, .int i, .int r, .int sd, .int c]
structure Bag (H : Hp) (B p : Addr) : Prop where
  ex : ∃ (ns : List Int) (i r sd c : Int), H B = some (.lst (bagL p i r sd c)) ∧ H p = some (.lst (ns.map V.int)) ∧ p ≠ B ∧ 0 ≤ i ∧ 0 ≤ r ∧ 0 ≤ sd ∧ sd < 2147483629
/-- all but the bag stands -/
def But (B : Addr) (H H' : Hp) : Prop := ∀ b o, b ≠ B → H b = some o → H' b = some o
theorem But.refl {B : Addr} {H : Hp} : But B H H := fun _ _ _ h => h
theorem But.trans {B : Addr} {H H1 H2 : Hp} (a : But B H H1) (b : But B H1 H2) : But B H H2 := fun x o n h => b x o n (a x o n h)
theorem But.new {B : Addr} {H : Hp} {p : Addr} {o : HO} (h : H p = none) : But B H (upd H p o) := fun b u _ q => by rw [upd_ne (ne_of_none q h)]; exact q
theorem But.same {B : Addr} {H H' : Hp} (h : Same H H') : But B H H' := fun b o _ q => h b o q
theorem Bag.same {H H' : Hp} {B p : Addr} (b : Bag H B p) (h : Same H H') : Bag H' B p := by
  obtain ⟨ns, i, r, sd, c, h1, h2, h3⟩ := b.ex
  exact ⟨ns, i, r, sd, c, h _ _ h1, h _ _ h2, h3⟩
def spDraw : Sp := fun vs H Q _ => ∃ (B p : Addr) (L : Int), vs = [.ref B, .int L] ∧ 0 < L ∧ L < 1073741824 ∧ Bag H B p ∧
  ∀ H' k, Bag H' B p → But B H H' → 0 ≤ k → k < L → Q (.int k) H'
section
variable {P : Program} {w : World} {K : PySem.W.Frag} {mg : Str → Option Value} {base : Heap} {f : Addr} {fd : FuncData}
theorem scDraw : FnScope ["_law_bag_here", "_law_limit", "_law_item", "_law_digit"] ["_law_bag_here", "_law_limit"] (defScope L_draw) := ⟨rfl, rfl, rfl, by decide +kernel, rfl, by decide +kernel, by decide +kernel⟩
theorem ok_draw (F : Fun K "_law_draw" "_law_draw" L_draw f fd) (ml : mg "len" = none) (mi : mg "int" = none) : FnOk P w K mg base CX0 1 f fd ["_law_bag_here", "_law_limit"] spDraw := by
  refine F.ok scDraw (fun vs H Q E h => ?_) (fun cdv A outer s H vs Q E hr h => ?_)
  · obtain ⟨B, p, L, rfl, _⟩ := h
    rfl
  obtain ⟨B, p, L, rfl, l1, l2, hb, q⟩ := h
  obtain ⟨ns, i, r, sd, c, hB, hp, np, i0, r0, s0, s1⟩ := hb.ex
  refine ⟨_, pss_cons (ps_asg (pe_op op_add (pe_ix ix_list (pv 0) pe_int (fun _ _ => rfl)) pe_int) (pg_sub (pv 0) pe_int set_list))
    (C8.pss_cut (ps_if (PW.pt (pw_and (pt_cmpR op_eq (pe_ix ix_list (pv 0) pe_int (fun _ _ => rfl)) pe_int (nomark _)) (pw_and1 (pt_cmpR op_lt (pe_ix ix_list (pv 0) pe_int (fun _ _ => rfl)) (pe_callB call_len_seq rfl ml PySem.boot_len (pa_cons (pe_ix ix_list (pv 0) pe_int (fun _ _ => rfl)) pa_nil)) (nomark _)))))
        (pss_cons (ps_set (i := 2) scDraw.nd rfl (Or.inl rfl) (pe_ix ix_list (pe_ix ix_list (pv 0) pe_int (fun _ _ => rfl)) (pe_ix ix_list (pv 0) pe_int (fun _ _ => rfl)) (fun _ _ => rfl)))
        (pss_cons (ps_asg (pe_op op_add (pe_ix ix_list (pv 0) pe_int (fun _ _ => rfl)) pe_int) (pg_sub (pv 0) pe_int set_list))
        (pss_one (ps_if (pt_cmpR op_ge (pv 2) (pe_op op_pow pe_int pe_int) (nomark _))
          (pss_one (ps_asg (pv 2) (pg_sub (pv 0) pe_int set_list)))
          (pss_one (ps_asg (pe_op op_mod (pe_callTy call_int1 rfl mi (by decide +kernel) (pa_cons (pe_op op_add (pe_op op_add (pe_op op_mul (pe_ix ix_list (pv 0) pe_int (fun _ _ => rfl)) pe_int) (pe_op op_mul (pe_op op_mod (pe_callTy call_int1 rfl mi (by decide +kernel) (pa_cons (pv 2) pa_nil)) pe_int) pe_int)) pe_int) pa_nil)) pe_int) (pg_sub (pv 0) pe_int set_list)))))))
        pss_nil)
    (pss_cons (ps_if (pt_cmpR op_gt (pe_ix ix_list (pv 0) pe_int (fun _ _ => rfl)) pe_int (nomark _))
        (pss_cons (ps_set (i := 3) scDraw.nd rfl (Or.inl rfl) (pe_op op_mod (pe_callTy call_int1 rfl mi (by decide +kernel) (pa_cons (pe_ix ix_list (pv 0) pe_int (fun _ _ => rfl)) pa_nil)) (pv 1)))
        (pss_cons (ps_asg (pe_op op_fdiv (pe_ix ix_list (pv 0) pe_int (fun _ _ => rfl)) (pv 1)) (pg_sub (pv 0) pe_int set_list))
        (pss_one (ps_ret (pv 3)))))
        pss_nil)
    (pss_cons (ps_asg (pe_op op_mod (pe_callTy call_int1 rfl mi (by decide +kernel) (pa_cons (pe_op op_add (pe_op op_add (pe_op op_pow (pe_ix ix_list (pv 0) pe_int (fun _ _ => rfl)) pe_int) (pe_op op_mul (pe_ix ix_list (pv 0) pe_int (fun _ _ => rfl)) pe_int)) pe_int) pa_nil)) pe_int) (pg_sub (pv 0) pe_int set_list))
    (pss_one (ps_ret (pe_op op_mod (pe_callTy call_int1 rfl mi (by decide +kernel) (pa_cons (pe_op op_add (pe_op op_fdiv (pe_ix ix_list (pv 0) pe_int (fun _ _ => rfl)) pe_int) (pe_op op_mul (pe_op op_mod (pe_callTy call_int1 rfl mi (by decide +kernel) (pa_cons (pe_ix ix_list (pv 0) pe_int (fun _ _ => rfl)) pa_nil)) pe_int) pe_int)) pa_nil)) (pv 1))))))), ?_⟩
  refine ⟨_, rfl, B, _, 4, _, rfl, rfl, SqL.of hB, rfl, c, 1, rfl, rfl, _, rfl, B, _, 4, 4, rfl, rfl, hB, rfl, ?_⟩
  have e1 : (bagL p i r sd c).set 4 (.int (c + 1)) = bagL p i r sd (c + 1) := rfl
  have hB1 : (upd H B (.lst ((bagL p i r sd c).set 4 (.int (c + 1))))) B = some (.lst (bagL p i r sd (c + 1))) := upd_same
  have hp1 : (upd H B (.lst ((bagL p i r sd c).set 4 (.int (c + 1))))) p = some (.lst (ns.map V.int)) := by rw [upd_ne np]; exact hp
  have b1 : But B H (upd H B (.lst ((bagL p i r sd c).set 4 (.int (c + 1))))) := fun b o n z => by rw [upd_ne n]; exact z
  generalize upd H B (.lst ((bagL p i r sd c).set 4 (.int (c + 1)))) = H1 at hB1 hp1 b1 ⊢
  refine ⟨fun σ' H' => ∃ (i r sd : Int) (v w : Option V), σ' = [some (.ref B), some (.int L), v, w] ∧ H' B = some (.lst (bagL p i r sd (c + 1))) ∧ H' p = some (.lst (ns.map V.int)) ∧ But B H H' ∧ 0 ≤ i ∧ 0 ≤ r ∧ 0 ≤ sd ∧ sd < 2147483629, ?_, ?_⟩
  · refine ⟨_, rfl, B, _, 2, _, rfl, rfl, SqL.of hB1, rfl, rfl, _, rfl, ?_⟩
    refine ite2 (fun _ => ?_) (fun _ => iteF ⟨i, r, sd, none, none, rfl, hB1, hp1, b1, i0, r0, s0, s1⟩)
    refine ⟨_, rfl, B, _, 1, _, rfl, rfl, SqL.of hB1, rfl, _, rfl, B, _, 0, _, rfl, rfl, SqL.of hB1, rfl, p, _, rfl, .inl (SqL.of hp1), i, _, rfl, rfl, _, rfl, ?_⟩
    refine ite2 (fun c1 => ?_) (fun _ => ⟨i, r, sd, none, none, rfl, hB1, hp1, b1, i0, r0, s0, s1⟩)
    have c2 : i < (((ns.map V.int).length : Nat) : Int) := of_decide_eq_true c1
    rw [List.length_map] at c2
    have hz : (ns.map V.int)[i.toNat]? = some (.int (ns[i.toNat]'(by omega))) := by rw [List.getElem?_map, List.getElem?_eq_getElem (by omega)]; rfl
    generalize ns[i.toNat]'(by omega) = z at hz
    have ha : atI (ns.map V.int) i = some (.int z) := at_of (by omega) hz
    refine ⟨_, rfl, B, _, 0, _, rfl, rfl, SqL.of hB1, rfl, _, rfl, B, _, 1, _, rfl, rfl, SqL.of hB1, rfl, p, _, i, _, rfl, rfl, SqL.of hp1, ha, ?_⟩
    refine ⟨_, rfl, B, _, 1, _, rfl, rfl, SqL.of hB1, rfl, i, 1, rfl, rfl, _, rfl, B, _, 1, 1, rfl, rfl, hB1, rfl, ?_⟩
    have hB2 : (upd H1 B (.lst ((bagL p i r sd (c + 1)).set 1 (.int (i + 1))))) B = some (.lst (bagL p (i + 1) r sd (c + 1))) := upd_same
    have hp2 : (upd H1 B (.lst ((bagL p i r sd (c + 1)).set 1 (.int (i + 1))))) p = some (.lst (ns.map V.int)) := by rw [upd_ne np]; exact hp1
    have b2 : But B H (upd H1 B (.lst ((bagL p i r sd (c + 1)).set 1 (.int (i + 1))))) := b1.trans fun b o n z => by rw [upd_ne n]; exact z
    generalize upd H1 B (.lst ((bagL p i r sd (c + 1)).set 1 (.int (i + 1)))) = H2 at hB2 hp2 b2 ⊢
    refine ⟨_, rfl, 10, 18, rfl, rfl, ⟨by decide, by decide, by decide⟩, z, _, rfl, rfl, _, rfl, ?_⟩
    refine ite2 (fun c3 => ?_) (fun _ => ?_)
    · have c4 : (10 : Int) ^ (18 : Int).toNat ≤ z := of_decide_eq_true c3
      refine ⟨_, rfl, _, rfl, B, _, 2, 2, rfl, rfl, hB2, rfl, i + 1, z, sd, some (.int z), none, rfl, upd_same, by rw [upd_ne np]; exact hp2, b2.trans fun b o n z => by rw [upd_ne n]; exact z, by omega, ?_, s0, s1⟩
      exact Int.le_trans (by decide) c4
    · refine ⟨_, rfl, B, _, 3, _, rfl, rfl, SqL.of hB2, rfl, sd, 69621, rfl, rfl, .inr ⟨by decide, by decide⟩, _, rfl, .inl ⟨z, rfl, ?_⟩⟩
      refine ⟨z, 2147483549, rfl, rfl, (by show (0 : Int) < 2147483549; decide), _, 30103, rfl, rfl, .inr ⟨by decide, by decide⟩, _, _, rfl, rfl, _, 89, rfl, rfl, .inl ⟨_, rfl, ?_⟩⟩
      refine ⟨_, 2147483629, rfl, rfl, (by show (0 : Int) < 2147483629; decide), _, rfl, B, _, 3, 3, rfl, rfl, hB2, rfl, i + 1, r, _, some (.int z), none, rfl, upd_same, by rw [upd_ne np]; exact hp2, b2.trans fun b o n z => by rw [upd_ne n]; exact z, by omega, r0, Int.emod_nonneg _ (by decide), Int.emod_lt_of_pos _ (by decide)⟩
  · rintro σ' H' ⟨i, r, sd, v, w', rfl, hB2, hp2, b2, i0, r0, s0, s1⟩
    refine ⟨_, rfl, B, _, 2, _, rfl, rfl, SqL.of hB2, rfl, r, 0, rfl, rfl, _, rfl, ?_⟩
    refine ite2 (fun _ => ?_) (fun _ => ?_)
    · refine ⟨_, rfl, B, _, 2, _, rfl, rfl, SqL.of hB2, rfl, .inl ⟨r, rfl, _, rfl, r, L, rfl, rfl, l1, ?_⟩⟩
      refine ⟨_, rfl, B, _, 2, _, rfl, rfl, SqL.of hB2, rfl, _, rfl, r, L, rfl, rfl, ⟨l1, l2⟩, _, rfl, B, _, 2, 2, rfl, rfl, hB2, rfl, ?_⟩
      refine ⟨_, rfl, q _ _ ⟨ns, i, r / L, sd, c + 1, upd_same, by rw [upd_ne np]; exact hp2, np, i0, Int.ediv_nonneg r0 (by omega), s0, s1⟩ (b2.trans fun b o n z => by rw [upd_ne n]; exact z) (Int.emod_nonneg _ (by omega)) (Int.emod_lt_of_pos _ l1)⟩
    · refine ⟨_, rfl, B, _, 3, _, rfl, rfl, SqL.of hB2, rfl, sd, 3, rfl, rfl, ⟨by decide, by decide, by omega⟩, ?_⟩
      refine ⟨_, rfl, B, _, 4, _, rfl, rfl, SqL.of hB2, rfl, c + 1, 1299709, rfl, rfl, .inr ⟨by decide, by decide⟩, _, _, rfl, rfl, _, 60013, rfl, rfl, .inl ⟨_, rfl, _, 2147483629, rfl, rfl, (by show (0 : Int) < 2147483629; decide), _, rfl, B, _, 3, 3, rfl, rfl, hB2, rfl, ?_⟩⟩
      have v0 := Int.emod_nonneg (sd ^ Int.toNat 3 + (c + 1) * 1299709 + 60013) (show (2147483629 : Int) ≠ 0 by decide)
      have v1 := Int.emod_lt_of_pos (sd ^ Int.toNat 3 + (c + 1) * 1299709 + 60013) (show (0 : Int) < 2147483629 by decide)
      have hB3 : (upd H' B (.lst ((bagL p i r sd (c + 1)).set 3 (.int ((sd ^ Int.toNat 3 + (c + 1) * 1299709 + 60013) % 2147483629))))) B = some (.lst (bagL p i r ((sd ^ Int.toNat 3 + (c + 1) * 1299709 + 60013) % 2147483629) (c + 1))) := upd_same
      have hp3 : (upd H' B (.lst ((bagL p i r sd (c + 1)).set 3 (.int ((sd ^ Int.toNat 3 + (c + 1) * 1299709 + 60013) % 2147483629))))) p = some (.lst (ns.map V.int)) := by rw [upd_ne np]; exact hp2
      have b3 : But B H (upd H' B (.lst ((bagL p i r sd (c + 1)).set 3 (.int ((sd ^ Int.toNat 3 + (c + 1) * 1299709 + 60013) % 2147483629))))) := b2.trans fun b o n z => by rw [upd_ne n]; exact z
      refine ⟨_, rfl, B, _, 3, _, rfl, rfl, SqL.of hB3, rfl, _, 97, rfl, rfl, ⟨by decide, by decide⟩, _, rfl, B, _, 3, _, rfl, rfl, SqL.of hB3, rfl, .inl ⟨_, rfl, ?_⟩⟩
      refine ⟨_, 7901, rfl, rfl, (by show (0 : Int) < 7901; decide), _, 67, rfl, rfl, .inr ⟨by decide, by decide⟩, _, _, rfl, rfl, .inl ⟨_, rfl, _, rfl, _, L, rfl, rfl, l1, ?_⟩⟩
      exact q _ _ ⟨ns, i, r, _, c + 1, hB3, hp3, np, i0, r0, v0, v1⟩ b3 (Int.emod_nonneg _ (by omega)) (Int.emod_lt_of_pos _ l1)
end
end Kx
end
section
set_option maxHeartbeats 4000000
namespace Kx
open PySem PySem.Spec PyProof.Rows L2
theorem cut_map (ns : List Int) (lo hi : Option Int) : ∃ ms : List Int, cutV (ns.map V.int) lo hi = ms.map V.int := by
  unfold cutV
  rw [List.length_map, ← List.map_drop, ← List.map_take]
  exact ⟨_, rfl⟩
def spBag (K : PySem.W.Frag) : Sp := fun vs H Q _ => ∃ (a : Addr) (ns : List Int), vs = [.ref a] ∧ SqL K H a (ns.map V.int) ∧ ∀ H' B p, Same H H' → H B = none → Bag H' B p → Q (.ref B) H'
theorem new_same {H : Hp} {p : Addr} (h : H p = none) (o : HO) : Same H (upd H p o) := fun b u q => by rw [upd_ne (ne_of_none q h)]; exact q
section
variable {P : Program} {w : World} {K : PySem.W.Frag} {mg : Str → Option Value} {base : Heap} {f fD : Addr} {fd fdD : FuncData}
theorem scBag : FnScope ["_law_script", "_law_seed", "_law_item"] ["_law_script"] (defScope L_bag) := ⟨rfl, rfl, rfl, by decide +kernel, rfl, by decide +kernel, by decide +kernel⟩
theorem ok_bag (F : Fun K "_law_bag" "_law_bag" L_bag f fd) (ml : mg "list" = none) (mi : mg "int" = none) : FnOk P w K mg base CX0 1 f fd ["_law_script"] (spBag K) := by
  refine F.ok scBag (fun vs H Q E h => ?_) (fun cdv A outer s H vs Q E hr h => ?_)
  · obtain ⟨a, ns, rfl, _⟩ := h
    rfl
  obtain ⟨a, ns, rfl, hS, q⟩ := h
  obtain ⟨ms, hm⟩ := cut_map ns none (some 63)
  refine ⟨_, pss_cons (ps_set (i := 1) scBag.nd rfl (Or.inl rfl) pe_int)
    (pss_cons (ps_for PassesOwn.never rfl (pi_list (pe_slice sl_list (pv 0) po_none (po_some pe_int))) (pg_name (i := 2) scBag.nd rfl (Or.inl rfl))
      (pss_one (ps_set (i := 1) scBag.nd rfl (Or.inl rfl) (pe_op op_mod (pe_callTy call_int1 rfl mi (by decide +kernel) (pa_cons (pe_op op_add (pe_op op_add (pe_op op_mul (pv 1) pe_int) (pe_op op_mod (pe_callTy call_int1 rfl mi (by decide +kernel) (pa_cons (pv 2) pa_nil)) pe_int)) pe_int) pa_nil)) pe_int))))
    (pss_one (ps_ret (pe_lst (pa_cons (pe_callTy call_list_of rfl ml (by decide +kernel) (pa_cons (pe_slice sl_list (pv 0) po_none (po_some pe_int)) pa_nil)) (pa_cons pe_int (pa_cons pe_int (pa_cons (pv 1) (pa_cons pe_int pa_nil))))))))), ?_⟩
  refine ⟨_, rfl, 63, rfl, a, _, rfl, hS, fun p np => ⟨p, rfl, ⟨_, SqL.of upd_same⟩, for_list (K := K) (a := p) (xs := cutV (ns.map V.int) none (some 63))
    (fun i σ H' => ∃ (sd : Int) (v : Option V), σ = [some (.ref a), some (.int sd), v] ∧ 0 ≤ sd ∧ sd < 2147483629 ∧ H' = upd H p (.lst (cutV (ns.map V.int) none (some 63)))) ⟨13960, none, rfl, by decide, by decide, rfl⟩ (fun i σ H' _ h => ?_) ?_ ?_⟩⟩
  · obtain ⟨_, _, _, _, _, rfl⟩ := h
    exact SqL.of upd_same
  · rintro i y σ H' hy ⟨sd, v, rfl, s0, s1, rfl⟩
    obtain ⟨z, rfl⟩ : ∃ z, y = V.int z := by
      rw [hm, List.getElem?_map] at hy
      obtain ⟨z, _, e⟩ := Option.map_eq_some_iff.mp hy
      exact ⟨z, e.symm⟩
    refine ⟨_, rfl, sd, 48271, rfl, rfl, .inr ⟨by decide, by decide⟩, _, rfl, .inl ⟨z, rfl, z, 2147483587, rfl, rfl, (by show (0 : Int) < 2147483587; decide), _, _, rfl, rfl, _, 307, rfl, rfl, .inl ⟨_, rfl, _, 2147483629, rfl, rfl, (by show (0 : Int) < 2147483629; decide), ?_⟩⟩⟩
    exact ⟨_, _, rfl, Int.emod_nonneg _ (by decide), Int.emod_lt_of_pos _ (by decide), rfl⟩
  · rintro σ H' ⟨sd, v, rfl, s0, s1, rfl⟩
    have g1 : Same H (upd H p (.lst (cutV (ns.map V.int) none (some 63)))) := new_same np _
    generalize upd H p (.lst (cutV (ns.map V.int) none (some 63))) = H1 at g1
    refine ⟨_, rfl, 63, rfl, a, _, rfl, g1.seq hS, fun p2 np2 => ⟨p2, _, rfl, .inl (SqL.of upd_same), fun l nl => ?_⟩⟩
    have g2 := g1.trans (new_same np2 (.lst (cutV (ns.map V.int) none (some 63))))
    generalize upd H1 p2 (.lst (cutV (ns.map V.int) none (some 63))) = H2 at g2 nl
    have g3 := g2.trans (new_same nl (.lst (cutV (ns.map V.int) none (some 63))))
    have hl : (upd H2 l (.lst (cutV (ns.map V.int) none (some 63)))) l = some (.lst (ms.map V.int)) := by rw [upd_same, hm]
    generalize upd H2 l (.lst (cutV (ns.map V.int) none (some 63))) = H3 at g3 hl
    refine ⟨_, rfl, (by show 5 ≤ sizeLine; decide), fun B nB => q _ B l (g3.trans (new_same nB _)) (g3.free nB) ⟨ms, 0, 0, sd, 0, upd_same, ?_, ?_, by decide, by decide, s0, s1⟩⟩
    · rw [upd_ne (ne_of_none hl nB)]
      exact hl
    · exact ne_of_none hl nB
/-! ### one of several -/
def spOfL : Sp := fun vs H Q _ => ∃ (B p t : Addr) (xs : List V), vs = [.ref B, .ref t] ∧ H t = some (.lst xs) ∧ t ≠ B ∧ 0 < xs.length ∧ xs.length ≤ 1000 ∧ Bag H B p ∧ ∀ H' x, Bag H' B p → But B H H' → x ∈ xs → Q x H'
def spOfS : Sp := fun vs H Q _ => ∃ (B p : Addr) (z : Str), vs = [.ref B, .str z] ∧ 0 < z.length ∧ z.length ≤ 1000 ∧ Bag H B p ∧ ∀ H' c, Bag H' B p → But B H H' → Q (.str ⟨#[c]⟩) H'
theorem scOf : FnScope ["_law_bag_here", "_law_things"] ["_law_bag_here", "_law_things"] (defScope L_of) := ⟨rfl, rfl, rfl, by decide +kernel, rfl, by decide +kernel, by decide +kernel⟩
theorem at_in {xs : List V} {k : Int} (h0 : 0 ≤ k) (h1 : k < (xs.length : Int)) : ∃ x, atI xs k = some x ∧ x ∈ xs := by
  have hk : k.toNat < xs.length := by omega
  exact ⟨xs[k.toNat], at_of (by omega) (List.getElem?_eq_getElem hk), List.getElem_mem hk⟩
theorem ok_ofL (F : Fun K "_law_of" "_law_of" L_of f fd) (G : FnOk P w K mg base CX0 1 fD fdD ["_law_bag_here", "_law_limit"] spDraw) (bD : Binds K fdD ["_law_bag_here", "_law_limit"] []) (kD : PySem.W.keepIn K (.ref fD) = true) (mD : mg "_law_draw" = some (.ref fD)) (ml : mg "len" = none) :
    FnOk P w K mg base CX0 2 f fd ["_law_bag_here", "_law_things"] spOfL := by
  refine F.ok scOf (fun vs H Q E h => ?_) (fun cdv A outer s H vs Q E hr h => ?_)
  · obtain ⟨B, p, t, xs, rfl, _⟩ := h
    rfl
  obtain ⟨B, p, t, xs, rfl, ht, nt, l0, l1, hb, q⟩ := h
  refine ⟨_, pss_one (ps_ret (pe_ix ix_list (pv 1) (pe_call G hr rfl mD kD bD .nil pass0 (pa_cons (pv 0) (pa_cons (pe_callB call_len_seq rfl ml PySem.boot_len (pa_cons (pv 1) pa_nil)) pa_nil))) (fun _ _ => rfl))), ?_⟩
  refine ⟨_, rfl, _, rfl, _, rfl, t, _, rfl, .inl (SqL.of ht), B, p, _, rfl, by omega, by omega, hb, fun H' k b' u k0 k1 => ?_⟩
  obtain ⟨x, hx, hm⟩ := at_in k0 k1
  exact ⟨t, xs, k, x, rfl, rfl, SqL.of (u _ _ nt ht), hx, q H' x b' u hm⟩
theorem ok_ofS (F : Fun K "_law_of" "_law_of" L_of f fd) (G : FnOk P w K mg base CX0 1 fD fdD ["_law_bag_here", "_law_limit"] spDraw) (bD : Binds K fdD ["_law_bag_here", "_law_limit"] []) (kD : PySem.W.keepIn K (.ref fD) = true) (mD : mg "_law_draw" = some (.ref fD)) (ml : mg "len" = none) :
    FnOk P w K mg base CX0 2 f fd ["_law_bag_here", "_law_things"] spOfS := by
  refine F.ok scOf (fun vs H Q E h => ?_) (fun cdv A outer s H vs Q E hr h => ?_)
  · obtain ⟨B, p, z, rfl, _⟩ := h
    rfl
  obtain ⟨B, p, z, rfl, l0, l1, hb, q⟩ := h
  refine ⟨_, pss_one (ps_ret (pe_ix ix_str (pv 1) (pe_call G hr rfl mD kD bD .nil pass0 (pa_cons (pv 0) (pa_cons (pe_callB call_len_str rfl ml PySem.boot_len (pa_cons (pv 1) pa_nil)) pa_nil))) (fun _ _ => rfl))), ?_⟩
  have hz : z.length ≤ sizeLine := Nat.le_of_lt (small1000 l1)
  refine ⟨_, rfl, _, rfl, _, rfl, z, rfl, hz, B, p, _, rfl, by omega, by omega, hb, fun H' k b' u k0 k1 => ?_⟩
  have el : z.cps.toList.length = z.length := Array.length_toList
  have hk : k.toNat < z.cps.toList.length := by omega
  exact ⟨z, k, z.cps.toList[k.toNat], rfl, rfl, hz, by
    have e : atI z.cps.toList ((k.toNat : Nat) : Int) = some z.cps.toList[k.toNat] := atI_nat (List.getElem?_eq_getElem hk)
    rw [show ((k.toNat : Nat) : Int) = k by omega] at e
    exact e, q H' _ b' u⟩
end
end Kx
end
section
set_option maxHeartbeats 4000000
namespace Kx
open PySem PySem.Spec PyProof.Rows L2
/-- // by any divisor but 0, below 2 ^ 9000 -/
theorem op_fdivA {X : Cx} : OpR X (binaryOp .FloorDiv) (rI (fun _ j => j ≠ 0 ∧ j.natAbs.log2 < 9000) fun i j => .int (i.fdiv j)) := opI fun _ _ _ _ _ _ _ hc q => floordiv_int hc.1 q (.inl (PyProof.noPylong_of_log2 hc.2))
/-- the greatest common divisor, with the sign of q -/
def gS (p q : Int) : Int := if q < 0 then -((Nat.gcd p.natAbs q.natAbs : Nat) : Int) else ((Nat.gcd p.natAbs q.natAbs : Nat) : Int)
/-- p over q in lowest terms, above and below -/
def lowU (p q : Int) : Int := p.fdiv (gS p q)
def lowL (p q : Int) : Int := q.fdiv (gS p q)
theorem gS_ne {p q : Int} (h : q ≠ 0) : gS p q ≠ 0 := by
  have g : Nat.gcd p.natAbs q.natAbs ≠ 0 := fun e => h (Int.natAbs_eq_zero.mp (Nat.eq_zero_of_gcd_eq_zero_right e))
  unfold gS
  split <;> omega
theorem gS_abs (p q : Int) : (gS p q).natAbs = Nat.gcd p.natAbs q.natAbs := by
  unfold gS
  split <;> omega
theorem gS_le {p q : Int} (h : q ≠ 0) : (gS p q).natAbs ≤ q.natAbs := by
  rw [gS_abs]
  exact Nat.gcd_le_right _ (Nat.pos_of_ne_zero (fun e => h (Int.natAbs_eq_zero.mp e)))
theorem log_le {a b : Nat} (h : a ≤ b) : a.log2 ≤ b.log2 := by
  by_cases e : a = 0
  · subst e
    rw [Nat.log2_zero]
    omega
  · have := Nat.log2_self_le e
    exact (Nat.le_log2 (by omega)).mpr (Nat.le_trans this h)
theorem abs_nat (i : Int) : (if i < 0 then -i else i) = ((i.natAbs : Nat) : Int) := by
  split <;> omega
def spLow : Sp := fun vs H Q _ => ∃ p q : Int, vs = [.int p, .int q] ∧ q ≠ 0 ∧ q.natAbs.log2 < 9000 ∧ ∀ t, H t = none → Q (.ref t) (upd H t (.tup [.int (lowU p q), .int (lowL p q)]))
abbrev nLow : List Str := ["_law_p", "_law_q", "_law_a", "_law_b"]
section
variable {P : Program} {w : World} {K : PySem.W.Frag} {mg : Str → Option Value} {base : Heap} {f : Addr} {fd : FuncData}
theorem scLow : FnScope nLow ["_law_p", "_law_q"] (defScope L_low) := ⟨rfl, rfl, rfl, by decide +kernel, rfl, by decide +kernel, by decide +kernel⟩
theorem ok_low (F : Fun K "_law_low" "_law_low" L_low f fd) (ma : mg "abs" = none) (mi : mg "int" = none) : FnOk P w K mg base CX0 1 f fd ["_law_p", "_law_q"] spLow := by
  refine F.ok scLow (fun vs H Q E h => ?_) (fun cdv A outer s H vs Q E hr h => ?_)
  · obtain ⟨p, q, rfl, _⟩ := h
    rfl
  obtain ⟨p, q, rfl, hq, hl, qq⟩ := h
  refine ⟨_, pss_cons (ps_par (i := 2) (j := 3) rfl scLow.nd rfl rfl (by decide) rfl rfl (pa_cons (pe_callB call_abs rfl ma (by decide +kernel) (pa_cons (pv 0) pa_nil)) (pa_cons (pe_callB call_abs rfl ma (by decide +kernel) (pa_cons (pv 1) pa_nil)) pa_nil)) rfl)
    (pss_cons (ps_while PassesOwn.never (pt_cmpR op_gt (pv 3) pe_int (nomark _)) (pss_one (ps_par (i := 2) (j := 3) rfl scLow.nd rfl rfl (by decide) rfl rfl (pa_cons (pv 3) (pa_cons (pe_op op_mod (pe_callTy call_int1 rfl mi (by decide +kernel) (pa_cons (pv 2) pa_nil)) (pv 3)) pa_nil)) rfl)))
    (pss_cons (ps_if (pt_cmpR op_lt (pv 1) pe_int (nomark _)) (pss_one (ps_set (i := 2) scLow.nd rfl (Or.inl rfl) (pe_un un_neg (pv 2)))) pss_nil)
    (pss_one (ps_ret (pe_tup (pa_cons (pe_op op_fdivA (pv 0) (pv 2)) (pa_cons (pe_op op_fdivA (pv 1) (pv 2)) pa_nil))))))), ?_⟩
  refine ⟨_, rfl, p, rfl, _, rfl, q, rfl, _, _, rfl, ?_⟩
  rw [abs_nat, abs_nat]
  refine ⟨fun m σ H' => H' = H ∧ ∃ a b : Nat, σ = [some (.int p), some (.int q), some (.int a), some (.int b)] ∧ Nat.gcd a b = Nat.gcd p.natAbs q.natAbs ∧ b = m, ⟨_, rfl, _, _, rfl, rfl, rfl⟩, ?_⟩
  rintro m σ H' ⟨rfl, a, b, rfl, hg, rfl⟩
  refine ⟨_, rfl, b, 0, rfl, rfl, _, rfl, ite2 (fun c => ?_) (fun c => ?_)⟩
  · have hb : (0 : Int) < (b : Nat) := of_decide_eq_true c
    refine ⟨fun σ' H2 => H2 = H' ∧ σ' = [some (.int p), some (.int q), some (.int b), some (.int ((a % b : Nat) : Int))], ?_, ?_⟩
    · rintro σ' H2 ⟨rfl, rfl⟩
      exact ⟨a % b, Nat.mod_lt _ (by omega), rfl, b, a % b, rfl, by rw [← hg, Nat.gcd_comm a b, Nat.gcd_rec b a, Nat.gcd_comm], rfl⟩
    · exact ⟨_, rfl, _, rfl, .inl ⟨_, rfl, _, rfl, a, b, rfl, rfl, hb, _, _, rfl, rfl, rfl⟩⟩
  · have hb : ¬ (0 : Int) < (b : Nat) := of_decide_eq_false (Bool.eq_false_iff.mpr c)
    obtain rfl : b = 0 := by omega
    rw [Nat.gcd_zero_right] at hg
    subst hg
    have fin : ∀ g : Int, g = gS p q → (∀ t, H' t = none → Q (.ref t) (upd H' t (.tup [.int (p.fdiv g), .int (q.fdiv g)]))) ∧ g ≠ 0 ∧ g.natAbs.log2 < 9000 := by
      rintro g rfl
      exact ⟨qq, gS_ne hq, Nat.lt_of_le_of_lt (log_le (gS_le hq)) hl⟩
    refine ⟨_, rfl, q, 0, rfl, rfl, _, rfl, ite2 (fun c => ?_) (fun c => ?_)⟩
    · obtain ⟨q1, n0, l9⟩ := fin (-((Nat.gcd p.natAbs q.natAbs : Nat) : Int)) (by unfold gS; rw [if_pos (of_decide_eq_true c)])
      exact ⟨_, rfl, _, rfl, _, rfl, _, rfl, p, _, rfl, rfl, ⟨n0, l9⟩, _, rfl, _, rfl, q, _, rfl, rfl, ⟨n0, l9⟩, (by show 2 ≤ sizeLine; decide), q1⟩
    · obtain ⟨q1, n0, l9⟩ := fin ((Nat.gcd p.natAbs q.natAbs : Nat) : Int) (by unfold gS; rw [if_neg (of_decide_eq_false (Bool.eq_false_iff.mpr c))])
      exact ⟨_, rfl, _, rfl, p, _, rfl, rfl, ⟨n0, l9⟩, _, rfl, _, rfl, q, _, rfl, rfl, ⟨n0, l9⟩, (by show 2 ≤ sizeLine; decide), q1⟩
end
end Kx
end
section
set_option maxHeartbeats 4000000
namespace Kx
open PySem PySem.Spec PyProof.Rows L2
theorem low_rat {p q : Int} (h : q ≠ 0) : lowU p q = (Rat.divInt p q).num ∧ lowL p q = ((Rat.divInt p q).den : Int) := by
  have g0 : 0 < Nat.gcd p.natAbs q.natAbs := Nat.gcd_pos_of_pos_right _ (Nat.pos_of_ne_zero fun e => h (Int.natAbs_eq_zero.mp e))
  obtain ⟨a, ha⟩ : ((Nat.gcd p.natAbs q.natAbs : Nat) : Int) ∣ p := Int.ofNat_dvd_left.mpr (Nat.gcd_dvd_left _ _)
  obtain ⟨b, hb⟩ : ((Nat.gcd p.natAbs q.natAbs : Nat) : Int) ∣ q := Int.ofNat_dvd_left.mpr (Nat.gcd_dvd_right _ _)
  have gi : (0 : Int) < ((Nat.gcd p.natAbs q.natAbs : Nat) : Int) := by omega
  have gc : Int.gcd q p = Nat.gcd p.natAbs q.natAbs := Nat.gcd_comm _ _
  have key : gS p q = q.sign * ((Nat.gcd p.natAbs q.natAbs : Nat) : Int) ∧ (q.sign = 1 ∨ q.sign = -1) ∧ (q.natAbs : Int) = q.sign * q := by
    unfold gS
    by_cases c : q < 0
    · rw [if_pos c, Int.sign_eq_neg_one_of_neg c]
      omega
    · have c2 : 0 < q := by omega
      rw [if_neg c, Int.sign_eq_one_of_pos c2]
      omega
  obtain ⟨hg, hs, hab⟩ := key
  rw [Rat.num_divInt, Rat.den_divInt, if_neg h, gc]
  unfold lowU lowL
  rw [hg]
  generalize q.sign = s at hs hab ⊢
  generalize ((Nat.gcd p.natAbs q.natAbs : Nat)) = g at *
  have ne : s * (g : Int) ≠ 0 := by rcases hs with rfl | rfl <;> omega
  have dv : ∀ x y : Int, x = (g : Int) * y → x.fdiv (s * g) = s * y := fun x y e => by
    have z : (g : Int) * y = s * (g : Int) * (s * y) := by
      rcases hs with rfl | rfl
      · simp
      · rw [Int.neg_one_mul, Int.neg_one_mul, Int.neg_mul_neg]
    rw [e, z]
    exact Int.mul_fdiv_cancel_left _ ne
  rw [dv p a ha, dv q b hb]
  constructor
  · have e : s * p = (g : Int) * (s * a) := by rw [ha, Int.mul_left_comm]
    rw [e, Int.mul_ediv_cancel_left _ (by omega)]
  · rw [Int.natCast_ediv, hab]
    have e : s * q = (g : Int) * (s * b) := by rw [hb, Int.mul_left_comm]
    rw [e, Int.mul_ediv_cancel_left _ (by omega)]
/-- above and below less than 2 ^ n -/
def Bq (n : Nat) (q : Rat) : Prop := q.num.natAbs < 2 ^ n ∧ q.den < 2 ^ n
theorem Bq.mono {n m : Nat} {q : Rat} (h : Bq n q) (k : n ≤ m) : Bq m q := ⟨Nat.lt_of_lt_of_le h.1 (Nat.pow_le_pow_right (by decide) k), Nat.lt_of_lt_of_le h.2 (Nat.pow_le_pow_right (by decide) k)⟩
theorem div_bd {p q : Int} {n m : Nat} (h : q ≠ 0) (hp : p.natAbs < 2 ^ n) (hq : q.natAbs < 2 ^ m) : (Rat.divInt p q).num.natAbs < 2 ^ n ∧ (Rat.divInt p q).den < 2 ^ m := by
  have g0 : 0 < Int.gcd q p := Int.gcd_pos_of_ne_zero_left _ h
  constructor
  · rw [Rat.num_divInt]
    refine Nat.lt_of_le_of_lt ?_ hp
    have e : (q.sign * p).natAbs = p.natAbs := by
      rw [Int.natAbs_mul, Int.natAbs_sign_of_ne_zero h, Nat.one_mul]
    rw [← e]
    refine Nat.le_trans (Int.natAbs_ediv_le_natAbs _ _) (Nat.le_refl _)
  · rw [Rat.den_divInt, if_neg h]
    exact Nat.lt_of_le_of_lt (Nat.div_le_self _ _) hq
theorem rat_add (a b : Rat) : a + b = Rat.divInt (a.num * b.den + b.num * a.den) (a.den * b.den) := by
  have h1 : (a.den : Int) ≠ 0 := by have := a.den_nz; omega
  have h2 : (b.den : Int) ≠ 0 := by have := b.den_nz; omega
  rw [← Rat.divInt_add_divInt _ _ h1 h2, Rat.num_divInt_den, Rat.num_divInt_den]
theorem rat_mul (a b : Rat) : a * b = Rat.divInt (a.num * b.num) (a.den * b.den) := by
  rw [← Rat.divInt_mul_divInt, Rat.num_divInt_den, Rat.num_divInt_den]
theorem rat_sub (a b : Rat) : a - b = Rat.divInt (a.num * b.den - b.num * a.den) (a.den * b.den) := by
  rw [Rat.sub_eq_add_neg, rat_add, Rat.neg_num, Rat.neg_den, Int.neg_mul, Int.sub_eq_add_neg]
theorem den_ne (a : Rat) : (a.den : Int) ≠ 0 := by have := a.den_nz; omega
theorem lt_add {x y : Int} {n : Nat} (hx : x.natAbs < 2 ^ n) (hy : y.natAbs < 2 ^ n) : (x + y).natAbs < 2 ^ (n + 1) := by
  have := Int.natAbs_add_le x y
  rw [Nat.pow_succ]
  omega
theorem lt_mul {i j : Int} {a b : Nat} (ha : i.natAbs < 2 ^ a) (hb : j.natAbs < 2 ^ b) : (i * j).natAbs < 2 ^ (a + b) := by
  rw [Int.natAbs_mul, Nat.pow_add]
  exact Nat.mul_lt_mul'' ha hb
theorem Bq.dn {n : Nat} {q : Rat} (h : Bq n q) : ((q.den : Int)).natAbs < 2 ^ n := by rw [Int.natAbs_natCast]; exact h.2
theorem Bq.add {n m : Nat} {a b : Rat} (ha : Bq n a) (hb : Bq m b) : Bq (n + m + 1) (a + b) := by
  rw [rat_add]
  have h := div_bd (Int.mul_ne_zero (den_ne a) (den_ne b)) (lt_add (lt_mul ha.1 hb.dn) (by rw [Nat.add_comm]; exact lt_mul hb.1 ha.dn)) (lt_mul ha.dn hb.dn)
  exact ⟨h.1, Nat.lt_of_lt_of_le h.2 (Nat.pow_le_pow_right (by decide) (by omega))⟩
theorem Bq.mul {n m : Nat} {a b : Rat} (ha : Bq n a) (hb : Bq m b) : Bq (n + m) (a * b) := by
  rw [rat_mul]
  exact div_bd (Int.mul_ne_zero (den_ne a) (den_ne b)) (lt_mul ha.1 hb.1) (lt_mul ha.dn hb.dn)
theorem Bq.neg {n : Nat} {a : Rat} (ha : Bq n a) : Bq n (-a) := ⟨by rw [Rat.neg_num, Int.natAbs_neg]; exact ha.1, by rw [Rat.neg_den]; exact ha.2⟩
theorem Bq.sub {n m : Nat} {a b : Rat} (ha : Bq n a) (hb : Bq m b) : Bq (n + m + 1) (a - b) := by
  rw [Rat.sub_eq_add_neg]
  exact ha.add hb.neg
theorem Bq.zero : Bq 1 0 := ⟨by decide, by decide⟩
/-- the sum of the first n products that make the number at the place k -/
def cvT (us ws : List Rat) (k : Nat) : Nat → Rat
  | 0 => 0
  | j + 1 => cvT us ws k j + us.getD j 0 * ws.getD (k - j) 0
def cnv (us ws : List Rat) (k : Nat) : Rat := cvT us ws k (k + 1)
def mulL (us ws : List Rat) : List Rat := (List.range us.length).map (cnv us ws)
def lcmL (l : Nat) : List Rat → Nat
  | [] => l
  | q :: qs => lcmL (Nat.lcm l q.den) qs
theorem lcmL_app (l : Nat) : ∀ (qs rs : List Rat), lcmL l (qs ++ rs) = lcmL (lcmL l qs) rs
  | [], _ => rfl
  | q :: qs, rs => lcmL_app (Nat.lcm l q.den) qs rs
theorem lcmL_dvd : ∀ (qs : List Rat) (l : Nat), l ∣ lcmL l qs ∧ ∀ q ∈ qs, q.den ∣ lcmL l qs
  | [], l => ⟨Nat.dvd_refl _, fun _ h => nomatch h⟩
  | q :: qs, l => by
    have h := lcmL_dvd qs (Nat.lcm l q.den)
    refine ⟨Nat.dvd_trans (Nat.dvd_lcm_left _ _) h.1, fun r hr => ?_⟩
    rcases List.mem_cons.mp hr with rfl | hr
    · exact Nat.dvd_trans (Nat.dvd_lcm_right _ _) h.1
    · exact h.2 r hr
theorem lcmL_pos : ∀ (qs : List Rat) (l : Nat), 0 < l → 0 < lcmL l qs
  | [], _, h => h
  | q :: qs, l, h => lcmL_pos qs _ (Nat.lcm_pos h (Nat.pos_of_ne_zero q.den_nz))
theorem lcmL_bd {n : Nat} : ∀ (qs : List Rat) (l m : Nat), 0 < l → l < 2 ^ m → (∀ q ∈ qs, Bq n q) → lcmL l qs < 2 ^ (m + n * qs.length)
  | [], _, _, _, h, _ => h
  | q :: qs, l, m, h0, h, hb => by
    have hq := (hb q List.mem_cons_self).2
    have e := lcmL_bd qs (Nat.lcm l q.den) (m + n) (Nat.lcm_pos h0 (Nat.pos_of_ne_zero q.den_nz)) (by
      refine Nat.lt_of_le_of_lt (Nat.le_of_dvd (Nat.mul_pos h0 (Nat.pos_of_ne_zero q.den_nz)) (Nat.lcm_dvd_mul _ _)) ?_
      rw [Nat.pow_add]
      exact Nat.mul_lt_mul'' h hq) (fun r hr => hb r (List.mem_cons_of_mem _ hr))
    rw [List.length_cons, Nat.mul_succ]
    rw [show m + (n * qs.length + n) = m + n + n * qs.length by omega]
    exact e
/-- written with one lower part -/
def upL (L : Nat) (qs : List Rat) : List Int := qs.map fun q => q.num * ((L : Int) / (q.den : Int))
theorem up_val {L : Nat} {q : Rat} (h : q.den ∣ L) : ((q.num * ((L : Int) / (q.den : Int)) : Int) : Rat) = q * (L : Rat) := by
  obtain ⟨k, rfl⟩ := h
  have hd : (q.den : Int) ≠ 0 := den_ne q
  have e : (((q.den * k : Nat) : Int) / (q.den : Int)) = (k : Int) := by
    rw [Int.natCast_mul, Int.mul_ediv_cancel_left _ hd]
  have z : q.num = q * q.den := by
    have := Rat.num_divInt_den q
    have h2 : Rat.divInt q.num q.den = (q.num : Rat) / (q.den : Rat) := by rw [Rat.divInt_eq_div]; rfl
    rw [this] at h2
    have h3 : (q.den : Rat) ≠ 0 := by
      intro h0
      have := q.den_nz
      exact this (by exact_mod_cast h0)
    grind
  rw [e, Rat.intCast_mul, z]
  have : (((q.den * k : Nat)) : Rat) = (q.den : Rat) * (k : Rat) := by exact_mod_cast rfl
  rw [this]
  have : ((k : Int) : Rat) = (k : Rat) := rfl
  rw [this]
  grind
theorem getD_up {L : Nat} {qs : List Rat} (h : ∀ q ∈ qs, q.den ∣ L) (j : Nat) : (((upL L qs).getD j 0 : Int) : Rat) = qs.getD j 0 * (L : Rat) := by
  unfold upL
  rw [List.getD_eq_getElem?_getD, List.getElem?_map, List.getD_eq_getElem?_getD]
  cases e : qs[j]? with
  | none => simp
  | some q => exact up_val (h q (List.mem_of_getElem? e))
/-- the products at a place, by whole numbers -/
def pds (xs ys : List Int) (k n : Nat) : List Int := (List.range n).map fun j => xs.getD j 0 * ys.getD (k - j) 0
theorem pds_succ (xs ys : List Int) (k n : Nat) : pds xs ys k (n + 1) = pds xs ys k n ++ [xs.getD n 0 * ys.getD (k - n) 0] := by
  unfold pds
  rw [List.range_succ, List.map_append]
  rfl
theorem pds_val {us ws : List Rat} {L M : Nat} (h : ∀ q ∈ us, q.den ∣ L) (h' : ∀ q ∈ ws, q.den ∣ M) (k : Nat) : ∀ n, (((pds (upL L us) (upL M ws) k n).sum : Int) : Rat) = cvT us ws k n * ((L : Rat) * (M : Rat))
  | 0 => by
    show ((0 : Int) : Rat) = 0 * _
    rw [Rat.zero_mul]
    rfl
  | n + 1 => by
    rw [pds_succ, List.sum_append, Rat.intCast_add, pds_val h h' k n]
    have e : ([(upL L us).getD n 0 * (upL M ws).getD (k - n) 0] : List Int).sum = (upL L us).getD n 0 * (upL M ws).getD (k - n) 0 := by simp
    rw [e, Rat.intCast_mul, getD_up h, getD_up h']
    show _ = (cvT us ws k n + us.getD n 0 * ws.getD (k - n) 0) * _
    grind
theorem cnv_ratio {us ws : List Rat} {L M : Nat} (h : ∀ q ∈ us, q.den ∣ L) (h' : ∀ q ∈ ws, q.den ∣ M) (l0 : 0 < L) (m0 : 0 < M) (k : Nat) :
    Rat.divInt (pds (upL L us) (upL M ws) k (k + 1)).sum ((L : Int) * (M : Int)) = cnv us ws k := by
  rw [Rat.divInt_eq_div, pds_val h h']
  have e : (((L : Int) * (M : Int) : Int) : Rat) = (L : Rat) * (M : Rat) := by rw [Rat.intCast_mul]; rfl
  have lz : (L : Rat) ≠ 0 := by
    intro z
    have : L = 0 := by exact_mod_cast z
    omega
  have mz : (M : Rat) ≠ 0 := by
    intro z
    have : M = 0 := by exact_mod_cast z
    omega
  rw [e]
  unfold cnv
  have : (L : Rat) * (M : Rat) ≠ 0 := by
    intro z
    rcases Rat.mul_eq_zero.mp z with z | z
    · exact lz z
    · exact mz z
  grind
theorem getD_bq {n : Nat} {us : List Rat} (h : ∀ q ∈ us, Bq n q) (n0 : 1 ≤ n) (j : Nat) : Bq n (us.getD j 0) := by
  rw [List.getD_eq_getElem?_getD]
  cases e : us[j]? with
  | none => exact Bq.zero.mono n0
  | some q => exact h q (List.mem_of_getElem? e)
theorem cvT_bd {n m : Nat} {us ws : List Rat} (h : ∀ q ∈ us, Bq n q) (h' : ∀ q ∈ ws, Bq m q) (n0 : 1 ≤ n) (m0 : 1 ≤ m) (k : Nat) : ∀ j, Bq (1 + j * (n + m + 1)) (cvT us ws k j)
  | 0 => by rw [Nat.zero_mul]; exact Bq.zero
  | j + 1 => by
    have := (cvT_bd h h' n0 m0 k j).add ((getD_bq h n0 j).mul (getD_bq h' m0 (k - j)))
    exact this.mono (by rw [Nat.succ_mul]; omega)
/-- the least place, from f on, with a number that is not 0 -/
def hgtN : List Rat → Nat → Option Nat
  | [], _ => none
  | q :: qs, f => if q = 0 then hgtN qs (f + 1) else some f
theorem hgtN_app_zero : ∀ (qs : List Rat) (f : Nat) (rs : List Rat), (∀ q ∈ qs, q = 0) → hgtN (qs ++ rs) f = hgtN rs (f + qs.length)
  | [], f, rs, _ => rfl
  | q :: qs, f, rs, h => by
    show (if q = 0 then hgtN (qs ++ rs) (f + 1) else some f) = _
    rw [if_pos (h q List.mem_cons_self), hgtN_app_zero qs (f + 1) rs (fun r hr => h r (List.mem_cons_of_mem _ hr)), List.length_cons]
    congr 1
    omega
theorem hgtN_shift : ∀ (qs : List Rat) (f : Nat), hgtN qs f = (hgtN qs 0).map (· + f)
  | [], _ => rfl
  | q :: qs, f => by
    show (if q = 0 then hgtN qs (f + 1) else some f) = (if q = 0 then hgtN qs 1 else some 0).map (· + f)
    by_cases h : q = 0
    · rw [if_pos h, if_pos h, hgtN_shift qs (f + 1), hgtN_shift qs 1, Option.map_map]
      congr 1
      funext x
      show x + (f + 1) = x + 1 + f
      omega
    · rw [if_neg h, if_neg h]
      simp
end Kx
end
section
set_option maxHeartbeats 4000000
namespace Kx
open PySem PySem.Spec PyProof.Rows L2
/-! ### numbers -/
structure KP (K : PySem.W.Frag) (a : Addr) (x y : Int) : Prop where
  ex : ∃ (o : Obj) (its : Array Value) (n : Nat), K.lookup a = some o ∧ o.cls = .type "tuple" ∧ o.data = .seq its n ∧ its.size ≤ sizeLine ∧ Vals [.int x, .int y] its.toList
theorem KP.t {K : PySem.W.Frag} {a : Addr} {x y : Int} (k : KP K a x y) (H : Hp) : SqT K H a [.int x, .int y] := .inr k.ex
theorem KP.ty {K : PySem.W.Frag} {a : Addr} {x y : Int} (k : KP K a x y) (H : Hp) : TyX K H (.ref a) (.type "tuple") := by
  obtain ⟨o, its, n, h1, h2, _⟩ := k.ex
  exact .kTuple h1 h2
def rT (r : Rat) : HO := .tup [.int r.num, .int (r.den : Nat)]
/-- the fraction q stands at v, in the heap or in the module -/
def Nq (K : PySem.W.Frag) (H : Hp) (v : V) (q : Rat) : Prop := ∃ a, v = .ref a ∧ (H a = some (rT q) ∨ KP K a q.num (q.den : Nat))
section
variable {K : PySem.W.Frag} {H H' : Hp} {v : V} {q : Rat}
theorem Nq.same (h : Nq K H v q) (s : Same H H') : Nq K H' v q := by
  obtain ⟨a, e, h⟩ := h
  exact ⟨a, e, h.imp (fun h => s _ _ h) id⟩
theorem Nq.sq (h : Nq K H v q) : ∃ a, v = .ref a ∧ SqT K H a [.int q.num, .int (q.den : Nat)] ∧ TyX K H (.ref a) (.type "tuple") := by
  obtain ⟨a, e, h⟩ := h
  rcases h with h | k
  · exact ⟨a, e, SqT.of h, .base (.tup h)⟩
  · exact ⟨a, e, k.t H, k.ty H⟩
theorem Nq.at {t : Addr} (h : H t = some (rT q)) : Nq K H (.ref t) q := ⟨t, rfl, .inl h⟩
theorem Nq.dp (h : Nq K H v q) : Dp K H v (.tuple [.int q.num, .int (q.den : Nat)]) := by
  obtain ⟨a, rfl, s, _⟩ := h.sq
  exact .tup s (.cons (.int _) (.cons (.int _) .nil))
end
/-- a list of numbers -/
def Nl (K : PySem.W.Frag) (H : Hp) (xs : List V) (qs : List Rat) : Prop := xs.length = qs.length ∧ ∀ (i : Nat) (x : V) (q : Rat), xs[i]? = some x → qs[i]? = some q → Nq K H x q
theorem Nl.same {K : PySem.W.Frag} {H H' : Hp} {xs : List V} {qs : List Rat} (h : Nl K H xs qs) (s : Same H H') : Nl K H' xs qs := ⟨h.1, fun i x q h1 h2 => (h.2 i x q h1 h2).same s⟩
theorem Nl.nil {K : PySem.W.Frag} {H : Hp} : Nl K H [] [] := ⟨rfl, fun i x q h => by simp at h⟩
theorem Nl.snoc {K : PySem.W.Frag} {H : Hp} {xs : List V} {qs : List Rat} {x : V} {q : Rat} (h : Nl K H xs qs) (hx : Nq K H x q) : Nl K H (xs ++ [x]) (qs ++ [q]) := by
  refine ⟨by rw [List.length_append, List.length_append, h.1]; rfl, fun i y r h1 h2 => ?_⟩
  by_cases c : i < xs.length
  · rw [List.getElem?_append_left c] at h1
    rw [List.getElem?_append_left (by rw [← h.1]; exact c)] at h2
    exact h.2 i y r h1 h2
  · rw [List.getElem?_append_right (by omega)] at h1
    rw [List.getElem?_append_right (by rw [← h.1]; omega)] at h2
    rw [h.1] at h1
    match hi : i - qs.length, h1, h2 with
    | 0, h1, h2 =>
      rw [← Option.some.inj (show some x = some y from h1), ← Option.some.inj (show some q = some r from h2)]
      exact hx
    | n + 1, h1, _ => simp at h1
theorem Nl.cons {K : PySem.W.Frag} {H : Hp} {xs : List V} {qs : List Rat} {x : V} {q : Rat} (hx : Nq K H x q) (h : Nl K H xs qs) : Nl K H (x :: xs) (q :: qs) := by
  refine ⟨by rw [List.length_cons, List.length_cons, h.1], fun i y r h1 h2 => ?_⟩
  cases i with
  | zero =>
    rw [← Option.some.inj (show some x = some y from h1), ← Option.some.inj (show some q = some r from h2)]
    exact hx
  | succ i => exact h.2 i y r (by simpa using h1) (by simpa using h2)
theorem Nl.tail {K : PySem.W.Frag} {H : Hp} {xs : List V} {qs : List Rat} {x : V} {q : Rat} (h : Nl K H (x :: xs) (q :: qs)) : Nl K H xs qs :=
  ⟨by have := h.1; simp at this; exact this, fun i y r h1 h2 => h.2 (i + 1) y r (by simpa using h1) (by simpa using h2)⟩
theorem Nl.get {K : PySem.W.Frag} {H : Hp} {xs : List V} {qs : List Rat} (h : Nl K H xs qs) {i : Nat} {x : V} (hx : xs[i]? = some x) : ∃ q, qs[i]? = some q ∧ Nq K H x q := by
  have hi : i < xs.length := by
    rcases Nat.lt_or_ge i xs.length with c | c
    · exact c
    · rw [List.getElem?_eq_none c] at hx; cases hx
  have e := List.getElem?_eq_getElem (l := qs) (i := i) (by rw [← h.1]; exact hi)
  exact ⟨_, e, h.2 i x _ hx e⟩
theorem Nl.get' {K : PySem.W.Frag} {H : Hp} {xs : List V} {qs : List Rat} (h : Nl K H xs qs) {i : Nat} (hi : i < qs.length) : ∃ x, xs[i]? = some x ∧ Nq K H x qs[i] := by
  have e := List.getElem?_eq_getElem (l := xs) (i := i) (by rw [h.1]; exact hi)
  exact ⟨_, e, h.2 i _ _ e (List.getElem?_eq_getElem hi)⟩
theorem Nl.app {K : PySem.W.Frag} {H : Hp} {xs ys : List V} {qs rs : List Rat} (h : Nl K H xs qs) (h' : Nl K H ys rs) : Nl K H (xs ++ ys) (qs ++ rs) := by
  refine ⟨by rw [List.length_append, List.length_append, h.1, h'.1], fun i y r h1 h2 => ?_⟩
  by_cases c : i < xs.length
  · rw [List.getElem?_append_left c] at h1
    rw [List.getElem?_append_left (by rw [← h.1]; exact c)] at h2
    exact h.2 i y r h1 h2
  · rw [List.getElem?_append_right (by omega)] at h1
    rw [List.getElem?_append_right (by rw [← h.1]; omega), ← h.1] at h2
    exact h'.2 _ y r h1 h2
theorem Nl.take {K : PySem.W.Frag} {H : Hp} {xs : List V} {qs : List Rat} (h : Nl K H xs qs) (n : Nat) : Nl K H (xs.take n) (qs.take n) := by
  refine ⟨by rw [List.length_take, List.length_take, h.1], fun i y r h1 h2 => ?_⟩
  rw [List.getElem?_take] at h1 h2
  by_cases c : i < n
  · rw [if_pos c] at h1 h2
    exact h.2 i y r h1 h2
  · rw [if_neg c] at h1
    cases h1
theorem Nl.drop {K : PySem.W.Frag} {H : Hp} {xs : List V} {qs : List Rat} (h : Nl K H xs qs) (n : Nat) : Nl K H (xs.drop n) (qs.drop n) := by
  refine ⟨by rw [List.length_drop, List.length_drop, h.1], fun i y r h1 h2 => ?_⟩
  rw [List.getElem?_drop] at h1 h2
  exact h.2 _ y r h1 h2
/-! ### what comes back -/
def GivesQ (H : Hp) (Q : VK) (r : Rat) : Prop := ∀ t H', Same H H' → H t = none → H' t = some (rT r) → Q (.ref t) H'
theorem GivesQ.upd {H : Hp} {Q : VK} {r : Rat} (g : GivesQ H Q r) {t : Addr} (n : H t = none) : Q (.ref t) (upd H t (rT r)) := g t _ (new_same n _) n upd_same
theorem low_HO {p q : Int} (h : q ≠ 0) : HO.tup [.int (lowU p q), .int (lowL p q)] = rT (Rat.divInt p q) := by
  obtain ⟨h1, h2⟩ := low_rat (p := p) h
  rw [h1, h2]
  rfl
theorem div_one (x : Int) : (Rat.divInt x 1).num = x ∧ (Rat.divInt x 1).den = 1 := by
  have e : Rat.divInt x 1 = (x : Rat) := by
    rw [Rat.divInt_eq_div]
    have : ((1 : Int) : Rat) = 1 := rfl
    rw [this]
    grind
  rw [e]
  exact ⟨rfl, rfl⟩
def spLowQ : Sp := fun vs H Q _ => ∃ p q : Int, vs = [.int p, .int q] ∧ q ≠ 0 ∧ q.natAbs.log2 < 9000 ∧ GivesQ H Q (Rat.divInt p q)
theorem log_bd {x : Int} {n : Nat} (h : x.natAbs < 2 ^ n) (h0 : 0 < n) : x.natAbs.log2 < n := PySem.Flt.log2_lt_of h0 h
def spAddQ (K : PySem.W.Frag) : Sp := fun vs H Q _ => ∃ (x y : V) (a b : Rat), vs = [x, y] ∧ Nq K H x a ∧ Nq K H y b ∧ Bq 4000 a ∧ Bq 4000 b ∧ GivesQ H Q (a + b)
def spMulQ (K : PySem.W.Frag) : Sp := fun vs H Q _ => ∃ (x y : V) (a b : Rat), vs = [x, y] ∧ Nq K H x a ∧ Nq K H y b ∧ Bq 4000 a ∧ Bq 4000 b ∧ GivesQ H Q (a * b)
def spNegQ (K : PySem.W.Frag) : Sp := fun vs H Q _ => ∃ (x : V) (a : Rat), vs = [x] ∧ Nq K H x a ∧ GivesQ H Q (-a)
abbrev nAB : List Str := ["_law_a", "_law_b"]
section
variable {P : Program} {w : World} {K : PySem.W.Frag} {mg : Str → Option Value} {base : Heap} {f fL : Addr} {fd fdL : FuncData}
theorem ok_lowQ (F : Fun K "_law_low" "_law_low" L_low f fd) (ma : mg "abs" = none) (mi : mg "int" = none) : FnOk P w K mg base CX0 1 f fd ["_law_p", "_law_q"] spLowQ :=
  (ok_low F ma mi).imp fun vs H Q E h => by
    obtain ⟨p, q, e, h0, hl, g⟩ := h
    refine ⟨p, q, e, h0, hl, fun t nt => ?_⟩
    rw [low_HO h0]
    exact g.upd nt
theorem scAdd : FnScope nAB ["_law_a", "_law_b"] (defScope L_add) := ⟨rfl, rfl, rfl, by decide +kernel, rfl, by decide +kernel, by decide +kernel⟩
theorem ok_addQ (F : Fun K "_law_add" "_law_add" L_add f fd) (G : FnOk P w K mg base CX0 1 fL fdL ["_law_p", "_law_q"] spLowQ) (bL : Binds K fdL ["_law_p", "_law_q"] []) (kL : PySem.W.keepIn K (.ref fL) = true) (mL : mg "_law_low" = some (.ref fL)) :
    FnOk P w K mg base CX0 2 f fd ["_law_a", "_law_b"] (spAddQ K) := by
  refine F.ok scAdd (fun vs H Q E h => ?_) (fun cdv A outer s H vs Q E hr h => ?_)
  · obtain ⟨x, y, a, b, rfl, _⟩ := h
    rfl
  obtain ⟨x, y, a, b, rfl, hx, hy, ba, bb, q⟩ := h
  obtain ⟨xa, rfl, sx, _⟩ := hx.sq
  obtain ⟨ya, rfl, sy, _⟩ := hy.sq
  refine ⟨_, pss_cons (ps_if (PW.pt (pw_and (pt_cmpR op_eq (pe_ix ix_tup (pv 0) pe_int (fun _ _ => rfl)) pe_int (nomark _)) (pw_and1 (pt_cmpR op_eq (pe_ix ix_tup (pv 1) pe_int (fun _ _ => rfl)) pe_int (nomark _)))))
      (pss_one (ps_ret (pe_tup (pa_cons (pe_op op_add (pe_ix ix_tup (pv 0) pe_int (fun _ _ => rfl)) (pe_ix ix_tup (pv 1) pe_int (fun _ _ => rfl))) (pa_cons pe_int pa_nil))))) pss_nil)
    (pss_one (ps_ret (pe_call G hr rfl mL kL bL .nil pass0 (pa_cons (pe_op op_add (pe_op op_mulW (pe_ix ix_tup (pv 0) pe_int (fun _ _ => rfl)) (pe_ix ix_tup (pv 1) pe_int (fun _ _ => rfl))) (pe_op op_mulW (pe_ix ix_tup (pv 1) pe_int (fun _ _ => rfl)) (pe_ix ix_tup (pv 0) pe_int (fun _ _ => rfl))))
      (pa_cons (pe_op op_mulW (pe_ix ix_tup (pv 0) pe_int (fun _ _ => rfl)) (pe_ix ix_tup (pv 1) pe_int (fun _ _ => rfl))) pa_nil))))), ?_⟩
  have low : ∃ p q : Int, [V.int (a.num * b.den + b.num * a.den), V.int (a.den * b.den)] = [.int p, .int q] ∧ q ≠ 0 ∧ q.natAbs.log2 < 9000 ∧ GivesQ H Q (Rat.divInt p q) :=
    ⟨_, _, rfl, Int.mul_ne_zero (den_ne a) (den_ne b), Nat.lt_trans (log_bd (lt_mul ba.dn bb.dn) (by decide)) (by decide), by rw [← rat_add]; exact q⟩
  have els : tRet (tCall spLowQ [] E0 (tCons (tOp (rI0 fun i j => .int (i + j)) (tOp (rI CMulW fun i j => .int (i * j)) (tOp (rIxT K) (tVar 0) (tC (.int 0))) (tOp (rIxT K) (tVar 1) (tC (.int 1)))) (tOp (rI CMulW fun i j => .int (i * j)) (tOp (rIxT K) (tVar 1) (tC (.int 0))) (tOp (rIxT K) (tVar 0) (tC (.int 1)))))
      (tCons (tOp (rI CMulW fun i j => .int (i * j)) (tOp (rIxT K) (tVar 0) (tC (.int 1))) (tOp (rIxT K) (tVar 1) (tC (.int 1)))) tNil))) { nx := fun _ H' => Q .non H', rt := Q } (L2.start nAB [.ref xa, .ref ya]) H :=
    ⟨_, rfl, xa, _, 0, _, rfl, rfl, sx, rfl, _, rfl, ya, _, 1, _, rfl, rfl, sy, rfl, a.num, (b.den : Nat), rfl, rfl, wide_mul ba.1 bb.dn (by decide) (by decide) (by decide), _, rfl, ya, _, 0, _, rfl, rfl, sy, rfl, _, rfl, xa, _, 1, _, rfl, rfl, sx, rfl, b.num, (a.den : Nat), rfl, rfl, wide_mul bb.1 ba.dn (by decide) (by decide) (by decide), _, _, rfl, rfl,
      _, rfl, xa, _, 1, _, rfl, rfl, sx, rfl, _, rfl, ya, _, 1, _, rfl, rfl, sy, rfl, (a.den : Nat), (b.den : Nat), rfl, rfl, wide_mul ba.dn bb.dn (by decide) (by decide) (by decide), low⟩
  refine ⟨_, rfl, xa, _, 1, _, rfl, rfl, sx, rfl, rfl, _, rfl, ite2 (fun e1 => ?_) (fun _ => iteF els)⟩
  refine ⟨_, rfl, ya, _, 1, _, rfl, rfl, sy, rfl, rfl, _, rfl, ite2 (fun e2 => ?_) (fun _ => els)⟩
  have d1 : ((a.den : Nat) : Int) = 1 := V.int.inj (of_decide_eq_true e1)
  have d2 : ((b.den : Nat) : Int) = 1 := V.int.inj (of_decide_eq_true e2)
  refine ⟨_, rfl, xa, _, 0, _, rfl, rfl, sx, rfl, _, rfl, ya, _, 0, _, rfl, rfl, sy, rfl, _, _, rfl, rfl, (by show 2 ≤ sizeLine; decide), fun t nt => ?_⟩
  have e : HO.tup [.int (a.num + b.num), .int 1] = rT (a + b) := by
    have z := rat_add a b
    rw [d1, d2, Int.mul_one, Int.mul_one] at z
    have y := div_one (a.num + b.num)
    unfold rT
    rw [z, show (1 : Int) * 1 = 1 from rfl, y.1, y.2]
    rfl
  rw [e]
  exact q.upd nt
end
end Kx
end
section
set_option maxHeartbeats 4000000
namespace Kx
open PySem PySem.Spec PyProof.Rows L2
def revB : List Value → List Value → List Value := fun _ ws => ws.reverse
def revA : List V → List V → List V := fun _ zs => zs.reverse
def appB : List Value → List Value → List Value := fun us ws => us ++ ws
def appA : List V → List V → List V := fun vs zs => vs ++ zs
theorem vals_rev : ∀ {vs : List V} {us : List Value}, Vals vs us → Vals vs.reverse us.reverse
  | _, _, .nil => .nil
  | _, _, .cons r t => by
    rw [List.reverse_cons, List.reverse_cons]
    exact Paired.snoc (vals_rev t) r
theorem vals_app : ∀ {vs : List V} {us : List Value} {zs : List V} {ws : List Value}, Vals vs us → Vals zs ws → Vals (vs ++ zs) (us ++ ws)
  | _, _, _, _, .nil, t => t
  | _, _, _, _, .cons r t, t' => .cons r (vals_app t t')
section
variable {X : Cx} {CX : CXT} {k : Nat} {f : Addr} {fd : FuncData} {ps ks : List Str} {sp : Sp} {E : XK} {x : Str} {p pos : Pos} {kws : List Keyword} {tk : TA}
/-- f(k = v, ..), keywords alone -/
def tCallR (m : Nat) (sp : Sp) (E : XK) (tk : TA) : TE := fun σ H Q => tk σ H fun zs H2 => zs.length = m ∧ sp zs.reverse H2 Q E
theorem pe_callR (F : FnOk X.prog X.w X.K X.mg X.base CX k f fd ps sp) (hr : Room k X.A) (hg : Gl X x) (hm : X.mg x = some (.ref f)) (hk : PySem.W.keepIn X.K (.ref f) = true) (hb : KBn X.K fd ps 0 ks revB revA) (hx : Passes CX X E)
    (hkw : PK X kws tk) (hall : (backToKw pos (keywordEach kws X.env)).all (·.1.isSome) = true := by rfl) (hks : (backToKw pos (keywordEach kws X.env)).filterMap (·.1) = ks := by rfl)
    (hdb : (x == ("__debug__" : Str)) = false := by decide) (hpl : ((backTo pos (starEach [] X.env)).any (·.1) || (backToKw pos (keywordEach kws X.env)).any (·.1.isNone)) = false := by rfl) :
    PE X (.Call (.Name x p) [] kws pos) (tCallR ks.length sp E tk) := by
  refine ⟨fun pins s σ H Q I h => wpAny_Call_Name_kw (ld_glob I hg hm ?_ hdb)⟩
  refine PySem.W.callWith_KW0 (h₀ := X.base) I.ok.mod.kin hk hall ?_ hpl
  refine thn (hkw.run pos pins s σ H _ I h) fun ws s2 ⟨zs, H2, I2, rz, l2, q2⟩ => ⟨I2.kIn, ?_⟩
  rw [hks]
  exact run_fnN (us := []) (vs := []) F hr hb hx I2 .nil rz rfl l2 q2
end
section
variable {K : PySem.W.Frag} {x q : Str} {st : Stmt} {f : Addr} {fd : FuncData}
theorem kb_two {a b : Str} {st : Stmt} (F : Fun K x q st f fd) (h : ∀ (kV doc pm : Value) (an : Option Addr) (cdv ct u v : Value), bindArgs (PySem.W.fnOf x q (defArgs st) (defBody st) (defScope st) .none kV doc pm an cdv ct) ⟨[], [(b, v), (a, u)]⟩ = pure [(a, u), (b, v)]) : KBn K fd [a, b] 0 [b, a] revB revA := by
  obtain ⟨oc, od, kV, doc, pm, an, cdv, ct, osl, rfl, lk, hcd⟩ := F.ex
  refine ⟨fun s us ws _ l1 l2 => ?_, fun _ r => vals_rev r⟩
  match us, ws, l1, l2 with
  | [], [v, u], _, _ => exact .of_eq (h _ _ _ _ _ _ u v)
theorem kb_one {a : Str} {st : Stmt} (F : Fun K x q st f fd) (h : ∀ (kV doc pm : Value) (an : Option Addr) (cdv ct u : Value), bindArgs (PySem.W.fnOf x q (defArgs st) (defBody st) (defScope st) .none kV doc pm an cdv ct) ⟨[], [(a, u)]⟩ = pure [(a, u)]) : KBn K fd [a] 0 [a] revB revA := by
  obtain ⟨oc, od, kV, doc, pm, an, cdv, ct, osl, rfl, lk, hcd⟩ := F.ex
  refine ⟨fun s us ws _ l1 l2 => ?_, fun _ r => vals_rev r⟩
  match us, ws, l1, l2 with
  | [], [u], _, _ => exact .of_eq (h _ _ _ _ _ _ u)
/-- the first by its place, the second by its name -/
theorem kb_mix {a b : Str} {st : Stmt} (F : Fun K x q st f fd) (h : ∀ (kV doc pm : Value) (an : Option Addr) (cdv ct u v : Value), bindArgs (PySem.W.fnOf x q (defArgs st) (defBody st) (defScope st) .none kV doc pm an cdv ct) ⟨[u], [(b, v)]⟩ = pure [(a, u), (b, v)]) : KBn K fd [a, b] 1 [b] appB appA := by
  obtain ⟨oc, od, kV, doc, pm, an, cdv, ct, osl, rfl, lk, hcd⟩ := F.ex
  refine ⟨fun s us ws _ l1 l2 => ?_, fun r1 r2 => vals_app r1 r2⟩
  match us, ws, l1, l2 with
  | [u], [v], _, _ => exact .of_eq (h _ _ _ _ _ _ u v)
end
/-! ### a def as it is used: its promise, its arguments, its name -/
structure Use (P : Program) (w : World) (K : PySem.W.Frag) (mg : Str → Option Value) (base : Heap) (CX : CXT) (k : Nat) (x : Str) (ps : List Str) (sp : Sp) (kws : List (List Str)) : Prop where
  ex : ∃ (f : Addr) (fd : FuncData), FnOk P w K mg base CX k f fd ps sp ∧ Binds K fd ps [] ∧ PySem.W.keepIn K (.ref f) = true ∧ mg x = some (.ref f) ∧ (∀ ks ∈ kws, ks.length = ps.length → KBn K fd ps 0 ks revB revA) ∧ (∀ ks ∈ kws, ks.length = 1 → ps.length = 2 → KBn K fd ps 1 ks appB appA)
section
variable {X : Cx} {CX : CXT} {k : Nat} {ps ks : List Str} {kl : List (List Str)} {sp : Sp} {E : XK} {x : Str} {p pos : Pos} {kws : List Keyword} {tk t : TA} {e : Expr} {es : List Expr}
theorem pe_use (U : Use X.prog X.w X.K X.mg X.base CX k x ps sp kl) (hr : Room k X.A) (hg : Gl X x) (hx : Passes CX X E) (ha : PA X (e :: es) t)
    (hdb : (x == ("__debug__" : Str)) = false := by decide) (he : starEach (e :: es) X.env = (false, eval e X.env) :: starEach es X.env := by rfl) (hpl : (backTo pos (starEach es X.env)).any (·.1) = false := by rfl) :
    PE X (.Call (.Name x p) (e :: es) [] pos) (tCall sp [] E t) := by
  obtain ⟨f, fd, F, b, kp, m, _⟩ := U.ex
  exact pe_call F hr hg m kp b .nil hx ha hdb he hpl
theorem pe_useR (U : Use X.prog X.w X.K X.mg X.base CX k x ps sp kl) (hr : Room k X.A) (hg : Gl X x) (hx : Passes CX X E) (hl : ks.length = ps.length)
    (hkw : PK X kws tk) (hin : ks ∈ kl) (hall : (backToKw pos (keywordEach kws X.env)).all (·.1.isSome) = true := by rfl) (hks : (backToKw pos (keywordEach kws X.env)).filterMap (·.1) = ks := by rfl)
    (hdb : (x == ("__debug__" : Str)) = false := by decide) (hpl : ((backTo pos (starEach [] X.env)).any (·.1) || (backToKw pos (keywordEach kws X.env)).any (·.1.isNone)) = false := by rfl) :
    PE X (.Call (.Name x p) [] kws pos) (tCallR ks.length sp E tk) := by
  obtain ⟨f, fd, F, b, kp, m, h, _⟩ := U.ex
  exact pe_callR F hr hg m kp (h _ hin hl) hx hkw hall hks hdb hpl
theorem pe_useN (U : Use X.prog X.w X.K X.mg X.base CX k x ps sp kl) (hr : Room k X.A) (hg : Gl X x) (hx : Passes CX X E) (hl : ks.length = 1) (hl2 : ps.length = 2)
    (ha : PA X (e :: es) t) (hkw : PK X kws tk) (hin : ks ∈ kl) (hall : (backToKw pos (keywordEach kws X.env)).all (·.1.isSome) = true := by rfl) (hks : (backToKw pos (keywordEach kws X.env)).filterMap (·.1) = ks := by rfl)
    (hdb : (x == ("__debug__" : Str)) = false := by decide) (he : starEach (e :: es) X.env = (false, eval e X.env) :: starEach es X.env := by rfl)
    (hpl : ((backTo pos (starEach (e :: es) X.env)).any (·.1) || (backToKw pos (keywordEach kws X.env)).any (·.1.isNone)) = false := by rfl) :
    PE X (.Call (.Name x p) (e :: es) kws pos) (tCallN 1 ks.length sp appA E t tk) := by
  obtain ⟨f, fd, F, b, kp, m, _, h⟩ := U.ex
  exact pe_callN F hr hg m kp (h _ hin hl hl2) hx ha hkw hall hks hdb he hpl
end
/-! ### a def whose code object's place is known -/
structure FunC (K : PySem.W.Frag) (x qual : Str) (st : Stmt) (f : Addr) (fd : FuncData) (c : Addr) : Prop where
  ex : ∃ (oc : Value) (od : Option Addr) (kV doc pm : Value) (an : Option Addr) (ct : Value) (osl : Array (Option Value)),
    fd = PySem.W.fnOf x qual (defArgs st) (defBody st) (defScope st) .none kV doc pm an (.ref c) ct ∧ K.lookup f = some ⟨oc, od, .func fd, osl⟩ ∧ PySem.W.codeIn K (.ref c) qual = true
  kp : PySem.W.keepIn K (.ref f) = true
section
variable {P : Program} {w : World} {K : PySem.W.Frag} {mg : Str → Option Value} {base : Heap}
theorem FunC.fn {x qual : Str} {st : Stmt} {f c : Addr} {fd : FuncData} (F : FunC K x qual st f fd c) : Fun K x qual st f fd := by
  obtain ⟨oc, od, kV, doc, pm, an, ct, osl, h1, h2, h3⟩ := F.ex
  exact ⟨⟨oc, od, kV, doc, pm, an, _, ct, osl, h1, h2, h3⟩, F.kp⟩
theorem FunC.ok {x qual : Str} {st : Stmt} {f c : Addr} {fd : FuncData} {N ps : List Str} {k : Nat} {sp : Sp} (F : FunC K x qual st f fd c) (S : FnScope N ps (defScope st)) (len : ∀ vs H Q E, sp vs H Q E → vs.length = ps.length)
    (hbody : ∀ (A : Around) (outer : List Env) (s : Shared) (H : Hp) (vs : List V) (Q : VK) (E : XK), Room k (A.deeper (envOfC qual (defScope st) s.heap.objs.size f (.ref c))) → sp vs H Q E →
      ∃ t, PSs (cxOf CX0 P w K mg base N qual (defScope st) f (.ref c) A outer s H E).nox (defBody st) t ∧ t { nx := fun _ H' => Q .non H', rt := Q } (L2.start N vs) H) : FnOk P w K mg base CX0 (k + 1) f fd ps sp := by
  obtain ⟨oc, od, kV, doc, pm, an, ct, osl, rfl, lk, hcd⟩ := F.ex
  refine fn_of lk hcd S len fun A outer s H vs Q E hr hsp => ?_
  obtain ⟨t, h, q⟩ := hbody A outer s H vs Q E hr hsp
  exact ⟨t, h.nox, q⟩
end
end Kx
end
section
set_option maxHeartbeats 4000000
namespace Kx
open PySem PySem.Spec PyProof.Rows L2
/-- a list comprehension that makes something new at each turn: R says of the i-th -/
theorem lc_acc {J : It} {n : Nat} {G : Hp → Prop} {Y : Nat → Hp → V → Hp → Prop} (w : Walk J n G Y) {g : TG} {te : TE} {vs : List Nat} {σ : L2.St} {H1 : Hp} {D : Addr} {Qd : Hp → Prop} (R : Nat → Hp → V → Prop)
    (mono : ∀ i H H' y l, R i H y → H D = some (.lst l) → But D H H' → R i H' y) (nD : H1 D = none) (hn : n ≤ 900) (hG : ∀ H, Same H1 H → G H)
    (hs : ∀ i x H H' (k : V → Hp → Prop), i < n → Same H1 H → Y i H x H' → (∀ y H4, Same H H4 → R i H4 y → k y H4) → g x (wipe σ vs) H' fun σ2 H2 => wipe σ2 vs = wipe σ vs ∧ te σ2 H2 k)
    (hd : ∀ H xs, Same H1 H → H D = some (.lst xs) → xs.length = n → (∀ (i : Nat) y, xs[i]? = some y → R i H y) → Qd H) :
    ∃ W : Nat → Nat → Hp → Prop, (∃ m, W 0 m (upd H1 D (.lst []))) ∧ ∀ i m H, W i m H →
      (J.stop i H ∧ Qd H) ∨ (J.go i H ∧ ∃ Nx : Hp → Prop, (∀ H', Nx H' → ∃ m', m' < m ∧ W (i + 1) m' H') ∧ ∀ x H', J.yld i H x H' → g x (wipe σ vs) H' fun σ2 H2 => wipe σ2 vs = wipe σ vs ∧ tYes σ2 H2 fun b H3 =>
        if b = true then te σ2 H3 fun y H4 => ∃ acc, H4 D = some (.lst acc) ∧ acc.length < sizeLine ∧ Nx (upd H4 D (.lst (acc ++ [y]))) else Nx H3) := by
  refine lc_it w (fun i H => Same H1 H ∧ ∃ xs, H D = some (.lst xs) ∧ xs.length = i ∧ ∀ (j : Nat) y, xs[j]? = some y → R j H y) ⟨new_same nD _, [], upd_same, rfl, fun j y h => by simp at h⟩ (fun i H _ h => hG H h.1) ?_ ?_
  · rintro i x H H' hi ⟨s1, xs, hx, hl, hR⟩ y
    have z := hs i x H H' (fun y H4 => ∃ acc, H4 D = some (.lst acc) ∧ acc.length < sizeLine ∧ (Same H1 (upd H4 D (.lst (acc ++ [y]))) ∧ ∃ xs, (upd H4 D (.lst (acc ++ [y]))) D = some (.lst xs) ∧ xs.length = i + 1 ∧ ∀ (j : Nat) z, xs[j]? = some z → R j (upd H4 D (.lst (acc ++ [y]))) z)) hi s1 y (fun y H4 s4 r4 => ?_)
    · exact z
    · have h4 := s4 _ _ hx
      refine ⟨xs, h4, small1000 (by omega), fun e o h => ?_, xs ++ [y], upd_same, by rw [List.length_append, hl]; rfl, fun j z hz => ?_⟩
      · rw [upd_ne (ne_of_none h nD)]
        exact s4 _ _ (s1 _ _ h)
      · have sm : But D H4 (upd H4 D (.lst (xs ++ [y]))) := fun e o n h => by rw [upd_ne n]; exact h
        by_cases c : j < xs.length
        · rw [List.getElem?_append_left c] at hz
          exact mono j H _ z _ (hR j z hz) hx ((But.same s4).trans sm)
        · rw [List.getElem?_append_right (by omega)] at hz
          match hj : j - xs.length, hz with
          | 0, hz =>
            rw [← Option.some.inj (show some y = some z from hz)]
            obtain rfl : j = i := by omega
            exact mono j H4 _ _ _ r4 h4 sm
          | _ + 1, hz => simp at hz
  · rintro H ⟨s1, xs, hx, hl, hR⟩
    exact hd H xs s1 hx hl hR
theorem Nq.butL {K : PySem.W.Frag} {H H' : Hp} {v : V} {q : Rat} {D : Addr} {l : List V} (h : Nq K H v q) (hD : H D = some (.lst l)) (s : But D H H') : Nq K H' v q := by
  obtain ⟨a, e, h⟩ := h
  refine ⟨a, e, h.imp (fun h => s _ _ (fun z => ?_) h) id⟩
  rw [z, hD] at h
  cases h
/-- .. new numbers -/
theorem lc_nums {K : PySem.W.Frag} {J : It} {n : Nat} {G : Hp → Prop} {Y : Nat → Hp → V → Hp → Prop} (w : Walk J n G Y) {g : TG} {te : TE} {vs : List Nat} {σ : L2.St} {H1 : Hp} {D : Addr} {Qd : Hp → Prop} (qs : List Rat)
    (hl : qs.length = n) (nD : H1 D = none) (hn : n ≤ 900) (hG : ∀ H, Same H1 H → G H)
    (hs : ∀ i q x H H' (k : V → Hp → Prop), qs[i]? = some q → Same H1 H → Y i H x H' → (∀ y H4, Same H H4 → Nq K H4 y q → k y H4) → g x (wipe σ vs) H' fun σ2 H2 => wipe σ2 vs = wipe σ vs ∧ te σ2 H2 k)
    (hd : ∀ H xs, Same H1 H → H D = some (.lst xs) → Nl K H xs qs → Qd H) :
    ∃ W : Nat → Nat → Hp → Prop, (∃ m, W 0 m (upd H1 D (.lst []))) ∧ ∀ i m H, W i m H →
      (J.stop i H ∧ Qd H) ∨ (J.go i H ∧ ∃ Nx : Hp → Prop, (∀ H', Nx H' → ∃ m', m' < m ∧ W (i + 1) m' H') ∧ ∀ x H', J.yld i H x H' → g x (wipe σ vs) H' fun σ2 H2 => wipe σ2 vs = wipe σ vs ∧ tYes σ2 H2 fun b H3 =>
        if b = true then te σ2 H3 fun y H4 => ∃ acc, H4 D = some (.lst acc) ∧ acc.length < sizeLine ∧ Nx (upd H4 D (.lst (acc ++ [y]))) else Nx H3) := by
  refine lc_acc w (fun i H y => ∀ q, qs[i]? = some q → Nq K H y q) (fun i H H' y l h hD s q hq => (h q hq).butL hD s) nD hn hG (fun i x H H' k hi s y hk => ?_) (fun H xs s h l hR => hd H xs s h ⟨by rw [l, hl], fun i x q h1 h2 => hR i x h1 q h2⟩)
  have e := List.getElem?_eq_getElem (l := qs) (i := i) (by omega)
  exact hs i _ x H H' k e s y fun z H4 s4 r4 => hk z H4 s4 fun q hq => by
    rw [e] at hq
    rw [← Option.some.inj hq]
    exact r4
abbrev tupQ (q : Rat) : PyData := .tuple [.int q.num, .int (q.den : Nat)]
theorem eqv_num (a b : Rat) : PyData.eqv (tupQ a) (tupQ b) = decide (a = b) := by
  by_cases h : a = b
  · subst h
    rw [decide_eq_true rfl]
    exact SeqAt.eqv_refl _ rfl
  · rw [decide_eq_false h]
    simp only [tupQ, PyData.eqv, PyData.eqvAll, Bool.and_true]
    rw [Bool.and_eq_false_iff]
    by_cases e : a.num = b.num
    · right
      refine beq_eq_false_iff_ne.mpr fun z => h (Rat.ext e ?_)
      omega
    · left
      exact beq_eq_false_iff_ne.mpr e
end Kx
end
section
set_option maxHeartbeats 4000000
namespace Kx
open PySem PySem.Spec PyProof.Rows L2
/-! ### the program's numbers -/
abbrev nOO : List Str := ["one", "other"]
def spProQ (K : PySem.W.Frag) : Sp := fun vs H Q _ => ∃ (x y : V) (a b : Rat), vs = [x, y] ∧ Nq K H x a ∧ Nq K H y b ∧ Bq 4000 a ∧ Bq 4000 b ∧ GivesQ H Q (a * b)
section
variable {P : Program} {w : World} {K : PySem.W.Frag} {mg : Str → Option Value} {base : Heap} {f fL o0 : Addr} {fd fdL : FuncData}
theorem scRatio : FnScope ["upper", "lower", "shared"] ["upper", "lower"] (defScope F_ratio) := ⟨rfl, rfl, rfl, by decide +kernel, rfl, by decide +kernel, by decide +kernel⟩
theorem ok_ratio (F : Fun K "ratio" "ratio" F_ratio f fd) (mG : mg "gcd" = some (.builtin "math.gcd")) : FnOk P w K mg base CX0 1 f fd ["upper", "lower"] spLowQ := by
  refine F.ok scRatio (fun vs H Q E h => ?_) (fun cdv A outer s H vs Q E hr h => ?_)
  · obtain ⟨p, q, rfl, _⟩ := h
    rfl
  obtain ⟨p, q, rfl, hq, hl, qq⟩ := h
  refine ⟨_, pss_cons (ps_if (pt_cmpR op_eq (pv 1) pe_int (nomark _)) (pss_one ps_never) pss_nil)
    (pss_cons (ps_set (i := 2) scRatio.nd rfl (Or.inl rfl) (pe_callBfun cr_gcd rfl mG (pa_cons (pv 0) (pa_cons (pv 1) pa_nil))))
    (pss_cons (ps_if (pt_cmpR op_lt (pv 1) pe_int (nomark _)) (pss_one (ps_set (i := 2) scRatio.nd rfl (Or.inl rfl) (pe_un un_neg (pv 2)))) pss_nil)
    (pss_one (ps_ret (pe_tup (pa_cons (pe_op op_fdivA (pv 0) (pv 2)) (pa_cons (pe_op op_fdivA (pv 1) (pv 2)) pa_nil))))))), ?_⟩
  have fin : ∀ g : Int, g = gS p q → (∀ t, H t = none → Q (.ref t) (upd H t (.tup [.int (p.fdiv g), .int (q.fdiv g)]))) ∧ g ≠ 0 ∧ g.natAbs.log2 < 9000 := by
    rintro g rfl
    refine ⟨fun t nt => ?_, gS_ne hq, Nat.lt_of_le_of_lt (log_le (gS_le hq)) hl⟩
    have := qq.upd nt
    rw [← low_HO hq] at this
    exact this
  refine ⟨_, rfl, rfl, _, rfl, ?_⟩
  rw [decide_eq_false (fun e => hq (V.int.inj e))]
  refine iteF ⟨_, rfl, _, rfl, p, q, rfl, ?_⟩
  refine ⟨_, rfl, q, 0, rfl, rfl, _, rfl, ite2 (fun c => ?_) (fun c => ?_)⟩
  · obtain ⟨q1, n0, l9⟩ := fin (-((Nat.gcd p.natAbs q.natAbs : Nat) : Int)) (by unfold gS; rw [if_pos (of_decide_eq_true c)])
    exact ⟨_, rfl, _, rfl, _, rfl, _, rfl, p, _, rfl, rfl, ⟨n0, l9⟩, _, rfl, _, rfl, q, _, rfl, rfl, ⟨n0, l9⟩, (by show 2 ≤ sizeLine; decide), q1⟩
  · obtain ⟨q1, n0, l9⟩ := fin ((Nat.gcd p.natAbs q.natAbs : Nat) : Int) (by unfold gS; rw [if_neg (of_decide_eq_false (Bool.eq_false_iff.mpr c))])
    exact ⟨_, rfl, _, rfl, p, _, rfl, rfl, ⟨n0, l9⟩, _, rfl, _, rfl, q, _, rfl, rfl, ⟨n0, l9⟩, (by show 2 ≤ sizeLine; decide), q1⟩
theorem scPro : FnScope nOO ["one", "other"] (defScope F_product_of) := ⟨rfl, rfl, rfl, by decide +kernel, rfl, by decide +kernel, by decide +kernel⟩
theorem ok_product (F : Fun K "product_of" "product_of" F_product_of f fd) (UR : Use P w K mg base CX0 1 "ratio" ["upper", "lower"] spLowQ []) : FnOk P w K mg base CX0 2 f fd ["one", "other"] (spProQ K) := by
  refine F.ok scPro (fun vs H Q E h => ?_) (fun cdv A outer s H vs Q E hr h => ?_)
  · obtain ⟨x, y, a, b, rfl, _⟩ := h
    rfl
  obtain ⟨x, y, a, b, rfl, hx, hy, ba, bb, q⟩ := h
  obtain ⟨xa, rfl, sx, _⟩ := hx.sq
  obtain ⟨ya, rfl, sy, _⟩ := hy.sq
  refine ⟨_, pss_one (ps_ret (pe_use UR hr rfl pass0 (pa_cons (pe_op op_mulW (pe_ix ix_tup (pv 0) pe_int (fun _ _ => rfl)) (pe_ix ix_tup (pv 1) pe_int (fun _ _ => rfl)))
      (pa_cons (pe_op op_mulW (pe_ix ix_tup (pv 0) pe_int (fun _ _ => rfl)) (pe_ix ix_tup (pv 1) pe_int (fun _ _ => rfl))) pa_nil)))), ?_⟩
  exact ⟨_, rfl, xa, _, 0, _, rfl, rfl, sx, rfl, _, rfl, ya, _, 0, _, rfl, rfl, sy, rfl, a.num, b.num, rfl, rfl, wide_mul ba.1 bb.1 (by decide) (by decide) (by decide),
      _, rfl, xa, _, 1, _, rfl, rfl, sx, rfl, _, rfl, ya, _, 1, _, rfl, rfl, sy, rfl, (a.den : Nat), (b.den : Nat), rfl, rfl, wide_mul ba.dn bb.dn (by decide) (by decide) (by decide),
      _, _, rfl, Int.mul_ne_zero (den_ne a) (den_ne b), Nat.lt_trans (log_bd (lt_mul ba.dn bb.dn) (by decide)) (by decide), by rw [← rat_mul]; exact q⟩
theorem scNgo : FnScope ["value"] ["value"] (defScope F_negative_of) := ⟨rfl, rfl, rfl, by decide +kernel, rfl, by decide +kernel, by decide +kernel⟩
theorem ok_negative (F : Fun K "negative_of" "negative_of" F_negative_of f fd) : FnOk P w K mg base CX0 1 f fd ["value"] (spNegQ K) := by
  refine F.ok scNgo (fun vs H Q E h => ?_) (fun cdv A outer s H vs Q E hr h => ?_)
  · obtain ⟨x, a, rfl, _⟩ := h
    rfl
  obtain ⟨x, a, rfl, hx, q⟩ := h
  obtain ⟨xa, rfl, sx, _⟩ := hx.sq
  refine ⟨_, pss_one (ps_ret (pe_tup (pa_cons (pe_un un_neg (pe_ix ix_tup (pv 0) pe_int (fun _ _ => rfl))) (pa_cons (pe_ix ix_tup (pv 0) pe_int (fun _ _ => rfl)) pa_nil)))), ?_⟩
  refine ⟨_, rfl, xa, _, 0, _, rfl, rfl, sx, rfl, _, rfl, _, rfl, xa, _, 1, _, rfl, rfl, sx, rfl, (by show 2 ≤ sizeLine; decide), fun t nt => ?_⟩
  have e : HO.tup [.int (-a.num), .int (a.den : Nat)] = rT (-a) := by
    unfold rT
    rw [Rat.neg_num, Rat.neg_den]
  rw [e]
  exact q.upd nt
end
/-! ### lists of numbers -/
/-- the list at a, for lists that were passed -/
def Ls (K : PySem.W.Frag) (H : Hp) (v : V) (qs : List Rat) : Prop := ∃ a xs, v = .ref a ∧ H a = some (.lst xs) ∧ Nl K H xs qs
theorem Ls.same {K : PySem.W.Frag} {H H' : Hp} {v : V} {qs : List Rat} (h : Ls K H v qs) (s : Same H H') : Ls K H' v qs := by
  obtain ⟨a, xs, e, h1, h2⟩ := h
  exact ⟨a, xs, e, s _ _ h1, h2.same s⟩
/-- a new list of numbers comes back -/
def GivesL (K : PySem.W.Frag) (H : Hp) (Q : VK) (rs : List Rat) : Prop := ∀ b H' xs, Same H H' → H b = none → H' b = some (.lst xs) → Nl K H' xs rs → Q (.ref b) H'
def AllB (n : Nat) (qs : List Rat) : Prop := ∀ q ∈ qs, Bq n q
def spTwoL (K : PySem.W.Frag) (op : Rat → Rat → Rat) : Sp := fun vs H Q _ => ∃ (x y : V) (qs rs : List Rat), vs = [x, y] ∧ Ls K H x qs ∧ Ls K H y rs ∧ qs.length = rs.length ∧ qs.length ≤ 100 ∧ AllB 4000 qs ∧ AllB 4000 rs ∧ GivesL K H Q (qs.zipWith op rs)
def spMulsL (K : PySem.W.Frag) : Sp := fun vs H Q _ => ∃ (x y : V) (qs : List Rat) (t : Rat), vs = [x, y] ∧ Ls K H x qs ∧ Nq K H y t ∧ qs.length ≤ 100 ∧ AllB 4000 qs ∧ Bq 4000 t ∧ GivesL K H Q (qs.map (· * t))
abbrev nSo : List Str := ["one", "other", "a", "c", "b", "d"]
abbrev nMo : List Str := ["numbers", "t", "number"]
section
variable {P : Program} {w : World} {K : PySem.W.Frag} {mg : Str → Option Value} {base : Heap} {f fL o0 : Addr} {fd fdL : FuncData}
theorem scSo : FnScope nSo ["one", "other"] (defScope F_sums_of) := ⟨rfl, rfl, rfl, by decide +kernel, rfl, by decide +kernel, by decide +kernel⟩
theorem scDo : FnScope nSo ["one", "other"] (defScope F_differences_of) := ⟨rfl, rfl, rfl, by decide +kernel, rfl, by decide +kernel, by decide +kernel⟩
theorem zip_get {op : Rat → Rat → Rat} {qs rs : List Rat} {i : Nat} {q : Rat} (h : (qs.zipWith op rs)[i]? = some q) : ∃ a b, qs[i]? = some a ∧ rs[i]? = some b ∧ q = op a b := by
  rw [List.getElem?_zipWith] at h
  cases e1 : qs[i]? with
  | none => simp [e1] at h
  | some a =>
    cases e2 : rs[i]? with
    | none => simp [e1, e2] at h
    | some b =>
      simp [e1, e2] at h
      exact ⟨a, b, rfl, rfl, h.symm⟩
theorem ok_sums (F : Fun K "sums_of" "sums_of" F_sums_of f fd) (mz : mg "zip" = none) (UR : Use P w K mg base CX0 1 "ratio" ["upper", "lower"] spLowQ []) : FnOk P w K mg base CX0 2 f fd ["one", "other"] (spTwoL K (· + ·)) := by
  refine F.ok scSo (fun vs H Q E h => ?_) (fun cdv A outer s H vs Q E hr h => ?_)
  · obtain ⟨x, y, qs, rs, rfl, _⟩ := h
    rfl
  obtain ⟨x, y, qs, rs, rfl, ⟨xa, xs, rfl, hx, nx⟩, ⟨ya, ys, rfl, hy, ny⟩, le, l1, bq, br, q⟩ := h
  refine ⟨_, pss_one (ps_ret (pe_lc (own := [("a", 2), ("c", 3), ("b", 4), ("d", 5)]) (g := gTup K 2 (gCons (gTup K 2 (gCons (gName 2) (gCons (gName 3) gNil))) (gCons (gTup K 2 (gCons (gName 4) (gCons (gName 5) gNil))) gNil))) (tt := tYes) rfl scSo.nd (pi_zip rfl mz (pa_cons (pv 0) (pa_cons (pv 1) pa_nil))) (blkOk_by (N := nSo) (sc := defScope F_sums_of) (by decide +kernel))
      (fun _ _ _ _ _ => pg_tup rfl (pgs_cons (pg_tup rfl (pgs_cons (pg_name (i := 2) scSo.nd rfl (Or.inl rfl)) (pgs_cons (pg_name (i := 3) scSo.nd rfl (Or.inl rfl)) pgs_nil))) (pgs_cons (pg_tup rfl (pgs_cons (pg_name (i := 4) scSo.nd rfl (Or.inl rfl)) (pgs_cons (pg_name (i := 5) scSo.nd rfl (Or.inl rfl)) pgs_nil))) pgs_nil))) (fun _ _ _ _ _ => pts_nil)
      (fun _ _ _ _ _ => pe_use UR hr rfl pass0 (pa_cons (pe_op op_add (pe_op op_mulW (pv 2) (pv 5)) (pe_op op_mulW (pv 4) (pv 3))) (pa_cons (pe_op op_mulW (pv 3) (pv 5)) pa_nil))))), ?_⟩
  refine ⟨_, rfl, _, rfl, xa, ya, xs, ys, rfl, SqL.of hx, SqL.of hy, fun D nD => ?_⟩
  have lx : xs.length = qs.length := nx.1
  have ly : ys.length = rs.length := ny.1
  refine lc_nums (K := K) (walk_zip (K := K) (a := xa) (b := ya) (xs := xs) (ys := ys) (n := xs.length) (by omega)) (qs.zipWith (· + ·) rs) (by rw [List.length_zipWith]; omega) nD (by omega) (fun H' s => ⟨SqL.of (s _ _ hx), SqL.of (s _ _ hy)⟩) ?_ (fun H' zs s h n => q D H' zs s nD h n)
  rintro i r x H2 H3 k hq s2 ⟨T, y, z, rfl, hT, rfl, hy2, hz2⟩ hk
  obtain ⟨a, b, ea, eb, rfl⟩ := zip_get hq
  have sT := new_same hT (.tup [y, z])
  obtain ⟨va, rfl, sa, _⟩ := ((nx.2 i y a hy2 ea).same (s2.trans sT)).sq
  obtain ⟨vb, rfl, sb, _⟩ := ((ny.2 i z b hz2 eb).same (s2.trans sT)).sq
  have ba := bq a (List.mem_of_getElem? ea)
  have bb := br b (List.mem_of_getElem? eb)
  refine ⟨T, _, rfl, SqT.of upd_same, rfl, _, _, rfl, va, _, rfl, sa, rfl, _, _, rfl, _, _, rfl, rfl, _, _, rfl, vb, _, rfl, sb, rfl, _, _, rfl, _, _, rfl, rfl, rfl, rfl, ?_⟩
  refine ⟨_, rfl, _, rfl, a.num, (b.den : Nat), rfl, rfl, wide_mul ba.1 bb.dn (by decide) (by decide) (by decide), _, rfl, _, rfl, b.num, (a.den : Nat), rfl, rfl, wide_mul bb.1 ba.dn (by decide) (by decide) (by decide), _, _, rfl, rfl, _, rfl, _, rfl, (a.den : Nat), (b.den : Nat), rfl, rfl, wide_mul ba.dn bb.dn (by decide) (by decide) (by decide), ?_⟩
  exact ⟨_, _, rfl, Int.mul_ne_zero (den_ne a) (den_ne b), Nat.lt_trans (log_bd (lt_mul ba.dn bb.dn) (by decide)) (by decide), fun t H4 s4 n4 h4 => hk _ _ (sT.trans s4) (.at (by rw [rat_add]; exact h4))⟩
theorem ok_differences (F : Fun K "differences_of" "differences_of" F_differences_of f fd) (mz : mg "zip" = none) (UR : Use P w K mg base CX0 1 "ratio" ["upper", "lower"] spLowQ []) : FnOk P w K mg base CX0 2 f fd ["one", "other"] (spTwoL K (· - ·)) := by
  refine F.ok scDo (fun vs H Q E h => ?_) (fun cdv A outer s H vs Q E hr h => ?_)
  · obtain ⟨x, y, qs, rs, rfl, _⟩ := h
    rfl
  obtain ⟨x, y, qs, rs, rfl, ⟨xa, xs, rfl, hx, nx⟩, ⟨ya, ys, rfl, hy, ny⟩, le, l1, bq, br, q⟩ := h
  refine ⟨_, pss_one (ps_ret (pe_lc (own := [("a", 2), ("c", 3), ("b", 4), ("d", 5)]) (g := gTup K 2 (gCons (gTup K 2 (gCons (gName 2) (gCons (gName 3) gNil))) (gCons (gTup K 2 (gCons (gName 4) (gCons (gName 5) gNil))) gNil))) (tt := tYes) rfl scDo.nd (pi_zip rfl mz (pa_cons (pv 0) (pa_cons (pv 1) pa_nil))) (blkOk_by (N := nSo) (sc := defScope F_differences_of) (by decide +kernel))
      (fun _ _ _ _ _ => pg_tup rfl (pgs_cons (pg_tup rfl (pgs_cons (pg_name (i := 2) scDo.nd rfl (Or.inl rfl)) (pgs_cons (pg_name (i := 3) scDo.nd rfl (Or.inl rfl)) pgs_nil))) (pgs_cons (pg_tup rfl (pgs_cons (pg_name (i := 4) scDo.nd rfl (Or.inl rfl)) (pgs_cons (pg_name (i := 5) scDo.nd rfl (Or.inl rfl)) pgs_nil))) pgs_nil))) (fun _ _ _ _ _ => pts_nil)
      (fun _ _ _ _ _ => pe_use UR hr rfl pass0 (pa_cons (pe_op op_sub (pe_op op_mulW (pv 2) (pv 5)) (pe_op op_mulW (pv 4) (pv 3))) (pa_cons (pe_op op_mulW (pv 3) (pv 5)) pa_nil))))), ?_⟩
  refine ⟨_, rfl, _, rfl, xa, ya, xs, ys, rfl, SqL.of hx, SqL.of hy, fun D nD => ?_⟩
  have lx : xs.length = qs.length := nx.1
  have ly : ys.length = rs.length := ny.1
  refine lc_nums (K := K) (walk_zip (K := K) (a := xa) (b := ya) (xs := xs) (ys := ys) (n := xs.length) (by omega)) (qs.zipWith (· - ·) rs) (by rw [List.length_zipWith]; omega) nD (by omega) (fun H' s => ⟨SqL.of (s _ _ hx), SqL.of (s _ _ hy)⟩) ?_ (fun H' zs s h n => q D H' zs s nD h n)
  rintro i r x H2 H3 k hq s2 ⟨T, y, z, rfl, hT, rfl, hy2, hz2⟩ hk
  obtain ⟨a, b, ea, eb, rfl⟩ := zip_get hq
  have sT := new_same hT (.tup [y, z])
  obtain ⟨va, rfl, sa, _⟩ := ((nx.2 i y a hy2 ea).same (s2.trans sT)).sq
  obtain ⟨vb, rfl, sb, _⟩ := ((ny.2 i z b hz2 eb).same (s2.trans sT)).sq
  have ba := bq a (List.mem_of_getElem? ea)
  have bb := br b (List.mem_of_getElem? eb)
  refine ⟨T, _, rfl, SqT.of upd_same, rfl, _, _, rfl, va, _, rfl, sa, rfl, _, _, rfl, _, _, rfl, rfl, _, _, rfl, vb, _, rfl, sb, rfl, _, _, rfl, _, _, rfl, rfl, rfl, rfl, ?_⟩
  refine ⟨_, rfl, _, rfl, a.num, (b.den : Nat), rfl, rfl, wide_mul ba.1 bb.dn (by decide) (by decide) (by decide), _, rfl, _, rfl, b.num, (a.den : Nat), rfl, rfl, wide_mul bb.1 ba.dn (by decide) (by decide) (by decide), _, _, rfl, rfl, _, rfl, _, rfl, (a.den : Nat), (b.den : Nat), rfl, rfl, wide_mul ba.dn bb.dn (by decide) (by decide) (by decide), ?_⟩
  exact ⟨_, _, rfl, Int.mul_ne_zero (den_ne a) (den_ne b), Nat.lt_trans (log_bd (lt_mul ba.dn bb.dn) (by decide)) (by decide), fun t H4 s4 n4 h4 => hk _ _ (sT.trans s4) (.at (by rw [rat_sub]; exact h4))⟩
end
end Kx
end
section
set_option maxHeartbeats 4000000
namespace Kx
open PySem PySem.Spec PyProof.Rows L2
def rLcm : List V → Hp → VK → Prop := fun vs H Q => ∃ a b : Nat, vs = [.int (a : Nat), .int (b : Nat)] ∧ a < 2 ^ 13400 ∧ b < 2 ^ 13400 ∧ 0 < a ∧ 0 < b ∧ Q (.int ((Nat.lcm a b : Nat) : Int)) H
theorem cr_lcm {X : Cx} : CallR X (.builtin "math.lcm") rLcm := by
  intro pins s σ H vs us Q I r h
  obtain ⟨a, b, rfl, ha, hb, a0, b0, q⟩ := h
  obtain ⟨t, u, rfl⟩ := Vals.int2 r
  have e : ((((Nat.lcm 1 ((a : Nat) : Int).natAbs).lcm ((b : Nat) : Int).natAbs : Nat) : Int)) = ((Nat.lcm a b : Nat) : Int) := by
    rw [Int.natAbs_natCast, Int.natAbs_natCast, Nat.lcm_one_left]
  have l1 : (max 1 ((a : Nat) : Int).natAbs).log2 ≤ 13400 := PySem.W.mg_log (by
    rw [Int.natAbs_natCast, Nat.max_eq_right a0]
    exact Nat.lt_of_lt_of_le ha (Nat.pow_le_pow_right (by decide) (by decide)))
  have l2 : (max ((a : Nat) : Int).natAbs ((b : Nat) : Int).natAbs).log2 ≤ 13400 := PySem.W.mg_log (by
    rw [Int.natAbs_natCast, Int.natAbs_natCast]
    exact Nat.lt_of_lt_of_le (Nat.max_lt.mpr ⟨ha, hb⟩) (Nat.pow_le_pow_right (by decide) (by decide)))
  have l3 : ((((Nat.lcm 1 ((a : Nat) : Int).natAbs).lcm ((b : Nat) : Int).natAbs : Nat) : Int)).natAbs.log2 < bitsLine := by
    rw [e, Int.natAbs_natCast]
    refine Nat.lt_of_le_of_lt (PySem.W.mg_log (k := 26800) ?_) (by decide)
    refine Nat.lt_of_le_of_lt (Nat.le_of_dvd (Nat.mul_pos a0 b0) (Nat.lcm_dvd_mul _ _)) ?_
    refine Nat.lt_of_lt_of_le (Nat.mul_lt_mul'' ha hb) ?_
    rw [← Nat.pow_add]
    exact Nat.pow_le_pow_right (by decide) (by decide)
  refine call_function_meets PySem.W.MGF.kind_lcm PySem.W.MGF.plain_lcm PySem.W.MGF.entry_lcm (PySem.W.MGF.args_lcm _ _) (PySem.W.mg_run_lcm a t b u (by omega) (by omega) l3).meets ?_
  exact ⟨.int _, H, I.tok _, ⟨_, by rw [e]⟩, q⟩
/-- the pair of the upper parts and the lower part -/
def spOol (K : PySem.W.Frag) : Sp := fun vs H Q _ => ∃ (x : V) (qs : List Rat), vs = [x] ∧ Ls K H x qs ∧ qs.length ≤ 40 ∧ AllB 300 qs ∧
  ∀ b p H', Same H H' → H b = none → H' b = some (.lst ((upL (lcmL 1 qs) qs).map V.int)) → H' p = some (.tup [.ref b, .int (lcmL 1 qs : Nat)]) → Q (.ref p) H'
abbrev nOl : List Str := ["numbers", "lower", "_", "below", "above"]
section
variable {P : Program} {w : World} {K : PySem.W.Frag} {mg : Str → Option Value} {base : Heap} {f fL o0 : Addr} {fd fdL : FuncData}
theorem scOl : FnScope nOl ["numbers"] (defScope F_over_one_lower) := ⟨rfl, rfl, rfl, by decide +kernel, rfl, by decide +kernel, by decide +kernel⟩
theorem ok_ool (F : Fun K "over_one_lower" "over_one_lower" F_over_one_lower f fd) (mLc : mg "lcm" = some (.builtin "math.lcm")) : FnOk P w K mg base CX0 1 f fd ["numbers"] (spOol K) := by
  refine F.ok scOl (fun vs H Q E h => ?_) (fun cdv A outer s H vs Q E hr h => ?_)
  · obtain ⟨x, qs, rfl, _⟩ := h
    rfl
  obtain ⟨x, qs, rfl, ⟨xa, xs, rfl, hx, nx⟩, l1, bq, q⟩ := h
  refine ⟨_, pss_cons (ps_set (i := 1) scOl.nd rfl (Or.inr rfl) pe_int)
    (pss_cons (ps_for PassesOwn.never rfl (pi_list (pv 0)) (pg_tup rfl (pgs_cons (pg_name (i := 2) scOl.nd rfl (Or.inl rfl)) (pgs_cons (pg_name (i := 3) scOl.nd rfl (Or.inl rfl)) pgs_nil)))
      (pss_one (ps_set (i := 1) scOl.nd rfl (Or.inr rfl) (pe_callBfun cr_lcm rfl mLc (pa_cons (pv 1) (pa_cons (pv 3) pa_nil))))))
    (pss_one (ps_ret (pe_tup (pa_cons (pe_lc (own := [("above", 4), ("below", 3)]) (g := gTup K 2 (gCons (gName 4) (gCons (gName 3) gNil))) (tt := tYes) rfl scOl.nd (pi_list (pv 0)) (blkOk_by (N := nOl) (sc := defScope F_over_one_lower) (by decide +kernel))
      (fun _ _ _ _ _ => pg_tup rfl (pgs_cons (pg_name (i := 4) scOl.nd rfl (Or.inl rfl)) (pgs_cons (pg_name (i := 3) scOl.nd rfl (Or.inl rfl)) pgs_nil))) (fun _ _ _ _ _ => pts_nil)
      (fun _ _ _ _ _ => pe_op op_mulW (pv 4) (pe_op op_fdivA (pv 1) (pv 3)))) (pa_cons (pv 1) pa_nil)))))), ?_⟩
  have lx : xs.length = qs.length := nx.1
  refine ⟨_, rfl, xa, rfl, ⟨_, SqL.of hx⟩, for_list (K := K) (a := xa) (xs := xs) (fun i σ H' => H' = H ∧ ∃ v2 v3, σ = [some (.ref xa), some (.int (lcmL 1 (qs.take i) : Nat)), v2, v3, none]) ⟨rfl, none, none, rfl⟩ (fun i σ H' _ h => by rw [h.1]; exact SqL.of hx) ?_ ?_⟩
  · rintro i x σ H' hi ⟨rfl, v2, v3, rfl⟩
    obtain ⟨a, ea, na⟩ := nx.get hi
    obtain ⟨va, rfl, sa, _⟩ := na.sq
    have hi40 : i < 40 := by
      rcases Nat.lt_or_ge i xs.length with c | c
      · omega
      · rw [List.getElem?_eq_none c] at hi; cases hi
    have zb := lcmL_bd (n := 300) (qs.take i) 1 1 (by decide) (by decide) (fun r hr => bq r (List.mem_of_mem_take hr))
    have lt : (qs.take i).length ≤ i := by rw [List.length_take]; omega
    refine ⟨va, _, rfl, sa, rfl, _, _, rfl, _, _, rfl, rfl, _, rfl, _, rfl, lcmL 1 (qs.take i), a.den, rfl, Nat.lt_of_lt_of_le zb (Nat.pow_le_pow_right (by decide) (by omega)), Nat.lt_of_lt_of_le (bq a (List.mem_of_getElem? ea)).2 (Nat.pow_le_pow_right (by decide) (by decide)), lcmL_pos _ 1 (by decide), Nat.pos_of_ne_zero a.den_nz, rfl, some (.int a.num), some (.int (a.den : Nat)), ?_⟩
    rw [List.take_add_one, ea, lcmL_app]
    rfl
  · rintro σ H' ⟨rfl, v2, v3, rfl⟩
    rw [lx, List.take_length]
    refine ⟨_, rfl, xa, rfl, ⟨_, SqL.of hx⟩, fun D nD => ?_⟩
    have e0 := lcmL_pos qs 1 (by decide)
    have dv := (lcmL_dvd qs 1).2
    refine lc_acc (walk_list (K := K) (a := xa) (xs := xs)) (fun i _ y => ∀ a, qs[i]? = some a → y = .int (a.num * ((lcmL 1 qs : Nat) / (a.den : Nat)))) (fun i H H' y l h _ _ => h) nD (by omega) (fun H2 s => SqL.of (s _ _ hx)) ?_ ?_
    · rintro i x H2 H3 k hi s2 ⟨rfl, hx2⟩ hk
      obtain ⟨a, ea, na⟩ := nx.get hx2
      obtain ⟨va, rfl, sa, _⟩ := (na.same s2).sq
      have ba := bq a (List.mem_of_getElem? ea)
      have z := lcmL_bd (n := 300) qs 1 1 (by decide) (by decide) bq
      have cd : ((lcmL 1 qs : Nat) : Int) / ((a.den : Nat) : Int) = ((lcmL 1 qs / a.den : Nat) : Int) := rfl
      refine ⟨va, _, rfl, sa, rfl, _, _, rfl, _, _, rfl, rfl, rfl, _, rfl, _, rfl, _, rfl, _, _, rfl, rfl, ⟨den_ne a, Nat.lt_trans (log_bd ba.dn (by decide)) (by decide)⟩, _, _, rfl, rfl, ?_, hk _ _ (Same.refl _) fun a' ha' => ?_⟩
      · rw [Int.fdiv_eq_ediv_of_nonneg _ (by omega), cd]
        refine wide_mul ba.1 (b := 1 + 300 * qs.length) ?_ (by decide) (by omega) (by omega)
        rw [Int.natAbs_natCast]
        exact Nat.lt_of_le_of_lt (Nat.div_le_self _ _) z
      · rw [ea] at ha'
        rw [← Option.some.inj ha', Int.fdiv_eq_ediv_of_nonneg _ (by omega)]
    · intro H2 zs s2 hD hl hR
      have ez : zs = (upL (lcmL 1 qs) qs).map V.int := by
        apply List.ext_getElem?
        intro i
        unfold upL
        rw [List.map_map, List.getElem?_map]
        by_cases c : i < qs.length
        · rw [List.getElem?_eq_getElem c]
          have e := List.getElem?_eq_getElem (l := zs) (i := i) (by omega)
          rw [e]
          have := hR i _ e _ (List.getElem?_eq_getElem c)
          rw [this]
          rfl
        · rw [List.getElem?_eq_none (by omega), List.getElem?_eq_none (by omega)]
          rfl
      refine ⟨_, rfl, (by show 2 ≤ sizeLine; decide), fun p np => q D p _ (s2.trans (new_same np _)) nD (new_same np _ _ _ (by rw [hD, ez])) upd_same⟩
end
end Kx
end
section
set_option maxHeartbeats 4000000
namespace Kx
open PySem PySem.Spec PyProof.Rows L2
theorem ixl_at {X : Cx} (K : PySem.W.Frag) (h : X.K = K) : IxR X (rIxL K) := by
  subst h
  exact ix_list
theorem ixt_at {X : Cx} (K : PySem.W.Frag) (h : X.K = K) : IxR X (rIxT K) := by
  subst h
  exact ix_tup
/-- the product of two lists -/
def spMulL (K : PySem.W.Frag) : Sp := fun vs H Q _ => ∃ (x y : V) (qs rs : List Rat), vs = [x, y] ∧ Ls K H x qs ∧ Ls K H y rs ∧ qs.length = rs.length ∧ qs.length ≤ 30 ∧ AllB 140 qs ∧ AllB 140 rs ∧ GivesL K H Q (mulL qs rs)
abbrev nMl : List Str := ["one", "other", "ones", "one_lower", "others", "other_lower", "found", "place", "upper", "at"]
theorem upL_len (L : Nat) (qs : List Rat) : (upL L qs).length = qs.length := List.length_map _
theorem upL_at {L : Nat} {qs : List Rat} {i : Nat} (h : i < qs.length) : ((upL L qs).map V.int)[i]? = some (.int ((upL L qs).getD i 0)) := by
  rw [List.getElem?_map, List.getElem?_eq_getElem (by rw [upL_len]; exact h), List.getD_eq_getElem?_getD, List.getElem?_eq_getElem (by rw [upL_len]; exact h)]
  rfl
theorem upL_bd {n m : Nat} {L : Nat} {qs : List Rat} (h : AllB n qs) (hL : L < 2 ^ m) (i : Nat) : ((upL L qs).getD i 0).natAbs < 2 ^ (n + m) := by
  unfold upL
  rw [List.getD_eq_getElem?_getD, List.getElem?_map]
  cases e : qs[i]? with
  | none => exact Nat.pow_pos (by decide)
  | some q =>
    refine lt_mul (h q (List.mem_of_getElem? e)).1 ?_
    have : ((L : Nat) : Int) / ((q.den : Nat) : Int) = ((L / q.den : Nat) : Int) := rfl
    rw [this, Int.natAbs_natCast]
    exact Nat.lt_of_le_of_lt (Nat.div_le_self _ _) hL
section
variable {P : Program} {w : World} {K : PySem.W.Frag} {mg : Str → Option Value} {base : Heap} {f fL o0 : Addr} {fd fdL : FuncData}
theorem scMl : FnScope nMl ["one", "other"] (defScope F_multiplied) := ⟨rfl, rfl, rfl, by decide +kernel, rfl, by decide +kernel, by decide +kernel⟩
theorem ok_multiplied (F : Fun K "multiplied" "multiplied" F_multiplied f fd) (mn : mg "len" = none) (mr : mg "range" = none) (ms : mg "sum" = none) (UO : Use P w K mg base CX0 1 "over_one_lower" ["numbers"] (spOol K) []) (UR : Use P w K mg base CX0 1 "ratio" ["upper", "lower"] spLowQ []) : FnOk P w K mg base CX0 2 f fd ["one", "other"] (spMulL K) := by
  refine F.ok scMl (fun vs H Q E h => ?_) (fun cdv A outer s H vs Q E hr h => ?_)
  · obtain ⟨x, y, qs, rs, rfl, _⟩ := h
    rfl
  obtain ⟨x, y, qs, rs, rfl, lx, ly, le, l1, bq, br, q⟩ := h
  refine ⟨_, pss_cons (ps_asg (pe_use UO hr rfl pass0 (pa_cons (pv 0) pa_nil)) (pg_tup rfl (pgs_cons (pg_name (i := 2) scMl.nd rfl (Or.inr rfl)) (pgs_cons (pg_name (i := 3) scMl.nd rfl (Or.inl rfl)) pgs_nil))))
    (pss_cons (ps_asg (pe_use UO hr rfl pass0 (pa_cons (pv 1) pa_nil)) (pg_tup rfl (pgs_cons (pg_name (i := 4) scMl.nd rfl (Or.inr rfl)) (pgs_cons (pg_name (i := 5) scMl.nd rfl (Or.inl rfl)) pgs_nil))))
    (pss_cons (ps_set (i := 6) scMl.nd rfl (Or.inl rfl) (pe_lst pa_nil))
    (pss_cons (ps_for PassesOwn.never rfl (pi_range1 rfl mr (pa_cons (pe_callB call_len_seq rfl mn PySem.boot_len (pa_cons (pv 0) pa_nil)) pa_nil)) (pg_name (i := 7) scMl.nd rfl (Or.inr rfl))
      (pss_cons (ps_set (i := 8) scMl.nd rfl (Or.inl rfl) (pe_callB (cr_sum rfl) rfl ms (by decide +kernel) (pa_cons (pe_lc (own := [("at", 9)]) (g := gName 9) (tt := tYes) rfl scMl.nd (pi_range1 rfl mr (pa_cons (pe_op op_add (pv 7) pe_int) pa_nil)) (blkOk_by (N := nMl) (sc := defScope F_multiplied) (by decide +kernel))
          (fun _ _ _ _ _ => pg_name (i := 9) scMl.nd rfl (Or.inl rfl)) (fun _ _ _ _ _ => pts_nil)
          (fun _ _ _ _ _ => pe_op op_mulW (pe_ix (ixl_at K rfl) (pv 2) (pv 9) (fun _ _ => rfl)) (pe_ix (ixl_at K rfl) (pv 4) (pe_op op_sub (pv 7) (pv 9)) (fun _ _ => rfl)))) pa_nil)))
      (pss_one (ps_expr (pe_bm PySem.F.plainAttrs_list PySem.F.slot_list_append PySem.F.type_list_append mt_append (pv 6) (pa_cons (pe_use UR hr rfl pass0 (pa_cons (pv 8) (pa_cons (pe_op op_mulW (pv 3) (pv 5)) pa_nil))) pa_nil))))))
    (pss_one (ps_ret (pv 6)))))), ?_⟩
  refine ⟨_, rfl, x, qs, rfl, lx, by omega, fun p hp => (bq p hp).mono (by decide), fun b1 p1 H1 s1 n1 e1 t1 => ?_⟩
  refine ⟨p1, _, rfl, SqT.of t1, rfl, _, _, rfl, _, _, rfl, rfl, ?_⟩
  refine ⟨_, rfl, y, rs, rfl, ly.same s1, by omega, fun p hp => (br p hp).mono (by decide), fun b2 p2 H2 s2 n2 e2 t2 => ?_⟩
  refine ⟨p2, _, rfl, SqT.of t2, rfl, _, _, rfl, _, _, rfl, rfl, ?_⟩
  have lx2 := (lx.same s1).same s2
  obtain ⟨xa, xs, rfl, hx, nx⟩ := lx2
  have hl : xs.length = qs.length := nx.1
  have f1 := s2 _ _ e1
  have s12 := s1.trans s2
  clear s1 s2 t1 t2 e1 n1 n2 lx ly nx
  refine ⟨(by show 0 ≤ sizeLine; decide), fun fb nf => ?_⟩
  have sf := new_same nf (HO.lst [])
  have Lp := lcmL_pos qs 1 (by decide)
  have Mp := lcmL_pos rs 1 (by decide)
  have Lb : lcmL 1 qs < 2 ^ 4201 := Nat.lt_of_lt_of_le (lcmL_bd qs 1 1 (by decide) (by decide) bq) (Nat.pow_le_pow_right (by decide) (by omega))
  have Mb : lcmL 1 rs < 2 ^ 4201 := Nat.lt_of_lt_of_le (lcmL_bd rs 1 1 (by decide) (by decide) br) (Nat.pow_le_pow_right (by decide) (by omega))
  have dL := (lcmL_dvd qs 1).2
  have dM := (lcmL_dvd rs 1).2
  generalize lcmL 1 qs = L at *
  generalize lcmL 1 rs = M at *
  refine ⟨_, rfl, xa, xs, rfl, .inl (SqL.of (sf _ _ hx)), ?_⟩
  refine ⟨_, rfl, by omega, by omega, for_range (lo := 0) (n := (((xs.length : Nat) : Int)).toNat) (fun i σ H' => Same H2 H' ∧ (∃ v7 v8, σ = [some (.ref xa), some y, some (.ref b1), some (.int (L : Nat)), some (.ref b2), some (.int (M : Nat)), some (.ref fb), v7, v8, none]) ∧ ∃ zs, H' fb = some (.lst zs) ∧ Nl K H' zs ((List.range i).map (cnv qs rs))) ⟨sf, ⟨none, none, rfl⟩, [], upd_same, Nl.nil⟩ ?_ ?_⟩
  · rintro i σ H3 hi ⟨s3, ⟨v7, v8, rfl⟩, zs, hz, nz⟩
    rw [Int.toNat_natCast] at hi
    have g1 := s3 _ _ f1
    have g2 := s3 _ _ e2
    have zl : zs.length = i := by rw [nz.1, List.length_map, List.length_range]
    refine ⟨_, rfl, (0 + (i : Int)), 1, rfl, rfl, _, rfl, by omega, by omega, fun D nD => ?_⟩
    refine lc_acc (walk_range (lo := 0) (n := (0 + (i : Int) + 1).toNat)) (fun j _ v => v = .int ((upL L qs).getD j 0 * (upL M rs).getD (i - j) 0)) (fun j H H' v l h _ _ => h) nD (by omega) (fun _ _ => trivial) ?_ ?_
    · rintro j v H4 H5 k hj s4 ⟨rfl, rfl⟩ hk
      have hj' : j < i + 1 := by omega
      refine ⟨rfl, _, rfl, _, rfl, b1, _, (0 + (j : Int)), _, rfl, rfl, SqL.of (s4 _ _ g1), at_of (j := j) (by omega) (upL_at (by omega)), _, rfl, _, rfl, _, rfl, (0 + (i : Int)), (0 + (j : Int)), rfl, rfl, b2, _, _, _, rfl, rfl, SqL.of (s4 _ _ g2), at_of (j := i - j) (by omega) (upL_at (by omega)), _, _, rfl, rfl, ?_, hk _ _ (Same.refl _) rfl⟩
      exact wide_mul (upL_bd bq Lb j) (upL_bd br Mb (i - j)) (by decide) (by decide) (by decide)
    · intro H4 ys s4 hD hyl hR
      have ey : ys = (pds (upL L qs) (upL M rs) i (i + 1)).map V.int := by
        apply List.ext_getElem?
        intro j
        unfold pds
        rw [List.map_map, List.getElem?_map]
        by_cases c : j < i + 1
        · rw [List.getElem?_range c]
          have e := List.getElem?_eq_getElem (l := ys) (i := j) (by omega)
          rw [e, hR j _ e]
          rfl
        · rw [List.getElem?_eq_none (by omega), List.getElem?_eq_none (by rw [List.length_range]; omega)]
          rfl
      refine ⟨D, _, rfl, SqL.of (by rw [hD, ey]), ?_⟩
      refine ⟨_, rfl, .inl ⟨rfl, _, SqL.of (s4 _ _ hz)⟩, _, rfl, _, rfl, _, rfl, (L : Nat), (M : Nat), rfl, rfl, ?_, ?_⟩
      · exact wide_mul (a := 4201) (b := 4201) (by rw [Int.natAbs_natCast]; exact Lb) (by rw [Int.natAbs_natCast]; exact Mb) (by decide) (by decide) (by decide)
      · refine ⟨_, _, rfl, Int.mul_ne_zero (by omega) (by omega), Nat.lt_trans (log_bd (lt_mul (a := 4201) (b := 4201) (by rw [Int.natAbs_natCast]; exact Lb) (by rw [Int.natAbs_natCast]; exact Mb)) (by decide)) (by decide), fun t H5 s5 n5 e5 => ?_⟩
        rw [cnv_ratio dL dM Lp Mp] at e5
        have hz5 := s5 _ _ (s4 _ _ hz)
        refine ⟨fb, zs, _, rfl, rfl, hz5, small1000 (by omega), ?_, ⟨_, _, rfl⟩, zs ++ [.ref t], upd_same, ?_⟩
        · intro b o hb
          have nb : b ≠ fb := fun z => by rw [z, nf] at hb; cases hb
          rw [upd_ne nb]
          exact s5 _ _ (s4 _ _ (s3 _ _ hb))
        · have nz5 := (nz.same s4).same s5
          have nb : Nl K H5 (zs ++ [.ref t]) ((List.range (i + 1)).map (cnv qs rs)) := by
            rw [List.range_succ, List.map_append]
            exact nz5.snoc (.at e5)
          exact ⟨nb.1, fun j x r h1 h2 => (nb.2 j x r h1 h2).butL hz5 (fun b o n h => by rw [upd_ne n]; exact h)⟩
  · rintro σ H3 ⟨s3, ⟨v7, v8, rfl⟩, zs, hz, nz⟩
    rw [Int.toNat_natCast, hl] at nz
    exact ⟨_, rfl, q fb H3 zs (s12.trans s3) (s12.free nf) hz nz⟩
end
end Kx
end
section
set_option maxHeartbeats 4000000
namespace PySem
namespace Xv
open PySem.W PySem.Calls PyProof.Rows PySem.HandSPX
section
variable {prog : Program} {w : World} {A : Around} {E : Value → Shared → Prop} {R : Result → Shared → Prop} {h : Heap} {g : Array GenState} {d : Drawn} {t : Nat} {os : OsState}
variable {nm q : Str} {C N : Addr} {bs bm mb : List Value} {hdct : Bool} {sn : List Str} {sub : List Value} {ab : Bool} {col : Option Bool} {dd : Option Addr} {k0 k1 k2 k3 k5 : Option Value} {B newId initId : String}
variable {kw : List (Str × Value)} {rest : List Value}

theorem chkNew {M : Model} (F : ExcBaseFacts B newId initId mb) (hT : ∀ Z : String, bm.contains (.type Z) = mb.contains (.type Z)) {Q : Unit → Shared → Prop}
    (hC : h.get? C = some (excClassObj nm q C N bs bm hdct sn sub ab col dd k0 k1 k2 k3 k5 newId)) (z : Q () ⟨h, g, d, t, os⟩) :
    wpAny M A (checkBuiltinCall newId ⟨.ref C :: rest, kw⟩) Q E ⟨h, g, d, t, os⟩ := by
  have h1 : (Value.ref C :: bm).contains (.type B) = true := by rw [List.contains_cons, hT, F.hasB]; simp
  have h2 := F.noStar
  simp only [checkBuiltinCall, F.newKind, F.newSplit, F.newRow]
  repeat (first | refine wpAny_loadPart_at hC ?_ | (refine wpAny_isSubtype_exc hC ?_; rw [h1]) | refine wpAny_staticBase_exc hC ?_ | refine wpAny_madeBy_exc hC ?_ | simp only [bne_self_eq_false, Bool.false_eq_true, if_false] | wp_step)
  exact z
theorem newAt (F : ExcBaseFacts B newId initId mb) (hT : ∀ Z : String, bm.contains (.type Z) = mb.contains (.type Z))
    (hC : h.get? C = some (excClassObj nm q C N bs bm hdct sn sub ab col dd k0 k1 k2 k3 k5 newId)) (hl : rest.length ≤ sizeLine)
    (z : R (.ok (.ret (.ref (h.objs.size + 1)))) ⟨(h.push (W.kdv_tup rest)).push (excO C h.objs.size), g, d, t, os⟩) :
    codeAny (model prog w) A (.builtin newId ⟨.ref C :: rest, kw⟩) R ⟨h, g, d, t, os⟩ := by
  have e0 := F.ends
  have e1 : (Value.ref C :: bm).contains (.type B) = true := by rw [List.contains_cons, hT, F.hasB]; simp
  have e2 : (Value.ref C :: bm).contains (.type "AttributeError") = false := by rw [List.contains_cons, hT, F.noAttr]; exact rfl
  have e3 : (Value.ref C :: bm).contains (.type "NameError") = false := by rw [List.contains_cons, hT, F.noName]; exact rfl
  refine codeAny_builtinAt F.entry ?_
  unfold Builtin.«BaseException.__new__»
  refine wpAt_bind ?_
  show wpAt _ _ _ (stack >>= _) _ _ _
  refine wpAt_bind (wpAt_stack fun p below => wpAt_of_wpAny ?_)
  wp_walk
  refine wpAt_of_wpAny ?_
  rw [F.owner]
  repeat (first | (with_reducible refine wpAny_isSubtype_exc hC ?_; first | rw [e1] | rw [e2] | rw [e3]) | with_reducible refine wpAny_madeHere_exc F.canon hC ?_ | with_reducible refine wpAny_loadPart_at hC ?_ | wp_step)
  show R _ _
  rw [Heap.size_push]
  exact z
theorem callAt (F : ExcBaseFacts B newId initId mb) (hT : ∀ Z : String, bm.contains (.type Z) = mb.contains (.type Z)) {fI : Addr} {Q : Fin → Shared → Prop}
    (hC : h.get? C = some (excClassObj nm q C N bs bm hdct sn sub ab col dd k0 k1 k2 k3 k5 newId))
    (hi : W.Looks (model prog w) h (typeLookup (.ref C) "__init__") (some (.ref fI))) (hb : ∀ self, W.Looks (model prog w) h (bindSpecial (.ref fI) self) (.ref fI, [self])) (hl : rest.length ≤ sizeLine)
    (z : codeAny (model prog w) A (.call (.ref fI) ⟨.ref (h.objs.size + 1) :: rest, kw⟩)
      (fun r s' => match r with | .ok (.ret v) => v = .none ∧ Q (.done (.ret (.ref (h.objs.size + 1)))) s' | .ok _ => False | .error e => E e s')
      ⟨(h.push (W.kdv_tup rest)).push (excO C h.objs.size), g, d, t, os⟩) :
    wpAny (model prog w) A (Builtin.«type.__call__» ⟨.ref C :: rest, kw⟩) Q E ⟨h, g, d, t, os⟩ := by
  repeat (first | with_reducible refine wpAny_madeBy_exc hC ?_ | with_reducible refine wpAny_loadPart_at hC ?_ | wp_step)
  refine codeAny_call_builtin_code (Code.quiet_builtin _ F.quiet) (chkNew F hT hC (newAt F hT hC hl ?_))
  show wpAny _ _ _ _ _ _
  have k : ∀ b o, h.get? b = some o → ((h.push (W.kdv_tup rest)).push (excO C h.objs.size)).get? b = some o := fun b o y => Heap.get?_push_of_some _ (Heap.get?_push_of_some _ y)
  have hC' := k _ _ hC
  have hg : ((h.push (W.kdv_tup rest)).push (excO C h.objs.size)).get? (h.objs.size + 1) = some (excO C h.objs.size) := by heap_get
  have cc : (Value.ref C :: bm).contains (.ref C) = true := by simp
  have i1 := hi.keeps k
  have b1 := (hb (.ref (h.objs.size + 1))).keeps k
  unfold isInstance
  repeat (first | (with_reducible refine wpAny_isSubtype_exc hC' ?_; rw [cc]) | with_reducible refine wpAny_loadPart_at hg ?_ | wp_step)
  show wpAny _ _ (typeLookup (.ref C) _) _ _ _
  refine i1.at (wpAny_holding (wpAny_bind (b1.at ?_)))
  refine wpAny_bind (wpAny_call (codeAny_mono z fun r s' y => ?_))
  rcases r with e | (v | _ | _ | _) <;> first | exact y | exact y.elim | skip
  obtain ⟨rfl, y⟩ := y
  first
    | exact wpAny_pure (wpAny_pure y)
    | (wp_walk; exact y)
theorem chkCall {M : Model} {Q : Unit → Shared → Prop} (hC : h.get? C = some (excClassObj nm q C N bs bm hdct sn sub ab col dd k0 k1 k2 k3 k5 newId))
    (z : Q () ⟨h, g, d, t, os⟩) : wpAny M A (checkBuiltinCall "type.__call__" ⟨.ref C :: rest, kw⟩) Q E ⟨h, g, d, t, os⟩ := by
  have f3 := tc_sub
  have hty : (⟨h, g, d, t, os⟩ : Shared).TypeIs (.ref C) "type" := ⟨_, hC, rfl⟩
  simp only [checkBuiltinCall, tc_kind, tc_split]
  repeat (any_goals (first | assumption | with_reducible refine wpAny_onRaise ?_ | with_reducible refine wpAny_loadPart_at hC ?_ | with_reducible refine wpAny_map ?_ | wp_step))
/-- an own exception class with its own __init__ is called, with keywords or without -/
theorem callK (F : ExcBaseFacts B newId initId mb) (hT : ∀ Z : String, bm.contains (.type Z) = mb.contains (.type Z)) {fI : Addr}
    (hC : h.get? C = some (excClassObj nm q C N bs bm hdct sn sub ab col dd k0 k1 k2 k3 k5 newId))
    (hi : W.Looks (model prog w) h (typeLookup (.ref C) "__init__") (some (.ref fI))) (hb : ∀ self, W.Looks (model prog w) h (bindSpecial (.ref fI) self) (.ref fI, [self])) (hl : rest.length ≤ sizeLine)
    (z : codeAny (model prog w) (A.under (.builtin "type.__call__" ⟨.ref C :: rest, kw⟩)) (.call (.ref fI) ⟨.ref (h.objs.size + 1) :: rest, kw⟩) (W.InitBack (h.objs.size + 1) R)
      ⟨(h.push (W.kdv_tup rest)).push (excO C h.objs.size), g, d, t, os⟩) :
    codeAny (model prog w) A (.call (.ref C) ⟨rest, kw⟩) R ⟨h, g, d, t, os⟩ := by
  have f1 := tc_lookup
  have f2 := tc_bind (.ref C)
  have hty : (⟨h, g, d, t, os⟩ : Shared).TypeIs (.ref C) "type" := ⟨_, hC, rfl⟩
  refine codeAny_of_tree ?_
  show wpAny _ _ (callAny (.ref C) _) _ _ _
  repeat (any_goals (first | assumption | with_reducible refine wpAny_loadPart_at hC ?_ | wp_step))
  refine ⟨rfl, ?_⟩
  refine codeAny_call_builtin_at (Code.quiet_builtin _ (by decide +kernel)) entry_typeCall (chkCall hC (callAt F hT hC hi hb hl ?_))
  refine codeAny_mono z fun r s' y => ?_
  rcases r with e | (v | _ | _ | _) <;> exact y
end
end Xv
end PySem
end
section
set_option maxHeartbeats 4000000
namespace L2
open PySem PySem.Spec PyProof.Rows Builtin.ObjectAttr
/-- what the written part says of an own exception class at C, so that its objects may be made, filled, read and asked -/
structure XC (K : PySem.W.Frag) (C : Addr) : Prop where
  base : ∃ B newId initId mb, ExcBaseFacts B newId initId mb ∧ StoreFacts B mb "object.__setattr__" "object" ∧ PySem.W.excInitIn K C mb newId = true ∧ PySem.W.excOver K C mb = true
  cl : (PySem.W.clsIn K C).isSome = true
  hd : PySem.W.hasDictIn K C = true
  sa : PySem.W.findIn K (.ref C) "__setattr__" = some (some (.builtin "object.__setattr__"))
  ga : PySem.W.findIn K (.ref C) "__getattribute__" = some (some (.builtin "BaseException.__getattribute__"))
  gg : PySem.W.findIn K (.ref C) "__getattr__" = some none
  ex : PySem.W.subIn K (.ref C) (.type "BaseException") = some true
  ha : PySem.W.findIn K (.ref C) "__class__" = some (some (.builtin "object.__class__"))
  hn : PySem.W.specialIn K (.builtin "object.__class__") "__get__" = some (some (.builtin "getset_descriptor.__get__"))
  ht : PySem.W.takesIn K (.builtin "object.__class__") = some true
  hm : PySem.W.mroIn K C (.type "object") = some true
  kC : PySem.W.keepIn K (.ref C) = true
def free3 (H H' : Hp) (a d : Addr) : Prop := ∀ b, b ≠ a → b ≠ d → H' b = H b
section
variable {X : Cx} {pins : List (Addr × Obj)} {σ : St} {H : Hp} {s : Shared} {a C dx : Addr} {f : Str} {y : V} {u : Value} {fs : List (Str × V)} {Q : Unit → Shared → Prop} {E : Value → Shared → Prop} {A : Around}
theorem taker_none {K : PySem.W.Frag} (h : PySem.W.findIn K (.ref C) f = some none) : PySem.W.takerIn K C f = some none := by
  unfold PySem.W.takerIn
  rw [h]
  rfl
theorem xst_new (T : XC X.K C) (I : Inv X pins σ H s) (e : H a = some (exo a C none)) (hno : PySem.W.findIn X.K (.ref C) f = some none) (ry : RelV y u)
    (h : ∀ d s' H', d ≠ a → H d = none → H' a = some (exo a C (some d)) → H' d = some (exd d [(f, y)]) → free3 H H' a d → Inv X pins σ H' s' → Q () s') : wpAny (model X.prog X.w) A (setAttr (.ref a) f u) Q E s := by
  obtain ⟨B, nid, iid, mb, FB, SF, q1, q2⟩ := T.base
  obtain ⟨t1, ho⟩ := exo_at I.hok e
  obtain ⟨cd, hc, hd'⟩ := PySem.W.any_some T.hd
  obtain ⟨hp, g, dr, t, os⟩ := s
  refine PySem.W.set_plain I.kIn (od := none) ⟨ho, rfl, rfl, trivial⟩ T.sa (PySem.W.osa_openX (od := none) SF I.kIn ⟨ho, rfl, rfl, trivial⟩ q2 (taker_none hno) fun b => ?_)
  have na : a ≠ hp.objs.size := Nat.ne_of_lt (Heap.lt_size ho)
  refine wpAny_bind (wpAny_pure (wpAny_bind (PySem.W.instanceDict_exc (c2 := .none) (t := t1) ho (PySem.W.looks_clsIn I.kIn hc) hd' ?_)))
  have hfr : H hp.objs.size = none := I.hok.fresh (Nat.le_refl _)
  have hget : (hp.push (PySem.W.dictOf [] 0)).get? hp.objs.size = some (PySem.W.dictOf [] 0) := Heap.get?_push_size _ rfl
  have en : (hp.push (PySem.W.dictOf [] 0)).Ns1 hp.objs.size (fun _ => none) := Heap.Ns1.of_empty ⟨_, #[], _, hget, rfl, fun e he => absurd he (by simp), fun _ => rfl⟩
  have I1 : Inv X pins σ (upd H hp.objs.size (exd hp.objs.size [])) ⟨hp.push (PySem.W.dictOf [] 0), g, dr, t, os⟩ := I.laid (a := hp.objs.size) (o := exd hp.objs.size []) (h' := hp.push (PySem.W.dictOf [] 0)) (t' := t) (fun b o z => Heap.get?_push_of_some _ z) (Nat.le_refl _) (exd_ok en fun _ => True.intro)
  have hxa : ((hp.push (PySem.W.dictOf [] 0)).update a fun o => { o with dict := some hp.objs.size }).get? a = some ({ cls := .ref C, dict := some hp.objs.size, data := .fields #[.ref t1, .none, .none, .none, .bool false, .none] } : Obj) :=
    Heap.get?_update_self _ (Heap.get?_push_of_some _ ho) rfl
  have I2 : Inv X pins σ (upd (upd H hp.objs.size (exd hp.objs.size [])) a (exo a C (some hp.objs.size))) ⟨(hp.push (PySem.W.dictOf [] 0)).update a fun o => { o with dict := some hp.objs.size }, g, dr, t, os⟩ :=
    I1.write (x := a) (e := a) (o := exo a C (some hp.objs.size)) (t' := t) (h' := (hp.push (PySem.W.dictOf [] 0)).update a fun o => { o with dict := some hp.objs.size }) (by rw [upd_ne na, e]; exact True.intro) (.inl rfl)
      (fun b o hb z => (Heap.get?_update_ne _ _ _ _ hb).trans z) ⟨_, hxa⟩ (exo_ok hxa)
  have ed : (upd (upd H hp.objs.size (exd hp.objs.size [])) a (exo a C (some hp.objs.size))) hp.objs.size = some (exd hp.objs.size []) := by rw [upd_ne (Ne.symm na), upd_same]
  obtain ⟨mA, hns, rel⟩ := exd_at I2.hok ed
  show wpAny _ _ (storeInDict hp.objs.size (.str f _) f u) _ _ _
  refine PySem.OEX.store_in_old hns (within_of rel) (by simp) fun h' tk' hn' hs => ?_
  have I3 := I2.write (x := hp.objs.size) (e := hp.objs.size) (o := exd hp.objs.size [(f, y)]) (t' := tk') (h' := h') (by rw [ed]; exact True.intro) (.inl rfl) (fun b o hb z => (hs.2 b hb).trans z)
    (by obtain ⟨o, _, _, z, _⟩ := hn'; exact ⟨o, z⟩) (exd_ok hn' (relO_put ry rel))
  exact h hp.objs.size _ _ (Ne.symm na) hfr (by rw [upd_ne na, upd_same]) upd_same (fun b h1 h2 => by rw [upd_ne h2, upd_ne h1, upd_ne h2]) I3
theorem xst_old (T : XC X.K C) (I : Inv X pins σ H s) (e : H a = some (exo a C (some dx))) (ed : H dx = some (exd dx fs)) (hl : fs.length ≤ 900) (hno : PySem.W.findIn X.K (.ref C) f = some none) (ry : RelV y u)
    (h : ∀ s', Inv X pins σ (upd H dx (exd dx ((f, y) :: fs))) s' → Q () s') : wpAny (model X.prog X.w) A (setAttr (.ref a) f u) Q E s := by
  obtain ⟨B, nid, iid, mb, FB, SF, q1, q2⟩ := T.base
  obtain ⟨t1, ho⟩ := exo_at I.hok e
  obtain ⟨mA, hns, rel⟩ := exd_at I.hok ed
  have hw := within_of rel
  obtain ⟨cd, hc, hd'⟩ := PySem.W.any_some T.hd
  obtain ⟨hp, g, dr, t, os⟩ := s
  obtain ⟨oD, esD, epD, hoD, hdD, _⟩ := hns.count hw
  refine PySem.W.set_plain I.kIn (od := some oD) ⟨ho, rfl, rfl, hoD⟩ T.sa (PySem.W.osa_openX (od := some oD) SF I.kIn ⟨ho, rfl, rfl, hoD⟩ q2 (taker_none hno) fun b => ?_)
  refine wpAny_bind (wpAny_pure (wpAny_bind (wpAny_bind (wpAny_loadPart ho (wpAny_bind (PySem.W.Looks.at (M := model X.prog X.w) (PySem.W.looks_clsIn I.kIn hc) ?_))))))
  rw [hd']
  refine wpAny_pure (a := some dx) ?_
  show wpAny _ _ (storeInDict dx (.str f _) f u) _ _ _
  refine PySem.OEX.store_in_old hns hw (by rw [List.length_map]; omega) fun h' tk' hn' hs => ?_
  exact h _ (I.write (x := dx) (e := dx) (o := exd dx ((f, y) :: fs)) (t' := tk') (h' := h') (by rw [ed]; exact True.intro) (.inl rfl) (fun b o hb z => (hs.2 b hb).trans z)
    (by obtain ⟨o, _, _, z, _⟩ := hn'; exact ⟨o, z⟩) (exd_ok hn' (relO_put ry rel)))
end
end L2
namespace L2
open PySem PySem.Spec PyProof.Rows Builtin.ObjectAttr
/-- self.f = e, self an exception that is being made -/
def tXst (K : PySem.W.Frag) (f : Str) (to te : TE) : TS := fun D σ H => te σ H fun y H1 => to σ H1 fun x H2 => ∃ a C : Addr, x = .ref a ∧ XC K C ∧ PySem.W.findIn K (.ref C) f = some none ∧
  ((H2 a = some (exo a C none) ∧ ∀ d H3, d ≠ a → H2 d = none → H3 a = some (exo a C (some d)) → H3 d = some (exd d [(f, y)]) → free3 H2 H3 a d → D.nx σ H3) ∨
    ∃ (d : Addr) (fs : List (Str × V)), H2 a = some (exo a C (some d)) ∧ H2 d = some (exd d fs) ∧ fs.length ≤ 900 ∧ D.nx σ (upd H2 d (exd d ((f, y) :: fs))))
section
variable {X : Cx} {o e : Expr} {to te : TE} {f : Str} {p' pos : Pos}
theorem ps_xst (ho : PE X o to) (he : PE X e te) (hs : swapsWith e (some (.Attribute o f p')) pos.line X.env = pure false := by rfl) : PS X (.Assign [.Attribute o f p'] e pos) (tXst X.K f to te) := by
  refine ⟨fun pins s σ H D I h => ?_⟩
  refine plainObj_wpAny_Assign_Attribute (thn (he.run pins s σ H _ I h) fun v s1 hv => ?_) hs
  obtain ⟨y, H1, I1, r1, q1⟩ := hv
  refine thn (ho.run pins s1 σ H1 _ I1 q1) fun u s2 hu => ?_
  obtain ⟨x, H2, I2, r2, a, C, ex, T, hno, q⟩ := hu
  subst ex
  obtain rfl : u = Value.ref a := r2
  rcases q with ⟨ea, q⟩ | ⟨d, fs, ea, ed, hl, q⟩
  · exact xst_new T I2 ea hno r1 fun d s' H' n1 n2 z1 z2 z3 J => ⟨σ, H', J, q d H' n1 n2 z1 z2 z3⟩
  · exact xst_old T I2 ea ed hl hno r1 fun s' J => ⟨σ, _, J, q⟩
end
/-- C(e, .., k = v, ..) as a value; sp is what C's own __init__ promises -/
def tXmk (C : Addr) (n m : Nat) (sp : Sp) (gV : List V → List V → List V) (t tk : TA) : TE := fun σ H Q => t σ H fun vs H1 => tk σ H1 fun zs H2 => vs.length = n ∧ zs.length = m ∧
  ∀ a, H2 a = none → sp (gV (.ref a :: vs) zs) (upd H2 a (exo a C none)) (fun v H3 => v = .non ∧ Q (.ref a) H3) (fun _ _ _ => False)
section
variable {X : Cx} {CX : CXT} {k n : Nat} {C fI : Addr} {fd : FuncData} {ps ks : List Str} {sp : Sp} {x : Str} {p pos : Pos} {e : Expr} {es : List Expr} {kws : List Keyword} {t tk : TA} {g : List Value → List Value → List Value} {gV : List V → List V → List V}
theorem run_xmk {pins : List (Addr × Obj)} {σ : St} {H : Hp} {s : Shared} {Q : VK} {us ws : List Value} {vs zs : List V} (T : XC X.K C) (iC : PySem.W.findIn X.K (.ref C) "__init__" = some (some (.ref fI))) (tI : PySem.W.isFn X.K (.ref fI) = true)
    (F : FnOk X.prog X.w X.K X.mg X.base CX k fI fd ps sp) (hr : Room (k + 1) X.A) (hb : KBn X.K fd ps (n + 1) ks g gV) (hx : Passes CX X (fun _ _ _ => False)) (I : Inv X pins σ H s) (r : Vals vs us) (rz : Vals zs ws) (l1 : vs.length = n) (l2 : zs.length = ks.length) (l3 : n ≤ 1000)
    (h : ∀ a, H a = none → sp (gV (.ref a :: vs) zs) (upd H a (exo a C none)) (fun v H3 => v = .non ∧ Q (.ref a) H3) (fun _ _ _ => False)) :
    wpAny (model X.prog X.w) X.A (call (.ref C) us (ks.zip ws)) (EP X pins σ Q) X.xe s := by
  obtain ⟨B, nid, iid, mb, FB, SF, q1, q2⟩ := T.base
  obtain ⟨nm, N, qn, bs, bm, hdct, sn, sub, ab, col, dd, k0, k1, k2, k3, k5, hC, hT⟩ := PySem.W.excInit_of I.kIn q1
  obtain ⟨oI, hoI, hcI⟩ : ∃ oI, s.heap.get? fI = some oI ∧ oI.cls = .type "function" := by
    obtain ⟨o, ho, hc⟩ := Option.map_eq_some_iff.mp (show (X.K.lookup fI).map (·.cls) = some (.type "function") from beq_iff_eq.mp tI)
    exact ⟨o, I.kIn _ _ ho, hc⟩
  obtain ⟨hp, gn, dr, tc, os⟩ := s
  have hsz : hp.objs.size ≤ hp.objs.size + 1 := Nat.le_succ _
  have hn : H (hp.objs.size + 1) = none := I.hok.fresh hsz
  have hq := h (hp.objs.size + 1) hn
  have kk : ∀ b o, hp.get? b = some o → ((hp.push (PySem.W.kdv_tup us)).push (PySem.HandSPX.excO C hp.objs.size)).get? b = some o := fun b o z => Heap.get?_push_of_some _ (Heap.get?_push_of_some _ z)
  have hget : ((hp.push (PySem.W.kdv_tup us)).push (PySem.HandSPX.excO C hp.objs.size)).get? (hp.objs.size + 1) = some (PySem.HandSPX.excO C hp.objs.size) := by heap_get
  have I2 : Inv X pins σ (upd H (hp.objs.size + 1) (exo (hp.objs.size + 1) C none)) ⟨(hp.push (PySem.W.kdv_tup us)).push (PySem.HandSPX.excO C hp.objs.size), gn, dr, tc, os⟩ :=
    I.laid (t' := tc) (a := hp.objs.size + 1) (o := exo (hp.objs.size + 1) C none) (h' := (hp.push (PySem.W.kdv_tup us)).push (PySem.HandSPX.excO C hp.objs.size)) kk hsz (exo_ok hget)
  have r1 : Vals (V.ref (hp.objs.size + 1) :: vs) (Value.ref (hp.objs.size + 1) :: us) := .cons rfl r
  have e1 : (Value.ref (hp.objs.size + 1) :: us).length = n + 1 := r1.length.symm.trans (congrArg Nat.succ l1)
  have e2 : ws.length = ks.length := rz.length.symm.trans l2
  have hus : us.length ≤ sizeLine := by
    rw [← r.length, sizeLine_eq]
    omega
  refine wpAny_call (PySem.Xv.callK FB hT hC (PySem.W.looks_findIn I.kIn iC) (fun self => PySem.W.exc_bind hoI hcI self) hus
    (codeAny_mono (F.run _ X.stack _ _ ⟨Value.ref (hp.objs.size + 1) :: us, ks.zip ws⟩ (g (Value.ref (hp.objs.size + 1) :: us) ws) _ _ (fun _ _ _ => False) (hr.make C us (ks.zip ws)) (I2.env0.make C us (ks.zip ws)) (hb.to _ (Value.ref (hp.objs.size + 1) :: us) ws I2.kIn e1 e2) (hb.rel r1 rz) hq) fun r s' hq' => ?_))
  cases r with
  | error er => exact hx pins σ _ _ er s' I2 hq'
  | ok fl =>
    cases fl with
    | ret u =>
      obtain ⟨v, H', I3, rv, ev, q3⟩ := I2.after hq'
      subst ev
      exact ⟨rv, V.ref (hp.objs.size + 1), H', I3, rfl, q3⟩
    | next => exact hq'.elim
    | brk => exact hq'.elim
    | cont => exact hq'.elim
/-- positional values (one or more), keywords -/
theorem pe_xmk (T : XC X.K C) (iC : PySem.W.findIn X.K (.ref C) "__init__" = some (some (.ref fI))) (tI : PySem.W.isFn X.K (.ref fI) = true) (F : FnOk X.prog X.w X.K X.mg X.base CX k fI fd ps sp) (hr : Room (k + 1) X.A) (hg : Gl X x) (hm : X.mg x = some (.ref C)) (hb : KBn X.K fd ps (n + 1) ks g gV) (hx : Passes CX X (fun _ _ _ => False)) (l3 : n ≤ 1000)
    (ha : PA X (e :: es) t) (hkw : PK X kws tk) (hall : (backToKw pos (keywordEach kws X.env)).all (·.1.isSome) = true := by rfl) (hks : (backToKw pos (keywordEach kws X.env)).filterMap (·.1) = ks := by rfl)
    (hdb : (x == ("__debug__" : Str)) = false := by decide) (he : starEach (e :: es) X.env = (false, eval e X.env) :: starEach es X.env := by rfl)
    (hpl : ((backTo pos (starEach (e :: es) X.env)).any (·.1) || (backToKw pos (keywordEach kws X.env)).any (·.1.isNone)) = false := by rfl) :
    PE X (.Call (.Name x p) (e :: es) kws pos) (tXmk C n ks.length sp gV t tk) := by
  refine ⟨fun pins s σ H Q I h => wpAny_Call_Name_kw (ld_glob I hg hm ?_ hdb)⟩
  refine PySem.W.callWith_KW (h₀ := X.base) I.ok.mod.kin T.kC hall (thn (ha.run pos pins s σ H _ I h) fun us s1 hu => ?_) hpl he
  obtain ⟨vs, H1, I1, r, q⟩ := hu
  refine thn (hkw.run pos pins s1 σ H1 _ I1 q) fun ws s2 hw => ?_
  obtain ⟨zs, H2, I2, rz, l1, l2, q2⟩ := hw
  refine ⟨I2.kIn, ?_⟩
  rw [hks]
  exact run_xmk T iC tI F hr hb hx I2 r rz l1 l2 l3 q2
/-- keywords alone -/
theorem pe_xmkK (T : XC X.K C) (iC : PySem.W.findIn X.K (.ref C) "__init__" = some (some (.ref fI))) (tI : PySem.W.isFn X.K (.ref fI) = true) (F : FnOk X.prog X.w X.K X.mg X.base CX k fI fd ps sp) (hr : Room (k + 1) X.A) (hg : Gl X x) (hm : X.mg x = some (.ref C)) (hb : KBn X.K fd ps 1 ks g gV) (hx : Passes CX X (fun _ _ _ => False))
    (hkw : PK X kws tk) (hall : (backToKw pos (keywordEach kws X.env)).all (·.1.isSome) = true := by rfl) (hks : (backToKw pos (keywordEach kws X.env)).filterMap (·.1) = ks := by rfl)
    (hdb : (x == ("__debug__" : Str)) = false := by decide) (hpl : ((backTo pos (starEach [] X.env)).any (·.1) || (backToKw pos (keywordEach kws X.env)).any (·.1.isNone)) = false := by rfl) :
    PE X (.Call (.Name x p) [] kws pos) (tXmk C 0 ks.length sp gV tNil tk) := by
  refine ⟨fun pins s σ H Q I h => wpAny_Call_Name_kw (ld_glob I hg hm ?_ hdb)⟩
  refine PySem.W.callWith_KW0 (h₀ := X.base) I.ok.mod.kin T.kC hall ?_ hpl
  refine thn (hkw.run pos pins s σ H _ I h) fun ws s2 hw => ?_
  obtain ⟨zs, H2, I2, rz, l1, l2, q2⟩ := hw
  refine ⟨I2.kIn, ?_⟩
  rw [hks]
  exact run_xmk (us := []) T iC tI F hr hb hx I2 .nil rz rfl l2 (by decide) q2
/-- one value or more, no keyword -/
theorem pe_xmkP (T : XC X.K C) (iC : PySem.W.findIn X.K (.ref C) "__init__" = some (some (.ref fI))) (tI : PySem.W.isFn X.K (.ref fI) = true) (F : FnOk X.prog X.w X.K X.mg X.base CX k fI fd ps sp) (hr : Room (k + 1) X.A) (hg : Gl X x) (hm : X.mg x = some (.ref C)) (hb : KBn X.K fd ps (n + 1) [] g gV) (hx : Passes CX X (fun _ _ _ => False)) (l3 : n ≤ 1000)
    (ha : PA X (e :: es) t) (hdb : (x == ("__debug__" : Str)) = false := by decide) (he : starEach (e :: es) X.env = (false, eval e X.env) :: starEach es X.env := by rfl) (hpl : (backTo pos (starEach es X.env)).any (·.1) = false := by rfl) :
    PE X (.Call (.Name x p) (e :: es) [] pos) (tXmk C n 0 sp gV t tNil) := by
  refine ⟨fun pins s σ H Q I h => wpAny_Call_Name_kw (ld_glob I hg hm ?_ hdb)⟩
  refine PySem.W.callWith_K (h₀ := X.base) I.ok.mod.kin T.kC (thn (ha.run pos pins s σ H _ I h) fun us s1 hu => ?_) he hpl
  obtain ⟨vs, H1, I1, r, l1, l2, q2⟩ := hu
  exact ⟨I1.kIn, run_xmk (ws := []) (zs := []) T iC tI F hr hb hx I1 r .nil l1 rfl l3 q2⟩
/-- no value -/
theorem pe_xmk0 (T : XC X.K C) (iC : PySem.W.findIn X.K (.ref C) "__init__" = some (some (.ref fI))) (tI : PySem.W.isFn X.K (.ref fI) = true) (F : FnOk X.prog X.w X.K X.mg X.base CX k fI fd ps sp) (hr : Room (k + 1) X.A) (hg : Gl X x) (hm : X.mg x = some (.ref C)) (hb : KBn X.K fd ps 1 [] g gV) (hx : Passes CX X (fun _ _ _ => False))
    (hdb : (x == ("__debug__" : Str)) = false := by decide) : PE X (.Call (.Name x p) [] [] pos) (tXmk C 0 0 sp gV tNil tNil) := by
  refine ⟨fun pins s σ H Q I h => wpAny_Call_Name_kw (ld_glob I hg hm ?_ hdb)⟩
  obtain ⟨_, _, q2⟩ := h
  exact PySem.W.callWith_K0 I.kIn T.kC (run_xmk (us := []) (ws := []) (zs := []) T iC tI F hr hb hx I .nil .nil rfl rfl (by decide) q2)
end
/-- e.f, e such an exception -/
def tXat (K : PySem.W.Frag) (f : Str) (te : TE) : TE := fun σ H Q => te σ H fun x H1 => ∃ (a C d : Addr) (fs : List (Str × V)) (v : V), x = .ref a ∧ XC K C ∧ PySem.W.findIn K (.ref C) f = some none ∧ H1 a = some (exo a C (some d)) ∧ H1 d = some (exd d fs) ∧ fs.lookup f = some v ∧ Q v H1
theorem inst_exo {X : Cx} {pins : List (Addr × Obj)} {σ : St} {H : Hp} {s : Shared} {a C d : Addr} {fs : List (Str × V)} (I : Inv X pins σ H s) (ea : H a = some (exo a C (some d))) (ed : H d = some (exd d fs)) :
    ∃ (ox od : Obj) (mA : Str → Option Value), PySem.W.InstAt s.heap a ox C (some od) ∧ (∀ f, RelO (fs.lookup f) (mA f)) ∧ ∀ f, PySem.W.lookIn f od = some (mA f) := by
  obtain ⟨t1, ho⟩ := exo_at I.hok ea
  obtain ⟨mA, hns, hr⟩ := exd_at I.hok ed
  obtain ⟨od, hod, hl⟩ := lookIn_ns hns
  exact ⟨_, od, mA, ⟨ho, rfl, rfl, hod⟩, hr, hl⟩
theorem pe_xat {X : Cx} {e : Expr} {te : TE} {pos : Pos} {f : Str} (he : PE X e te) (hb : attributeBase e f X.env (eval e X.env) = eval e X.env := by rfl) : PE X (.Attribute e f pos) (tXat X.K f te) := by
  refine ⟨fun pins s σ H Q I h => attr_of hb (thn (he.run pins s σ H _ I h) fun u s1 hh => ?_)⟩
  obtain ⟨x, H1, I1, rx, a, C, d, fs, v, ex, T, hno, ea, ed, l, q⟩ := hh
  subst ex
  obtain rfl : u = Value.ref a := rx
  obtain ⟨ox, od, mA, J, hr, hl⟩ := inst_exo I1 ea ed
  obtain ⟨u, hu, ru⟩ := RelO.some_of (v := v) (o := mA f) (by rw [← l]; exact hr f)
  exact HandSPX.exc_get I1.kIn J T.ga T.gg T.ex (PySem.W.findObj_own T.hd hno rfl (by rw [hl, hu])) (handed_of ru) ⟨v, H1, I1.tok _, ru, q⟩
/-- isinstance(e, c), e such an exception -/
def rXis (K : PySem.W.Frag) : List V → Hp → VK → Prop := fun xs H Q => ∃ (a C d : Addr) (fs : List (Str × V)) (c : V) (cv : Value) (b : Bool), xs = [.ref a, c] ∧ XC K C ∧ H a = some (exo a C (some d)) ∧ H d = some (exd d fs) ∧ ClsV c cv ∧ PySem.W.kitOne K (.ref C) cv = some b ∧ Q (.bl b) H
theorem call_xis {X : Cx} : CallR X (.builtin "isinstance") (rXis X.K) := by
  intro pins s σ H xs us Q I r h
  obtain ⟨a, C, d, fs, c, cv, b, rfl, T, ea, ed, hc, e, q⟩ := h
  obtain ⟨u1, u2, rfl, r1, r2⟩ := vals2 r
  obtain rfl := hc.eq r2
  obtain rfl : u1 = Value.ref a := r1
  obtain ⟨ox, od, mA, J, _, _⟩ := inst_exo I ea ed
  exact PySem.W.kia_one (PySem.W.kitx_exc T.cl T.ga T.gg T.ex T.ha T.hn T.ht T.hm) I.kIn J e (fun z => nomatch z) fun tk => ⟨.bl b, H, I.tok tk, rfl, q⟩
end L2
end
section
set_option maxHeartbeats 4000000
namespace L2
open PySem PySem.Spec PyProof.Rows Builtin.ObjectAttr
section
variable {X : Cx} {CX : CXT} {k : Nat} {C fI : Addr} {fd : FuncData} {ps : List Str} {sp : Sp} {x : Str} {p pos : Pos} {e : Expr} {es : List Expr} {ta : TA}
/-- raise C(..), C an own exception class with its own __init__, over any built-in base -/
theorem run_pmk {pins : List (Addr × Obj)} {σ : St} {H1 : Hp} {s1 : Shared} {Q : XK} {us : List Value} {vs : List V} (T : XC X.K C) (tyC : PySem.W.typeIn X.K (.ref C) = some (.type "type")) (iC : PySem.W.findIn X.K (.ref C) "__init__" = some (some (.ref fI))) (tI : PySem.W.isFn X.K (.ref fI) = true)
    (F1 : FnOk X.prog X.w X.K X.mg X.base CX k fI fd ps sp) (hr : Room (k + 1) X.A) (hb : Binds X.K fd ps []) (hx : Passes CX X (fun _ _ _ => False)) (I1 : Inv X pins σ H1 s1) (r1 : Vals vs us) (hz : vs.length ≤ 1000)
    (q1 : ∀ a, H1 a = none → sp (.ref a :: vs) (upd H1 a (exo a C none)) (fun v H2 => v = .non ∧ ∃ (d : Addr) (fs : List (Str × V)), H2 a = some (exo a C (some d)) ∧ H2 d = some (exd d fs) ∧ H1 d = none ∧ Q (.ref C) (some d) (upd (del H2 a) d (.xd fs))) (fun _ _ _ => False)) :
    wpAny (model X.prog X.w) X.A (call (.ref C) us []) (MkP X pins σ Q) X.xe s1 := by
  obtain ⟨B, nid, iid, mb, FB, SF, qa, qb⟩ := T.base
  obtain ⟨nm, N, qn, bs, bm, hdct, sn, sub, ab, col, dd, k0, k1, k2, k3, k5, hC, hT⟩ := PySem.W.excInit_of I1.kIn qa
  obtain ⟨oI, hoI, hcI⟩ : ∃ oI, s1.heap.get? fI = some oI ∧ oI.cls = .type "function" := by
    obtain ⟨o, ho, hc⟩ := Option.map_eq_some_iff.mp (show (X.K.lookup fI).map (·.cls) = some (.type "function") from beq_iff_eq.mp tI)
    exact ⟨o, I1.kIn _ _ ho, hc⟩
  obtain ⟨hp, g, dr, tk, os⟩ := s1
  have hsz : hp.objs.size ≤ hp.objs.size + 1 := Nat.le_succ _
  have hn : H1 (hp.objs.size + 1) = none := I1.hok.fresh hsz
  have hq := q1 (hp.objs.size + 1) hn
  have kk : ∀ b o, hp.get? b = some o → ((hp.push (PySem.W.kdv_tup us)).push (PySem.HandSPX.excO C hp.objs.size)).get? b = some o := fun b o z => Heap.get?_push_of_some _ (Heap.get?_push_of_some _ z)
  have hget : ((hp.push (PySem.W.kdv_tup us)).push (PySem.HandSPX.excO C hp.objs.size)).get? (hp.objs.size + 1) = some (PySem.HandSPX.excO C hp.objs.size) := by heap_get
  have I2 : Inv X pins σ (upd H1 (hp.objs.size + 1) (exo (hp.objs.size + 1) C none)) ⟨(hp.push (PySem.W.kdv_tup us)).push (PySem.HandSPX.excO C hp.objs.size), g, dr, tk, os⟩ :=
    I1.laid (t' := tk) (a := hp.objs.size + 1) (o := exo (hp.objs.size + 1) C none) (h' := (hp.push (PySem.W.kdv_tup us)).push (PySem.HandSPX.excO C hp.objs.size)) kk hsz (exo_ok hget)
  have r2 : Vals (V.ref (hp.objs.size + 1) :: vs) (Value.ref (hp.objs.size + 1) :: us) := .cons rfl r1
  have hl : (Value.ref (hp.objs.size + 1) :: us).length = ps.length := by
    have z := r2.length
    rw [F1.len _ _ _ _ hq] at z
    exact z.symm
  have hus : us.length ≤ sizeLine := by
    rw [← Paired.length r1, sizeLine_eq]
    omega
  have hb2 := hb ⟨(hp.push (PySem.W.kdv_tup us)).push (PySem.HandSPX.excO C hp.objs.size), g, dr, tk, os⟩ (Value.ref (hp.objs.size + 1) :: us) I2.kIn (by rw [List.append_nil]; exact hl)
  rw [List.append_nil] at hb2
  refine wpAny_call (PySem.Xv.callK (kw := []) FB hT hC (PySem.W.looks_findIn I1.kIn iC) (fun self => PySem.W.exc_bind hoI hcI self) hus
    (codeAny_mono (F1.run _ X.stack _ _ ⟨Value.ref (hp.objs.size + 1) :: us, []⟩ (Value.ref (hp.objs.size + 1) :: us) _ _ (fun _ _ _ => False) (hr.make C us []) (I2.env0.make C us []) hb2 r2 hq) fun r s' hq' => ?_))
  cases r with
  | error er => exact hx pins σ _ _ er s' I2 hq'
  | ok fl =>
    cases fl with
    | ret u =>
      obtain ⟨v, H2, os2, bare2, un2, hok2, rv, ev, d, fs, ea, ed, hd1, q2⟩ := hq'
      subst ev
      obtain ⟨h2, g2, d2, t2, os'⟩ := s'
      exact ⟨rv, mk_end (raises_own T.ex tyC) I1 hsz kk un2 hok2 os2 bare2 ea ed hd1 q2⟩
    | next => exact False.elim hq'
    | brk => exact False.elim hq'
    | cont => exact False.elim hq'
theorem pmk_xo (T : XC X.K C) (tyC : PySem.W.typeIn X.K (.ref C) = some (.type "type")) (iC : PySem.W.findIn X.K (.ref C) "__init__" = some (some (.ref fI))) (tI : PySem.W.isFn X.K (.ref fI) = true)
    (F1 : FnOk X.prog X.w X.K X.mg X.base CX k fI fd ps sp) (hr : Room (k + 1) X.A) (hb : Binds X.K fd ps []) (hx : Passes CX X (fun _ _ _ => False)) (hg : Gl X x) (hm : X.mg x = some (.ref C)) (ha : PA X (e :: es) ta)
    (hdb : (x == ("__debug__" : Str)) = false := by decide) (he : starEach (e :: es) X.env = (false, eval e X.env) :: starEach es X.env := by rfl) (hpl : (backTo pos (starEach es X.env)).any (·.1) = false := by rfl) :
    PMk X (.Call (.Name x p) (e :: es) [] pos) (tMkO C sp [] ta) := by
  intro pins s σ H Q I h
  refine wpAny_Call_Name_kw (ld_glob I hg hm ?_ hdb)
  refine PySem.W.callWith_K (h₀ := X.base) I.ok.mod.kin T.kC (thn (ha.run pos pins s σ H _ I h) fun us s1 ⟨vs, H1, I1, r1, hz, q1⟩ => ⟨I1.kIn, ?_⟩) he hpl
  exact run_pmk T tyC iC tI F1 hr hb hx I1 r1 hz (fun a na => by have z := q1 a na; rwa [List.append_nil] at z)
theorem pmk_xo0 (T : XC X.K C) (tyC : PySem.W.typeIn X.K (.ref C) = some (.type "type")) (iC : PySem.W.findIn X.K (.ref C) "__init__" = some (some (.ref fI))) (tI : PySem.W.isFn X.K (.ref fI) = true)
    (F1 : FnOk X.prog X.w X.K X.mg X.base CX k fI fd ps sp) (hr : Room (k + 1) X.A) (hb : Binds X.K fd ps []) (hx : Passes CX X (fun _ _ _ => False)) (hg : Gl X x) (hm : X.mg x = some (.ref C))
    (hdb : (x == ("__debug__" : Str)) = false := by decide) : PMk X (.Call (.Name x p) [] [] pos) (tMkO C sp [] tNil) := by
  intro pins s σ H Q I h
  refine wpAny_Call_Name_kw (ld_glob I hg hm ?_ hdb)
  obtain ⟨_, q1⟩ := h
  exact PySem.W.callWith_K0 I.kIn T.kC (run_pmk (us := []) (vs := []) T tyC iC tI F1 hr hb hx I .nil (by decide) q1)
end
end L2
end
section
set_option maxHeartbeats 4000000
namespace L2
open PySem PySem.Spec PyProof.Rows
/-! ### the caught exception, read where it is pinned -/
section
variable {X : Cx} {a C : Addr} {oe : Obj} {cls : Value} {d : Option Addr} {e : Expr} {te : TE} {pos : Pos} {n : Str}
theorem pe_xfP (hp : (a, oe) ∈ X.pn) (T : XC X.K C) (hno : PySem.W.findIn X.K (.ref C) n = some none) (hz : Zc cls d oe) (hf : ∃ vs, oe.data = .fields vs) (he : PE X e te) (hb : attributeBase e n X.env (eval e X.env) = eval e X.env := by rfl) :
    PE X (.Attribute e n pos) (tXf a cls d C n te) := by
  refine ⟨fun pins s σ H Q I h => ?_⟩
  refine attr_of hb (thn (he.run pins s σ H _ I h) fun u s1 hh => ?_)
  obtain ⟨x, H1, I1, rx, ex, ec, dd, fs, v, ed, ea, l, q⟩ := hh
  subst ex
  obtain rfl : u = Value.ref a := rx
  subst ec
  subst ed
  obtain ⟨ha, _⟩ := I1.pin (a, oe) (List.mem_append_left _ hp)
  obtain ⟨vs, hd⟩ := hf
  have hx : ObjOk X.prog X.w H1 s1.heap dd (.xd fs) := I1.hok dd _ ea
  obtain ⟨mA, hns, hr⟩ := hx
  obtain ⟨od, ho, hl⟩ := lookIn_ns hns
  obtain ⟨u, hu, ru⟩ := RelO.some_of (v := v) (o := mA n) (by rw [← l]; exact hr n)
  have J : PySem.W.InstAt s1.heap a oe C (some od) := ⟨ha, hz.1, by unfold PySem.W.notCls; rw [hd] <;> rfl, by rw [hz.2]; exact ho⟩
  exact HandSPX.exc_get I1.kIn J T.ga T.gg T.ex (PySem.W.findObj_own T.hd hno rfl (by rw [hl, hu])) (handed_of ru) ⟨v, H1, I1.tok _, ru, q⟩
/-- isinstance(e, c), e the exception pinned at a, with its dict -/
def rIsP (K : PySem.W.Frag) (D a dd : Addr) : List V → Hp → VK → Prop := fun xs H Q => ∃ (c : V) (cv : Value) (b : Bool) (fs : List (Str × V)), xs = [.ref a, c] ∧ H dd = some (.xd fs) ∧ (∀ u, RelV c u → u = cv) ∧ PySem.W.kitOne K (.ref D) cv = some b ∧ Q (.bl b) H
theorem call_isP {D dd : Addr} (hp : (a, oe) ∈ X.pn) (T : XC X.K D) (hz : Zc (.ref D) (some dd) oe) (hf : ∃ vs, oe.data = .fields vs) : CallR X (.builtin "isinstance") (rIsP X.K D a dd) := by
  intro pins s σ H xs us Q I r h
  obtain ⟨c, cv, b, fs, rfl, ea, hcv, e, q⟩ := h
  cases r with
  | cons rx rr =>
    cases rr with
    | cons rt rr =>
      cases rr
      cases rx
      have ec := hcv _ rt
      subst ec
      obtain ⟨hget, _⟩ := I.pin (a, oe) (List.mem_append.mpr (.inl hp))
      obtain ⟨vs, hv⟩ := hf
      have hx : ObjOk X.prog X.w H s.heap dd (.xd fs) := I.hok dd _ ea
      obtain ⟨mA, hns, hr⟩ := hx
      obtain ⟨od, ho, hl⟩ := lookIn_ns hns
      have J : PySem.W.InstAt s.heap a oe D (some od) := ⟨hget, hz.1, by unfold PySem.W.notCls; rw [hv] <;> rfl, by rw [hz.2]; exact ho⟩
      exact PySem.W.kia_one (PySem.W.kitx_exc T.cl T.ga T.gg T.ex T.ha T.hn T.ht T.hm) I.kIn J e (fun z => nomatch z) fun tk => ⟨.bl b, H, I.tok tk, rfl, q⟩
end
/-! ### a def that is handed the caught exception, called in the suite -/
structure FnP (P : Program) (w : World) (K : PySem.W.Frag) (mg : Str → Option Value) (base : Heap) (CX : CXT) (k : Nat) (f : Addr) (fd : FuncData) (ps : List Str) (sp : Addr → Value → Option Addr → Sp) : Prop where
  len : ∀ a cls d vs H Q E, sp a cls d vs H Q E → vs.length = ps.length
  run : ∀ (A : Around) (outer : List Env) (s : Shared) (H : Hp) (args : Args) (us : List Value) (vs : List V) (Q : VK) (E : XK) (a : Addr) (oe : Obj) (cls : Value) (d : Option Addr), L2H.RoomH k A → Zc cls d oe → (∃ vs, oe.data = .fields vs) → L2H.PinOk outer H s (a, oe) → Env0 P w K mg base A outer s H → BindsTo s fd args (ps.zip us) → Vals vs us → sp a cls d vs H Q E →
    codeAny (model P w) A (.call (.ref f) args) (CR CX outer P w H s Q E) s
/-- .. by its body -/
theorem fn_ofP {CX : CXT} {P : Program} {w : World} {K : PySem.W.Frag} {mg : Str → Option Value} {base : Heap} {k : Nat} {x q : Str} {st : Stmt} {f : Addr} {fd : FuncData} {N ps : List Str} {sp : Addr → Value → Option Addr → Sp} (F : Fun K x q st f fd) (S : FnScope N ps (defScope st))
    (len : ∀ a cls d vs H Q E, sp a cls d vs H Q E → vs.length = ps.length)
    (hbody : ∀ (cdv : Value) (A : Around) (outer : List Env) (s : Shared) (H : Hp) (vs : List V) (Q : VK) (E : XK) (a : Addr) (oe : Obj) (cls : Value) (d : Option Addr), Zc cls d oe → (∃ vs, oe.data = .fields vs) → L2H.RoomH k (A.deeper (envOfC q (defScope st) s.heap.objs.size f cdv)) → sp a cls d vs H Q E →
      ∃ t, PSs (L2H.cxH CX P w K mg base N q (defScope st) f cdv A outer s H E (a, oe)) (defBody st) t ∧ t { nx := fun _ H' => Q .non H', rt := Q } (L2.start N vs) H) :
    FnP P w K mg base CX (k + 1) f fd ps sp := by
  obtain ⟨oc, od, kV, doc, pm, an, cdv, ct, osl, rfl, lk, hcd⟩ := F.ex
  refine ⟨len, fun A outer s H args us vs Q E a oe cls d hr hz hf hpin e0 hb r hsp => ?_⟩
  have hl := len _ _ _ _ _ _ _ hsp
  have KX : K.In s.heap := e0.mod.kin.keeps fun b o e => (e0.bs b o e).1
  have lim : s.heap.NoLimit := e0.mod.nolimit.keeps fun b o e => (e0.bs b o e).1
  have hkind : ∀ y ∈ ps.zip us, (defScope st).names.lookup y.1 = some .local ∨ ((defScope st).names.lookup y.1 = some .cell ∧ ((cellsFrom (s.heap.objs.size + 1) (defScope st).names []).lookup y.1).isSome = true) := fun ⟨n, v⟩ hy => by
    rcases S.par n (List.of_mem_zip hy).1 with q | q
    · exact .inl q
    · exact .inr ⟨q, PySem.W.cellsFrom_some _ _ _ (.inl q)⟩
  refine codeAny_call_function hr.depth (KX _ _ lk) rfl S.co S.gen rfl (PySem.W.codeRec_of KX hcd) (hb _ _ _ _ ?_)
  refine wpAny_newFunctionEnv_cells S.kind hkind fun env he s1 x => ?_
  subst he
  refine ⟨lim.keeps x.toInCall.keep, codeAny_func ?_⟩
  obtain ⟨t, ht, hq⟩ := hbody cdv A outer s H vs Q E a oe cls d hz hf (hr.deeper _) hsp
  have I : Inv (L2H.cxH CX P w K mg base N q (defScope st) f cdv A outer s H E (a, oe)) [] (L2.start N vs) H s1 := L2H.inv_startH S hpin e0 hl r x
  refine wpAny_mono (ht.run [] s1 (L2.start N vs) H _ I hq) (fun fl s' hs => ?_) fun e s' hs => hs
  have fin : ∀ {σ' : St} {H' : Hp} {v : V} {u : Value}, Inv (L2H.cxH CX P w K mg base N q (defScope st) f cdv A outer s H E (a, oe)) [] σ' H' s' → RelV v u → Q v H' → CE outer P w H s Q u s' :=
    fun {σ' H' v u} J rv q => ⟨v, H', J.os, J.bare, J.base, J.hok, rv, q⟩
  cases fl with
  | ret u =>
    obtain ⟨v, σ', H', J, rv, q⟩ := hs
    exact fin J rv q
  | next =>
    obtain ⟨σ', H', J, q⟩ := hs
    exact fin (v := V.non) (u := Value.none) J rfl q
  | brk =>
    obtain ⟨_, _, _, q⟩ := hs
    exact False.elim q
  | cont =>
    obtain ⟨_, _, _, q⟩ := hs
    exact False.elim q
/-- f(e, ..) in the suite -/
def tCallP (a : Addr) (cls : Value) (d : Option Addr) (sp : Addr → Value → Option Addr → Sp) (t : TA) : TE := fun σ H Q => t σ H fun vs H1 => sp a cls d vs H1 Q (fun _ _ _ => False)
section
variable {X : Cx} {k : Nat} {f : Addr} {fd : FuncData} {ps : List Str} {sp : Addr → Value → Option Addr → Sp} {x : Str} {q pos : Pos} {e : Expr} {es : List Expr} {t : TA} {a : Addr} {oe : Obj} {cls : Value} {d : Option Addr}
theorem pe_callP (hp : (a, oe) ∈ X.pn) (hz : Zc cls d oe) (hf : ∃ vs, oe.data = .fields vs) (F : FnP X.prog X.w X.K X.mg X.base C8.CX0 k f fd ps sp) (hr : L2H.RoomH k X.A) (hg : Gl X x) (hm : X.mg x = some (.ref f)) (hk : PySem.W.keepIn X.K (.ref f) = true) (hb : Binds X.K fd ps [])
    (ha : PA X (e :: es) t) (hdb : (x == ("__debug__" : Str)) = false := by decide) (he : starEach (e :: es) X.env = (false, eval e X.env) :: starEach es X.env := by rfl) (hpl : (backTo pos (starEach es X.env)).any (·.1) = false := by rfl) :
    PE X (.Call (.Name x q) (e :: es) [] pos) (tCallP a cls d sp t) := by
  refine ⟨fun pins s σ H Q I h => ?_⟩
  refine wpAny_Call_Name_kw (ld_glob I hg hm ?_ hdb)
  refine PySem.W.callWith_K (h₀ := X.base) I.ok.mod.kin hk (thn (ha.run pos pins s σ H _ I h) fun us s1 ⟨vs, H1, I1, r, q⟩ => ⟨I1.kIn, ?_⟩) he hpl
  have hl : us.length = ps.length := by rw [← r.length]; exact F.len _ _ _ _ _ _ _ q
  have b := hb s1 us I1.kIn (by rw [List.append_nil]; exact hl)
  rw [List.append_nil] at b
  have P1 := I1.pin (a, oe) (List.mem_append_left _ hp)
  have hpin : L2H.PinOk X.stack H1 s1 (a, oe) := ⟨P1.1, P1.2.1, fun hm => (List.mem_cons.mp (I1.stkSub a hm)).elim P1.2.2.1 P1.2.2.2.1, P1.2.2.2.2⟩
  refine wpAny_call (codeAny_mono (F.run X.A X.stack s1 H1 ⟨us, []⟩ us vs Q _ a oe cls d hr hz hf hpin I1.env0 b r q) fun r s' hq => ?_)
  cases r with
  | error e => exact hq.elim
  | ok fl =>
    cases fl with
    | ret u => exact I1.after hq
    | next => exact False.elim hq
    | brk => exact False.elim hq
    | cont => exact False.elim hq
end
end L2
end
section
set_option maxHeartbeats 4000000
namespace L2
open PySem PySem.Spec PyProof.Rows
/-! ### several clauses «except C as n» -/
abbrev Hd3 : Type := Value × Nat × (Addr → Value → Option Addr → TS)
def wManyAs (K : PySem.W.Frag) (Wout : WX) (D : Ends) : List Hd3 → WX
  | [] => Wout
  | (c, i, ts) :: r => fun cls d σ H => ∃ b, PySem.W.exmOne K cls c = some b ∧ (b = true → ∀ a, H a = none → ts a cls d { nx := fun σ' H' => D.nx (σ'.set i none) H', rt := D.rt, bk := fun σ' H' => D.bk (σ'.set i none) H', ct := fun σ' H' => D.ct (σ'.set i none) H' } (σ.set i (some (.ref a))) H) ∧
      (b = false → wManyAs K Wout D r cls d σ H)
inductive HdsAs (X : Cx) : List ExceptHandler → List Hd3 → Prop
  | nil : HdsAs X [] []
  | cons {x n : Str} {c : Value} {i : Nat} {ts : Addr → Value → Option Addr → TS} {b₀ : Stmt} {suite : List Stmt} {np pos' : Pos} {hds : List ExceptHandler} {l : List Hd3} (hi : X.N[i]? = some n) (hln : X.env.kindOf n = some .local) (hc : Names X x c)
      (hsu : ∀ (a : Addr) (oe : Obj) (cls : Value) (d : Option Addr) (pn : List (Addr × Obj)), Zc cls d oe → (∃ vs, oe.data = .fields vs) → PSs (X.suite a ((a, oe) :: pn)) (b₀ :: suite) (ts a cls d)) (r : HdsAs X hds l) :
      HdsAs X (.ExceptHandler (some (.Name x np)) (some n) (b₀ :: suite) pos' :: hds) ((c, i, ts) :: l)
section
variable {X : Cx} {body : List Stmt} {h₀ : ExceptHandler} {hds : List ExceptHandler} {l : List Hd3} {pos : Pos} {tb : WX → TS} {Wout : WX}
theorem ps_try_manyAs (hs : X.stack = X.env :: X.outer) (hf : X.env.frame = some X.env.locals) (hN : X.N.Nodup) (tk : Takes X Wout)
    (hb : ∀ (W : WX) (pn : List (Addr × Obj)) (xe : Value → Shared → Prop), Takes (X.tr pn xe) W → PassesOwn (model X.prog X.w) X.A X.env xe → PSs (X.tr pn xe) body (tb W))
    (hh : HdsAs X (h₀ :: hds) l) : PS X (.Try body (h₀ :: hds) [] [] pos) (fun D σ H => tb (wManyAs X.K Wout D l) D σ H) := by
  refine ⟨fun pins s σ H D I h => ?_⟩
  have ok := I.ok
  have hfr : X.A.frames = some (X.env :: X.outer) := by rw [ok.frames, hs]
  refine wpAny_Try_except ?_
  refine wpAny_mono ((hb (wManyAs X.K Wout D l) (X.pn ++ pins) (fun e s₁ => wpAny (model X.prog X.w) X.A (noteFrame e X.env) (fun _ s₂ => wpAny (model X.prog X.w) X.A (setFlight e none) (fun _ s₃ =>
    wpAny (model X.prog X.w) X.A (handleBy e X.env (h₀ :: hds)) (SP X pins D) X.xe s₃) X.xe s₂) X.xe s₁) (fun u s' xx => ?_) PassesOwn.looking).run [] s σ H D (I.toTry _) h) (fun f s1 hsp => ?_) (fun e s1 he => he)
  · -- the catch
    obtain ⟨a, B, sI, pins', σ', H', cls, d, rfl, J', nb, up, sky, na, os, ag, w⟩ := xx
    have J : Inv X pins σ' H' sI := J'.ofTry ok
    have sky' : Sky B (X.env :: X.outer) a (Zc cls d) X.env.locals s'.heap := by rw [← hs]; exact sky
    show wpAny (model X.prog X.w) X.A (noteFrame (.ref a) X.env) _ _ _
    refine Sky.land Zc.steady hfr hf sky' fun h3 fl3 up3 => ?_
    have J3 : Inv X pins σ' H' { s' with heap := h3 } := J.landed nb fl3.1 (up.trans up3) os ag
    obtain ⟨oe3, vs3, he3, hz3, hd3⟩ := fl3.there
    have notFr : ∀ {h : Heap} {o : Obj} {vs : Array Value}, h.FunFrames B (X.env :: X.outer) → h.get? a = some o → o.data = .fields vs → a ∉ frs (X.env :: X.outer) := fun {h o vs} ff e dd hm => by
      obtain ⟨_, o', e', hnf⟩ := ff.mem hm
      rw [e] at e'; cases e'
      exact hnf _ dd
    have nfr := notFr fl3.2.2.1 he3 hd3
    have nL : a ≠ X.env.locals := fun z => nfr (List.mem_filterMap.mpr ⟨X.env, List.mem_cons_self, by rw [hf, z]⟩)
    have nF : a ∉ X.fs := fun hm => by
      obtain ⟨e, he, q⟩ := List.mem_filterMap.mp hm
      exact nfr (List.mem_filterMap.mpr ⟨e, List.mem_cons_of_mem _ he, q⟩)
    have S3 := J3.suite he3 hd3 na nL nF
    have go : ∀ {hds' : List ExceptHandler} {l' : List Hd3}, HdsAs X hds' l' → wManyAs X.K Wout D l' cls d σ' H' →
        wpAny (model X.prog X.w) X.A (handleBy (.ref a) X.env hds') (SP X pins D) X.xe { s' with heap := h3 } := by
      intro hds' l' hk
      induction hk with
      | nil =>
        intro w
        refine wpAny_handleBy_nil ?_
        obtain ⟨k1, k2, k3, oe, vs, T, oT, ts', he, hz, hd, h1, hr⟩ := id fl3
        unfold PySem.passOn
        refine wpAny_bind (wpAny_field he hd h1 ?_)
        rw [if_neg (show ¬ ((Value.ref T == Value.none) = true) from by simp)]
        have fin : wpAny (model X.prog X.w) X.A (setFlight (.ref a) X.env.frame) (fun _ s4 => wpAny (model X.prog X.w) X.A (throw (.ref a) : Sem Flow) (SP X pins D) X.xe s4) X.xe { s' with heap := h3 } := by
          rw [hf]
          refine HandSPX.setFlight_upZ fl3 fun h4 hh4 up4 => wpAny_throw (tk _ _ ?_)
          exact ⟨a, B, sI, pins, σ', H', cls, d, rfl, J, nb, (up.trans up3).trans up4, .inr (.inr (by rw [hs]; exact hh4)), na, os, ag, w⟩
        first
          | exact wpAny_bind (wpAny_pure (wpAny_bind fin))
          | exact wpAny_bind fin
      | @cons x n c i ts b₀ suite np pos' hds2 l2 hi hln hc hsu r ih =>
        intro w
        obtain ⟨b, hb1, hyes, hno⟩ := w
        have hloc : Loc X.env.scope n := .inl hln
        refine wpAny_handleBy_cons (codeAny_handlers_test ?_) (by intro q; cases q)
        have LT : PySem.W.Looks (model X.prog X.w) h3 (typeOf (.ref a)) cls := fun A Q E s k q => wpAny_typeOf_ref (k _ _ he3) (by rw [hz3.1]; exact q)
        have LM := PySem.W.exm_one (M := model X.prog X.w) (J3.kIn) LT hb1
        have test : ∀ {Q : Value → Shared → Prop} {E : Value → Shared → Prop}, Q c { s' with heap := h3 } → wpAny (model X.prog X.w) (X.A.mark (some (.ref a))) (eval (.Name x np) X.env) Q E { s' with heap := h3 } := fun {Q E} q => by
          obtain ⟨hg, hdbg, hm | ⟨hm, hv, hnn⟩⟩ := hc
          · exact ld_glob (X := X.suite a ((a, oe3) :: (X.pn ++ pins))) S3 hg hm q hdbg
          · exact ld_blt (X := X.suite a ((a, oe3) :: (X.pn ++ pins))) S3 hg hm hv q hnn hdbg
        refine test (LM.here ?_)
        cases b with
        | true =>
          refine codeAny_handlers_suite_as ?_
          refine HandSPX.lands_againZ fl3 fun h4 fl4 up4 => ?_
          have J4 : Inv X pins σ' H' { s' with heap := h4 } := J.landed nb fl4.1 ((up.trans up3).trans up4) os ag
          obtain ⟨oe4, vs4, he4, hz4, hd4⟩ := fl4.there
          have S4 := J4.suite he4 hd4 na nL nF
          refine store_ok (X := X.suite a ((a, oe4) :: (X.pn ++ pins))) (v := .ref a) S4 hN hi hloc rfl (fun s5 S5 => ?_) (.inr hln)
          refine wpAny_mono ((hsu a oe4 cls d (X.pn ++ pins) hz4 ⟨_, hd4⟩).run [] s5 _ H' _ S5 (hyes rfl a na)) (fun f s6 hsp => ?_) (fun _ _ z => False.elim z)
          have end_ : ∀ {σ6 : St} {H6 : Hp} {Q : Shared → Prop}, Inv (X.suite a ((a, oe4) :: (X.pn ++ pins))) [] σ6 H6 s6 → (∀ s7, Inv X pins (σ6.set i none) H6 s7 → Q s7) →
              wpAny (model X.prog X.w) X.A (do bindName X.env n .none; unbindBehindTheSuite X.env n pos') (fun _ s7 => Q s7) X.xe s6 := fun {σ6 H6 Q} S6 hq => gone_ok (S6.unsuite ok) hN hi hln hq
          cases f with
          | next =>
            obtain ⟨σ6, H6, S6, q6⟩ := hsp
            exact end_ S6 fun s7 J7 => ⟨_, _, J7, q6⟩
          | brk =>
            obtain ⟨σ6, H6, S6, q6⟩ := hsp
            exact end_ S6 fun s7 J7 => ⟨_, _, J7, q6⟩
          | cont =>
            obtain ⟨σ6, H6, S6, q6⟩ := hsp
            exact end_ S6 fun s7 J7 => ⟨_, _, J7, q6⟩
          | ret u =>
            obtain ⟨v6, σ6, H6, S6, r6, q6⟩ := hsp
            exact end_ S6 fun s7 J7 => ⟨_, _, _, J7, r6, q6⟩
        | false =>
          show wpAny _ X.A (handleBy (.ref a) X.env hds2) _ _ _
          exact ih (hno rfl)
    exact go hh w
  · cases f with
    | next =>
      obtain ⟨σ', H', J', q⟩ := hsp
      exact wpAny_execs_nil ⟨σ', H', J'.ofTry ok, q⟩
    | brk =>
      obtain ⟨σ', H', J', q⟩ := hsp
      exact ⟨σ', H', J'.ofTry ok, q⟩
    | cont =>
      obtain ⟨σ', H', J', q⟩ := hsp
      exact ⟨σ', H', J'.ofTry ok, q⟩
    | ret u =>
      obtain ⟨v, σ', H', J', r, q⟩ := hsp
      exact ⟨v, σ', H', J'.ofTry ok, r, q⟩
end
end L2
end
section
set_option maxHeartbeats 4000000
namespace PySem.W
open PySem PySem.Spec PySem.Calls PyProof.Rows
abbrev kld_fn (name qual : Str) (params : Arguments) (body : Expr) (scope : Scope) (cl : List (Str × Addr)) (dV pm cdv ct : Value) : FuncData :=
  { name, qualname := qual, params, body := .expr body, scope, globals := mainGlobals, closure := cl, defaults := dV, kwdefaults := .none, doc := .none, pyModule := pm, annotations := none, code := cdv, closureTuple := ct, builtins := builtinsNs }
abbrev kld_obj (name qual : Str) (params : Arguments) (body : Expr) (scope : Scope) (clos : List (Str × Addr)) (dV pm : Value) (c' : Addr) (ctv : Value) : Obj :=
  { cls := .type "function", data := .func (kld_fn name qual params body scope clos dV pm (.ref c') ctv) }
section
variable {M : Model} {A : Around} {E : Value → Shared → Prop} {s : Shared} {name qual : Str} {params : Arguments} {body : Expr} {scope : Scope} {env : Env} {c P : Addr} {ps : Array Value} {pos : Pos} {firstLine : Nat} {mg : Str → Option Value}
  {clos : List (Str × Addr)} {dV : Value} {Q : Value → Shared → Prop}
theorem kld_makeTail (hcl : closureFor scope env = pure clos) (hge0 : env.globals = mainGlobals) (hg : s.heap.Ns mainGlobals mg) (hcode : env.code = .ref c) (C : CodeHd s.heap c P) (hP : s.heap.get? P = some (tabObj ps)) (ht : TriplesOk ps.toList)
    (hnf : codeAmong pos ps.toList = none) (hgP : mainGlobals ≠ P) (hb : s.heap.BuiltinsAt mg P)
    (h : ∀ c' ctv h' tk, Heap.ExtBut P s.heap h' → s.heap.objs.size ≤ c' → c' < h'.objs.size → h'.CodeRec (.ref c') qual → h'.get? P = some (tabObj (ps ++ #[rawInt pos.line, rawInt pos.col, .ref c'])) →
      Q (.ref h'.objs.size) { s with heap := h'.push (kld_obj name qual params body scope clos dV ((mg "__name__").getD .none) c' ctv), toks := tk }) :
    wpAny M A (makeTail name qual params (.expr body) scope env dV .none none pos firstLine) Q E s := by
  obtain ⟨bm, ob, hbm, hne0, _, hneP, hbo, hcls, hdict, hdata⟩ := hb
  unfold makeTail
  rw [hcl, hge0]
  refine wpAny_bind (wpAny_pure ?_)
  cases clos with
  | nil =>
    simp only [List.isEmpty_nil, if_true]
    refine wpAny_bind (wpAny_pure ?_)
    refine wpAny_bind (wpAny_functionCodeX hcode (C.code hP ht) (C.tab hP) hnf fun c' h' tk hx hge hlt _ hrec htb _ => ?_)
    have hg' := hg.extBut hx hgP
    refine wpAny_bind (wpAny_builtinsFor hg' hbm hne0 (hx _ _ hneP hbo) hcls hdict hdata ?_)
    refine wpAny_bind (wpAny_nsGet hg' ?_)
    exact wpAny_bind (wpAny_pure (wpAny_newObj_type (h c' .none h' tk hx hge hlt hrec htb.2) (by size_fits)))
  | cons q r =>
    simp only [List.isEmpty_cons, Bool.false_eq_true, if_false]
    refine wpAny_bind (wpAny_newTextTuple ?_)
    refine wpAny_bind (wpAny_functionCodeX hcode ((C.keeps fun b o e => Heap.get?_push_of_some _ e).code (Heap.get?_push_of_some _ hP) ht) ((C.keeps fun b o e => Heap.get?_push_of_some _ e).tab (Heap.get?_push_of_some _ hP)) hnf fun c' h' tk hx hge hlt _ hrec htb _ => ?_)
    have hg' := (hg.push _).extBut hx hgP
    have hx' : Heap.ExtBut P s.heap h' := fun b o hb' e => hx b o hb' (Heap.get?_push_of_some _ e)
    have hge' : s.heap.objs.size ≤ c' := Nat.le_trans (by rw [Heap.size_push]; omega) hge
    refine wpAny_bind (wpAny_builtinsFor hg' hbm hne0 (hx' _ _ hneP hbo) hcls hdict hdata ?_)
    refine wpAny_bind (wpAny_nsGet hg' ?_)
    exact wpAny_bind (wpAny_pure (wpAny_newObj_type (h c' _ h' tk hx' hge' hlt hrec htb.2) (by size_fits)))
theorem kld_makeTailHit {cv : Value} (hcl : closureFor scope env = pure clos) (hge0 : env.globals = mainGlobals) (hg : s.heap.Ns mainGlobals mg) (hcode : env.code = .ref c) (C : CodeHd s.heap c P) (hP : s.heap.get? P = some (tabObj ps)) (ht : TriplesOk ps.toList)
    (hf : codeAmong pos ps.toList = some cv) (hb : s.heap.BuiltinsAt mg P)
    (h : ∀ (ctv : Value) (h' : Heap) (tk : Tok), (∀ b o, s.heap.get? b = some o → h'.get? b = some o) → s.heap.objs.size ≤ h'.objs.size →
      Q (.ref h'.objs.size) { s with heap := h'.push { cls := .type "function", data := .func (kld_fn name qual params body scope clos dV ((mg "__name__").getD .none) cv ctv) }, toks := tk }) :
    wpAny M A (makeTail name qual params (.expr body) scope env dV .none none pos firstLine) Q E s := by
  obtain ⟨bm, ob, hbm, hne0, _, hneP, hbo, hcls, hdict, hdata⟩ := hb
  unfold makeTail
  rw [hcl, hge0]
  refine wpAny_bind (wpAny_pure ?_)
  cases clos with
  | nil =>
    simp only [List.isEmpty_nil, if_true]
    refine wpAny_bind (wpAny_pure ?_)
    refine wpAny_bind (wpAny_functionCode_hit hcode (C.code hP ht) hf ?_)
    refine wpAny_bind (wpAny_builtinsFor hg hbm hne0 hbo hcls hdict hdata ?_)
    refine wpAny_bind (wpAny_nsGet hg ?_)
    exact wpAny_bind (wpAny_pure (wpAny_newObj_type (h .none s.heap s.toks (fun _ _ e => e) (Nat.le_refl _)) (by size_fits)))
  | cons q r =>
    simp only [List.isEmpty_cons, Bool.false_eq_true, if_false]
    refine wpAny_bind (wpAny_newTextTuple ?_)
    refine wpAny_bind (wpAny_functionCode_hit hcode ((C.keeps fun b o e => Heap.get?_push_of_some _ e).code (Heap.get?_push_of_some _ hP) ht) hf ?_)
    refine wpAny_bind (wpAny_builtinsFor (hg.push _) hbm hne0 (Heap.get?_push_of_some _ hbo) hcls hdict hdata ?_)
    refine wpAny_bind (wpAny_nsGet (hg.push _) ?_)
    have hsz : ∀ oT : Obj, s.heap.objs.size ≤ (s.heap.push oT).objs.size := fun oT => by rw [Heap.size_push]; omega
    exact wpAny_bind (wpAny_pure (wpAny_newObj_type (h _ _ s.toks (fun b o e => Heap.get?_push_of_some _ e) (hsz _)) (by size_fits)))
end
end PySem.W
namespace LamX
open PySem PySem.Spec PyProof.Rows L2
section
variable {X : Cx} {pins : List (Addr × Obj)} {σ : L2.St} {H : Hp} {s : Shared}
/-- the lambda's object is made, its defaults at dV -/
theorem lam_tail {T : List (Addr × Str)} {c P : Addr} {params : Arguments} {body : Expr} {scope : Scope} {pos : Pos} {dV : Value} {E : Value → Shared → Prop} {Q : Value → Shared → Prop} (I : Inv X pins σ H s) (TB : TabB X.base X.mg c P) (hcode : X.env.code = .ref c)
    (hm : (P, X.env.qual ++ "<lambda>") ∈ T) (hu : ∀ p ∈ T, p.1 = P → p.2 = X.env.qual ++ "<lambda>") (hT : Tabs T H) (hfree : ∀ y ∈ scope.names, y.2 = .free → ∃ c, X.env.cells.lookup y.1 = some c)
    (h : ∀ (f c' : Addr) (pm ctv : Value) (H1 : Hp) (s' : Shared), Inv X pins σ H1 s' → ExtN H H1 → Tabs T H1 →
      s'.heap.get? f = some (PySem.W.kld_obj "<lambda>" (X.env.qual ++ "<lambda>") params body scope (cloFrom X.env.cells scope.names []) dV pm c' ctv) → H1 f = none → f ∉ frs X.stack → H1 c' = some (CodeO c' (X.env.qual ++ "<lambda>")) → Q (.ref f) s') :
    wpAny (model X.prog X.w) X.A (makeTail "<lambda>" (X.env.qual ++ "<lambda>") params (.expr body) scope X.env dV .none none pos pos.line) Q E s := by
  obtain ⟨ps, hP, ht, ha⟩ := hT _ hm
  have bP : s.heap.BuiltinsAt X.mg P := TB.bm.keeps I.bk
  have hP' : s.heap.get? P = some { cls := .none, data := .fields ps } := I.hok P _ hP
  have nofr : ∀ f, s.heap.objs.size ≤ f → f ∉ frs X.stack := fun f hf z => by
    rcases List.mem_cons.mp (I.stkSub _ z) with e | e
    · have h1 := I.lt
      rw [← e] at h1
      exact Nat.lt_irrefl _ (Nat.lt_of_lt_of_le h1 hf)
    · exact I.nofs hf e
  cases hc : codeAmong pos ps.toList with
  | none =>
    refine PySem.W.kld_makeTail (mg := X.mg) (c := c) (P := P) (ps := ps) (closure_ok hfree) I.ok.glob (I.mod.glob.keeps I.bk) hcode (TB.code.keeps I.bk) hP' ht hc TB.gP bP fun c' ctv h' tk hx hge hlt hrec htb => ?_
    obtain ⟨c2, oc, vs, t, e2, hoc, hd, hv⟩ := hrec
    cases e2
    have hsz : s.heap.objs.size ≤ h'.objs.size := Nat.le_trans hge (Nat.le_of_lt hlt)
    have nC : H c' = none := I.hok.fresh hge
    have I1 := inv_table (t' := tk) (more := #[rawInt pos.line, rawInt pos.col, .ref c']) (h' := h'.push (PySem.W.kld_obj "<lambda>" (X.env.qual ++ "<lambda>") params body scope (cloFrom X.env.cells scope.names []) dV ((X.mg "__name__").getD .none) c' ctv)) I hP
      (fun b o hb e => Heap.get?_push_of_some _ (hx b o hb e)) (Heap.get?_push_of_some _ htb) hge ⟨oc, vs, t, Heap.get?_push_of_some _ hoc, hd, hv⟩
    have hE : ExtN H (upd (upd H P (.tbl (ps ++ #[rawInt pos.line, rawInt pos.col, .ref c']))) c' (CodeO c' (X.env.qual ++ "<lambda>"))) := fun b o e n => by
      rw [upd_ne (ne_of_none e nC), upd_ne (fun z => n ps (Option.some.inj (e.symm.trans (by rw [z]; exact hP))))]
      exact e
    have eL : (ps ++ #[rawInt pos.line, rawInt pos.col, .ref c']).toList = ps.toList ++ [rawInt pos.line, rawInt pos.col, .ref c'] := by simp
    refine h h'.objs.size c' ((X.mg "__name__").getD .none) ctv _ _ I1 hE (fun p hp => ?_) (Heap.get?_push_size _ rfl) ?_ (nofr _ hsz) upd_same
    · by_cases hb : p.1 = P
      · rw [hu p hp hb, hb]
        refine ⟨_, by rw [upd_ne (ne_of_none hP nC), upd_same], by rw [eL]; exact PySem.TriplesOk_snoc _ _ _ _ ht, fun p' cv hcv => ?_⟩
        rw [eL] at hcv
        rcases among_app _ ht hcv with z | z
        · obtain ⟨c0, e1, e2⟩ := ha p' cv z
          exact ⟨c0, e1, hE _ _ e2 codeO_ne⟩
        · exact ⟨c', z, upd_same⟩
      · obtain ⟨ps', a1, a2, a3⟩ := hT p hp
        refine ⟨ps', by rw [upd_ne (ne_of_none a1 nC), upd_ne hb]; exact a1, a2, fun p' cv hcv => ?_⟩
        obtain ⟨c0, e1, e2⟩ := a3 p' cv hcv
        exact ⟨c0, e1, hE _ _ e2 codeO_ne⟩
    · have n1 : h'.objs.size ≠ c' := Nat.ne_of_gt hlt
      have n2 : h'.objs.size ≠ P := Nat.ne_of_gt (Nat.lt_of_lt_of_le (Heap.lt_size hP') hsz)
      rw [upd_ne n1, upd_ne n2]
      exact I.hok.fresh hsz
  | some cv =>
    obtain ⟨c', e, hco⟩ := ha pos cv hc
    subst e
    refine PySem.W.kld_makeTailHit (mg := X.mg) (c := c) (P := P) (ps := ps) (closure_ok hfree) I.ok.glob (I.mod.glob.keeps I.bk) hcode (TB.code.keeps I.bk) hP' ht hc bP fun ctv h' tk hx hsz => ?_
    have I1 : Inv X pins σ H { s with heap := h'.push (PySem.W.kld_obj "<lambda>" (X.env.qual ++ "<lambda>") params body scope (cloFrom X.env.cells scope.names []) dV ((X.mg "__name__").getD .none) c' ctv), toks := tk } := I.kept fun b o e => Heap.get?_push_of_some _ (hx b o e)
    exact h h'.objs.size c' ((X.mg "__name__").getD .none) ctv H _ I1 (ExtN.refl H) hT (Heap.get?_push_size _ rfl) (I.hok.fresh hsz) (nofr _ hsz) hco
/-- lambda x=k: body -/
theorem lam_makeD {T : List (Addr × Str)} {c P : Addr} {params : Arguments} {body : Expr} {scope : Scope} {pos cp : Pos} {k : Int} {j : Nat} {E : Value → Shared → Prop} {Q : Value → Shared → Prop} (I : Inv X pins σ H s) (TB : TabB X.base X.mg c P) (hcode : X.env.code = .ref c)
    (hm : (P, X.env.qual ++ "<lambda>") ∈ T) (hu : ∀ p ∈ T, p.1 = P → p.2 = X.env.qual ++ "<lambda>") (hT : Tabs T H) (hdef : defaultsOf params X.env = ([eval (.Constant (.int k) j cp) X.env], [])) (hfree : ∀ y ∈ scope.names, y.2 = .free → ∃ c, X.env.cells.lookup y.1 = some c)
    (h : ∀ (f c' tu : Addr) (pm ctv : Value) (H1 : Hp) (s' : Shared), Inv X pins σ H1 s' → ExtN H H1 → Tabs T H1 → H1 tu = some (.tup [.int k]) →
      s'.heap.get? f = some (PySem.W.kld_obj "<lambda>" (X.env.qual ++ "<lambda>") params body scope (cloFrom X.env.cells scope.names []) (.ref tu) pm c' ctv) → H1 f = none → f ∉ frs X.stack → H1 c' = some (CodeO c' (X.env.qual ++ "<lambda>")) → Q (.ref f) s') :
    wpAny (model X.prog X.w) X.A (eval (.Lambda params body scope pos) X.env) Q E s := by
  rw [arm_eval_Lambda, hdef]
  show wpAny _ _ (do let dv ← evalAll [eval (.Constant (.int k) j cp) X.env]; let kdv ← holding dv (evalAllOpt []); makeFunction "<lambda>" (X.env.qual ++ "<lambda>") params (.expr body) scope X.env dv kdv [] pos pos.line) Q E s
  refine wpAny_bind (wpAny_evalAll_cons (thn ((pe_int (X := X) (i := k) (j := j) (pos := cp)).run pins s σ H (fun v H' => v = .int k ∧ H' = H) I ⟨rfl, rfl⟩) fun u s1 ⟨v, H1, I1, r1, e1, e2⟩ => wpAny_evalAll_nil ?_))
  subst e1
  rw [e2] at I1
  refine wpAny_bind (wpAny_holding (wpAny_pure ?_))
  rw [makeFunction_eq]
  simp only [List.zip_nil_right, List.filterMap_nil, List.isEmpty_nil, List.isEmpty_cons, if_true, pure_bind, Bool.false_eq_true, if_false]
  refine wpAny_bind (wpAny_newTextTuple ?_)
  have nt : H s1.heap.objs.size = none := I1.hok.fresh (Nat.le_refl _)
  have I2 : Inv X pins σ (upd H s1.heap.objs.size (.tup [.int k])) { s1 with heap := s1.heap.push { cls := .type "tuple", data := .seq [u].toArray } } :=
    I1.laid (t' := s1.toks) (a := s1.heap.objs.size) (o := .tup [.int k]) (fun b u q => Heap.get?_push_of_some _ q) (Nat.le_refl _) ⟨by show 1 ≤ sizeLine; decide, [u], .cons r1 .nil, _, Heap.get?_push_size _ rfl, rfl, _, rfl⟩
  have eH : ∀ b o, H b = some o → upd H s1.heap.objs.size (.tup [.int k]) b = some o := fun b o e => by rw [upd_ne (ne_of_none e nt)]; exact e
  refine lam_tail I2 TB hcode hm hu (hT.ext eH) hfree fun f c' pm ctv H3 s3 I3 hE hT3 ho hn hfr hc => ?_
  have ht : H3 s1.heap.objs.size = some (.tup [.int k]) := hE _ _ upd_same fun ps z => by cases z
  exact h f c' s1.heap.objs.size pm ctv H3 s3 I3 ((ExtN.of eH).trans hE) hT3 ht ho hn hfr hc
end
end LamX
end
section
set_option maxHeartbeats 4000000
namespace LamX
open PySem PySem.Spec PyProof.Rows L2
/-- one parameter with a default, no further name of its own -/
structure LamD (N : List Str) (sc scope : Scope) (px : Str) : Prop where
  kind : scope.kind = .function
  co : scope.isCoroutine = false
  gen : scope.isGenerator = false
  own : ∀ y ∈ scope.names, y.2 ≠ .cell ∧ (y.2 = .local → y.1 ∉ N)
  par : scope.names.lookup px = some .local
  free : ∀ y ∈ scope.names, y.2 = .free → sc.names.lookup y.1 = some .cell ∨ sc.names.lookup y.1 = some .free
def lamDB (N : List Str) (sc scope : Scope) (px : Str) : Bool :=
  decide (scope.kind = .function) && (!scope.isCoroutine && (!scope.isGenerator && (decide (scope.names.lookup px = some .local) &&
    scope.names.all fun y => !decide (y.2 = .cell) && ((!decide (y.2 = .local) || !N.contains y.1) && (!decide (y.2 = .free) || decide (sc.names.lookup y.1 = some .cell) || decide (sc.names.lookup y.1 = some .free))))))
theorem lamD_by {N : List Str} {sc scope : Scope} {px : Str} (h : lamDB N sc scope px = true) : LamD N sc scope px := by
  unfold lamDB at h
  simp only [Bool.and_eq_true, Bool.or_eq_true, Bool.not_eq_true', decide_eq_true_eq, decide_eq_false_iff_not, List.all_eq_true] at h
  obtain ⟨h1, h2, h3, h4, h5⟩ := h
  refine ⟨h1, h2, h3, fun y hy => ⟨(h5 y hy).1, fun e => ?_⟩, h4, fun y hy e => ?_⟩
  · rcases (h5 y hy).2.1 with z | z
    · exact absurd e z
    · intro m
      rw [List.contains_iff_mem.mpr m] at z
      cases z
  · rcases (h5 y hy).2.2 with (z | z) | z
    · exact absurd e z
    · exact .inl z
    · exact .inr z
theorem LamD.has {X : Cx} {scope : Scope} {px : Str} (L : LamD X.N X.env.scope scope px) (ok : X.Ok) : ∀ y ∈ scope.names, y.2 = .free → ∃ c, X.env.cells.lookup y.1 = some c := fun y hy e => by
  rcases L.free y hy e with k | k
  · exact ok.has _ (.inl k)
  · exact ok.has _ (.inr k)
section
variable {X : Cx} {pins : List (Addr × Obj)} {σ : L2.St} {H HZ : Hp} {s s1 : Shared}
theorem lam_startD {A : Around} {outer : List Env} {E : XK} {scope : Scope} {px : Str} {u : Value} {f c' : Addr} {h₁ : Heap} {tk : Nat} (I : Inv X pins σ H s) (L : LamD X.N X.env.scope scope px) (e0 : Env0 X.prog X.w X.K X.mg X.base A outer s1 HZ) (hd : A.handled = none)
    (un : Un (frs X.stack) [] H HZ s.heap s1.heap) (hns : h₁.Ns s1.heap.objs.size fun y => ([(px, u)] : List (Str × Value)).reverse.lookup y) (kp : ∀ b o, s1.heap.get? b = some o → h₁.get? b = some o) :
    Inv (lamCx X A outer s1 HZ E scope f c') [] σ HZ { s1 with heap := h₁, toks := tk } := by
  have hfree := L.has I.ok
  have cm : ∀ {y c}, (cloFrom X.env.cells scope.names []).lookup y = some c → X.env.cells.lookup y = some c := fun {y c} e => by
    rcases cloFrom_mem (PySem.mem_of_lookup e) with hm | ⟨h1, h2⟩
    · cases hm
    · obtain ⟨c1, hc⟩ := hfree _ h1 rfl
      have hc : X.env.cells.lookup y = some c1 := hc
      have e2 : c = c1 := by
        rw [h2, hc] <;> rfl
      rw [e2]
      exact hc
  have look : ∀ {y}, scope.names.lookup y = some .free → ∃ c, (cloFrom X.env.cells scope.names []).lookup y = some c := fun {y} hl => by
    have hy : (y, NameKind.free) ∈ scope.names := PySem.mem_of_lookup hl
    exact mem_lookup (cloFrom_has (cells := X.env.cells) (acc := []) hy)
  have cellK : ∀ {c : Addr} {v : Option Value}, H c = none → s.heap.IsCell c v → h₁.IsCell c v := fun {c v} n ⟨o, ho, hd⟩ => by
    obtain ⟨sl, q⟩ := un.any ho n (by simp)
    exact ⟨_, kp _ _ q, hd⟩
  have noA : ∀ b : Addr, b ∉ (lamCx X A outer s1 HZ E scope f c').ex := fun b z => absurd (show b ∈ ([] : List Addr) from z) (by simp)
  refine ⟨⟨e0.mod, L.kind, rfl, rfl, Nat.le_refl _, fun y z c e1 e2 => I.ok.inj y z c (cm e1) (cm e2), fun y hy => ?_, fun y c z _ => ?_, fun _ => hd, Around.frames_deeper e0.frames, .inr ⟨rfl, rfl⟩, fun b z => absurd z (noA b), e0.bs, e0.bsz, fun b _ _ => noA b,
      fun b z => absurd z (noA b), e0.funs, e0.frf⟩,
    rfl, e0.bare, Un.kept kp, ⟨_, hns, fun i y v e1 e2 e3 => ?_⟩, fun y c e => ?_, e0.hok.fresh (Nat.le_refl _), fun y c e => ?_, fun q hq => absurd (show q ∈ ([] : List (Addr × Obj)) ++ [] from hq) (by simp), e0.hok.kept kp, I.len⟩
  · have hy : scope.names.lookup y = some .cell ∨ scope.names.lookup y = some .free := hy
    rcases hy with hy | hy
    · exact absurd rfl (L.own _ (PySem.mem_of_lookup hy)).1
    · exact look hy
  · have z : false = true := z
    cases z
  · have e3 : Vis scope y := e3
    rcases e3 with k | k | k
    · exact absurd (List.mem_of_getElem? (show X.N[i]? = some y from e1)) ((L.own _ (PySem.mem_of_lookup k)).2 rfl)
    · exact absurd rfl (L.own _ (PySem.mem_of_lookup k)).1
    · obtain ⟨m, hn, hl⟩ := I.loc
      have hvis : Vis X.env.scope y := (L.free _ (PySem.mem_of_lookup k) rfl).elim (fun k => .inr (.inl k)) (fun k => .inr (.inr k))
      obtain ⟨w', r, q⟩ := hl i y v e1 e2 hvis
      obtain ⟨c2, h2⟩ := look k
      refine ⟨w', r, .inr ⟨.inr k, c2, h2, ?_⟩⟩
      have c1 := cm h2
      rcases q with ⟨k', _⟩ | ⟨_, c3, e', z⟩
      · have k' : X.env.scope.names.lookup y = some .local := k'
        rcases L.free _ (PySem.mem_of_lookup k) rfl with k2 | k2 <;> rw [show X.env.scope.names.lookup y = _ from k2] at k' <;> cases k'
      · rw [c1] at e'
        cases e'
        exact cellK (I.freeC y _ c1) z
  · obtain ⟨w', z⟩ := I.cell y c (cm e)
    exact ⟨w', cellK (I.freeC y c (cm e)) z⟩
  · obtain ⟨v, o, ho, hd⟩ := I.cell y c (cm e)
    exact un.free c o ho (I.freeC y c (cm e)) (by simp)
/-- x(), in the def that got the lambda -/
theorem pe_actD {CXg : CXT} {Eg : XK} {Ng : List Str} {qg : Str} {sg : Scope} {g f c' tu : Addr} {px : Str} {kd : Int} {cdg pm ctv : Value} {params : Arguments} {body : Expr} {scope : Scope} {k i : Nat} {a : Str} {pn : List (Addr × Obj)} {xe : Value → Shared → Prop} {W : WX} {E : XK} {tb : TE} {p1 p2 : Pos}
    (I : Inv X pins σ H s) (L : LamD X.N X.env.scope scope px) (hf : s.heap.get? f = some (PySem.W.kld_obj "<lambda>" (X.env.qual ++ "<lambda>") params body scope (cloFrom X.env.cells scope.names []) (.ref tu) pm c' ctv)) (hfn : H f = none) (hfr : f ∉ frs X.stack)
    (hbind : ∀ u : Value, ∃ kf, bindArgs (PySem.W.kld_fn "<lambda>" (X.env.qual ++ "<lambda>") params body scope (cloFrom X.env.cells scope.names []) (.ref tu) pm (.ref c') ctv) ⟨[], []⟩ = seqItems? (.ref tu) >>= kf ∧ kf (some #[u]) = pure [(px, u)])
    (tk : Takes ((cxOf CXg X.prog X.w X.K X.mg X.base Ng qg sg g cdg X.A X.stack s H Eg).tr pn xe) W) (hW : ∀ cls d σ' H', E cls d H' → W cls d σ' H') (hr : Room (k + 1) (X.A.deeper (envOfC qg sg s.heap.objs.size g cdg)))
    (hbody : ∀ (A : Around) (outer : List Env) (s : Shared) (H : Hp), Room k (A.deeper (lamEnv X scope s.heap.objs.size f c')) → PE (lamCx X A outer s H E scope f c') body tb)
    (hN : Ng[i]? = some a) (hv : Vis sg a) (hd : (a == ("__debug__" : Str)) = false := by decide) (hcd : (a == ("__classdict__" : Str)) = false := by decide) :
    PE ((cxOf CXg X.prog X.w X.K X.mg X.base Ng qg sg g cdg X.A X.stack s H Eg).tr pn xe) (.Call (.Name a p1) [] [] p2)
      (fun σZ HZ Q => σZ[i]? = some (some (.ref f)) ∧ HZ c' = some (CodeO c' (X.env.qual ++ "<lambda>")) ∧ (HZ tu = some (.tup [.int kd]) ∧ tb σ HZ Q)) := by
  refine ⟨fun pinsZ sZ σZ HZ Q IZ h => ?_⟩
  obtain ⟨hs, hc, htu, ht⟩ := h
  refine wpAny_Call_Name_kw (thn ((pe_var (pos := p1) (i := i) hN hv hd hcd).run pinsZ sZ σZ HZ (fun v H1 => v = .ref f ∧ H1 = HZ) IZ ⟨.ref f, hs, rfl, rfl⟩) fun u s1 ⟨v, H1, I1, r1, q1⟩ => ?_)
  obtain ⟨ev, eH⟩ := q1
  subst ev
  rw [eH] at I1
  obtain rfl : u = Value.ref f := r1
  have of1 : s1.heap.get? f = some (PySem.W.kld_obj "<lambda>" (X.env.qual ++ "<lambda>") params body scope (cloFrom X.env.cells scope.names []) (.ref tu) pm c' ctv) := I1.base.keep f _ hf hfn hfr (fun z => nomatch (show f ∈ ([] : List Addr) from z))
  refine PySem.W.callWith_F0 ⟨_, _, _, _, of1⟩ ?_
  have un : Un (frs X.stack) [] H HZ s.heap s1.heap := I1.base
  obtain ⟨⟨oc, vs, t, hoc, hdc, hvc⟩, _, _⟩ := I1.hok c' _ hc
  have rc : codeAny (model X.prog X.w) (X.A.deeper (envOfC qg sg s.heap.objs.size g cdg)) (.call (.ref f) ⟨[], []⟩) (CR (L2.CX X.prog X.w) (envOfC qg sg s.heap.objs.size g cdg :: X.stack) X.prog X.w HZ s1 Q E) s1 := by
    refine PySem.W.kla_callFunE hr.depth of1 rfl L.co L.gen rfl ⟨c', oc, vs, t, rfl, hoc, hdc, hvc⟩ ?_
    obtain ⟨its, rv, hT, hz⟩ := I1.tuple (SqT.of htu)
    obtain ⟨ot, hot, _, n, hdt⟩ := hT
    cases rv with
    | @cons _ u _ us ru rn =>
      cases rn
      obtain ⟨kf, hb1, hb2⟩ := hbind u
      refine BindsTo.of_defaults (fd := PySem.W.kld_fn "<lambda>" (X.env.qual ++ "<lambda>") params body scope (cloFrom X.env.cells scope.names []) (.ref tu) pm (.ref c') ctv) (args := ⟨[], []⟩) (o := ot) (items := #[u]) rfl hot hdt hb1 hb2 _ _ _ _ ?_
      refine wpAny_newFunctionEnv (fun y hy => (L.own y hy).1) (fun y hy => ?_) (fun h₁ hns hsb => ⟨I1.nolimit.fresh _ hsb, ?_⟩) L.kind
      · rw [List.mem_singleton.mp hy]
        exact L.par
      show codeAny _ _ (.expr body (lamEnv X scope s1.heap.objs.size f c')) _ _
      have kp : ∀ b o, s1.heap.get? b = some o → h₁.get? b = some o := fun b o e => hsb.extBut b o (Nat.ne_of_lt (Heap.lt_size e)) (Heap.get?_push_of_some _ e)
      have J : Inv (lamCx X (X.A.deeper (envOfC qg sg s.heap.objs.size g cdg)) (envOfC qg sg s.heap.objs.size g cdg :: X.stack) s1 HZ E scope f c') [] σ HZ { s1 with heap := h₁, toks := s1.toks + ([(px, u)] : List (Str × Value)).length } :=
        lam_startD I L I1.env0 hr.hd un hns kp
      refine PySem.W.kla_codeExpr (wpAny_mono ((hbody _ _ s1 HZ (hr.deeper _)).run [] _ _ HZ Q J ht) (fun v s' hq => ?_) fun e s' hq => hq)
      obtain ⟨w', H', J', rv, q⟩ := hq
      exact ⟨w', H', J'.os, J'.bare, J'.base, J'.hok, rv, q⟩
  have hx : Passes (L2.CX X.prog X.w) ((cxOf CXg X.prog X.w X.K X.mg X.base Ng qg sg g cdg X.A X.stack s H Eg).tr pn xe) E := passes_call tk hW
  refine wpAny_call (codeAny_mono rc fun r s' hq => ?_)
  cases r with
  | error e => exact hx pinsZ σZ HZ s1 e s' I1 hq
  | ok fl =>
    cases fl with
    | ret u => exact I1.after hq
    | next => exact False.elim hq
    | brk => exact False.elim hq
    | cont => exact False.elim hq
end
/-- x(lambda y=k: body): T's tables, the tuple of the default -/
def tLamD (T : List (Addr × Str)) (kd : Int) (TT : (XK → Hp → VK → Prop) → Hp → VK → Prop) (t : XK → TE) : TE := fun σ H Q => Tabs T H ∧ ∀ H1 tu, ExtN H H1 → Tabs T H1 → H1 tu = some (.tup [.int kd]) → TT (fun E H' Q' => H' tu = some (.tup [.int kd]) ∧ t E σ H' Q') H1 Q
section
variable {X : Cx}
theorem pe_lamcallD {T : List (Addr × Str)} {TT : (XK → Hp → VK → Prop) → Hp → VK → Prop} {x a px : Str} {g c P : Addr} {k j : Nat} {kd : Int} {pg : Arguments} {bg : List Stmt} {sg : Scope} {dV kV doc pm cdv ct oc : Value} {an od : Option Addr} {osl : Array (Option Value)} {Ng : List Str}
    {params : Arguments} {body : Expr} {scope : Scope} {t : XK → TE} {p lpos cp pos : Pos} (hg : Gl X x) (hm : X.mg x = some (.ref g)) (hk : PySem.W.keepIn X.K (.ref g) = true)
    (lk : X.K.lookup g = some ⟨oc, od, .func (PySem.W.fnOf x x pg bg sg dV kV doc pm an cdv ct), osl⟩) (hcg : PySem.W.codeIn X.K cdv x = true) (hb : L2.Binds X.K (PySem.W.fnOf x x pg bg sg dV kV doc pm an cdv ct) [a] []) (Sg : FnScope Ng [a] sg) (hNg : Ng[0]? = some a) (hva : Vis sg a)
    (hG : GivesTo X Ng x sg g cdv bg a (X.env.qual ++ "<lambda>") TT)
    (TB : TabB X.base X.mg c P) (hcode : X.env.code = .ref c) (hmT : (P, X.env.qual ++ "<lambda>") ∈ T) (hu : ∀ p ∈ T, p.1 = P → p.2 = X.env.qual ++ "<lambda>") (hr : Room (k + 2) X.A) (L : LamD X.N X.env.scope scope px) (hdef : defaultsOf params X.env = ([eval (.Constant (.int kd) j cp) X.env], []))
    (hbind : ∀ (q : Str) (cl : List (Str × Addr)) (tu : Addr) (pm cv ctv u : Value), ∃ kf, bindArgs (PySem.W.kld_fn "<lambda>" q params body scope cl (.ref tu) pm cv ctv) ⟨[], []⟩ = seqItems? (.ref tu) >>= kf ∧ kf (some #[u]) = pure [(px, u)])
    (hbody : ∀ (A : Around) (outer : List Env) (s : Shared) (H : Hp) (E : XK) (f c' : Addr), Room k (A.deeper (lamEnv X scope s.heap.objs.size f c')) → PE (lamCx X A outer s H E scope f c') body (t E))
    (hdb : (x == ("__debug__" : Str)) = false := by decide) (hd : (a == ("__debug__" : Str)) = false := by decide) (hcd : (a == ("__classdict__" : Str)) = false := by decide) :
    PE X (.Call (.Name x p) [.Lambda params body scope lpos] [] pos) (tLamD T kd TT t) := by
  refine ⟨fun pins s σ H Q I h => ?_⟩
  obtain ⟨hT, h⟩ := h
  refine wpAny_Call_Name_kw (ld_glob I hg hm ?_ hdb)
  refine PySem.W.callWith_K (h₀ := X.base) I.ok.mod.kin hk ?_ (by rfl) (by rfl)
  show wpAny _ _ (spliced ((false, eval (.Lambda params body scope lpos) X.env) :: backTo pos (starEach [] X.env))) _ _ s
  refine Calls.spliced_cons (lam_makeD I TB hcode hmT hu hT hdef (L.has I.ok) fun f c' tu pm' ctv H1 s' I1 eN T1 htu hf hfn hfr hco => ?_)
  refine Calls.spliced_nil ⟨I1.kIn, ?_⟩
  have rc : codeAny (model X.prog X.w) X.A (.call (.ref g) ⟨[.ref f], []⟩) (CR C8.CX0 X.stack X.prog X.w H1 s' Q C8.E0) s' := by
    refine run_ofS (N := Ng) (ps := [a]) (us := [.ref f]) (vs := [.ref f]) lk hcg Sg hr I1.env0 (hb s' [.ref f] I1.kIn rfl) (.cons rfl .nil) rfl fun hr' => ?_
    obtain ⟨t', ht', hq'⟩ := hG f c' s' H1 Q (fun E H' Q' => H' tu = some (.tup [.int kd]) ∧ t E σ H' Q') (fun W pn xe E p1 p2 tk hW => pe_actD (i := 0) I1 L hf hfn hfr (fun u => hbind _ _ _ _ _ _ u) tk hW hr' (fun A outer s H hr2 => hbody A outer s H E f c' hr2) hNg hva hd hcd) hco (h H1 tu eN T1 htu)
    exact ⟨t', ht'.nox, hq'⟩
  refine wpAny_call (codeAny_mono rc fun r s2 hq => ?_)
  cases r with
  | error e => exact (show False from hq).elim
  | ok fl =>
    cases fl with
    | ret u => exact I1.after hq
    | next => exact False.elim hq
    | brk => exact False.elim hq
    | cont => exact False.elim hq
end
end LamX
end
section
set_option maxHeartbeats 4000000
namespace Kx
open PySem PySem.Spec PyProof.Rows L2
/-! ### the errors -/
/-- what an own __init__ of n parameters leaves: fs of the values -/
def spIn (C : Addr) (n : Nat) (fs : List V → List (Str × V)) : Sp := fun vs H Q _ => ∃ (a : Addr) (ws : List V), vs = .ref a :: ws ∧ ws.length = n ∧ H a = some (exo a C none) ∧
  ∀ e H', e ≠ a → H e = none → H' a = some (exo a C (some e)) → H' e = some (exd e (fs ws)) → free3 H H' a e → Q .non H'
/-- one value -/
def fs1 (nm at_ : Str) (ws : List V) : List (Str × V) := match ws with
  | [v] => [(at_, v), ("code", .str nm)]
  | _ => []
/-- two values -/
def fs2 (nm at1 at2 : Str) (ws : List V) : List (Str × V) := match ws with
  | [v, u] => [(at2, u), (at1, v), ("code", .str nm)]
  | _ => []
/-- what stands of such a class: it may be made, its __init__ keeps its promise -/
structure ErrC (P : Program) (w : World) (K : PySem.W.Frag) (mg : Str → Option Value) (base : Heap) (nm : Str) (n : Nat) (fs : List V → List (Str × V)) (C : Addr) : Prop where
  T : XC K C
  ty : PySem.W.typeIn K (.ref C) = some (.type "type")
  m : mg nm = some (.ref C)
  i : ∃ (fI : Addr) (fd : FuncData) (ps : List Str), PySem.W.findIn K (.ref C) "__init__" = some (some (.ref fI)) ∧ PySem.W.isFn K (.ref fI) = true ∧ FnOk P w K mg base CX0 1 fI fd ps (spIn C n fs) ∧ Binds K fd ps []
/-- such an error is in the air -/
def Air (H : Hp) (C : Addr) (fs : List (Str × V)) (E : XK) : Prop := ∀ d H', Same H H' → H d = none → H' d = some (.xd fs) → E (.ref C) (some d) H'
theorem Air.same {H H' : Hp} {C : Addr} {fs : List (Str × V)} {E : XK} (h : Air H C fs E) (s : Same H H') : Air H' C fs E := fun d H2 s2 n e => h d H2 (s.trans s2) (s.free n) e
/-- one is made: from the promise of its __init__ -/
theorem air_of {H : Hp} {a C : Addr} {n : Nat} {fs : List V → List (Str × V)} {ws : List V} {E : XK} (hn : H a = none) (l : ws.length = n) (h : Air H C (fs ws) E) :
    spIn C n fs (.ref a :: (ws ++ [])) (upd H a (exo a C none)) (fun v H2 => v = .non ∧ ∃ (d : Addr) (gs : List (Str × V)), H2 a = some (exo a C (some d)) ∧ H2 d = some (exd d gs) ∧ H d = none ∧ E (.ref C) (some d) (upd (del H2 a) d (.xd gs))) (fun _ _ _ => False) := by
  refine ⟨a, ws, by rw [List.append_nil], l, upd_same, fun e H' ne he h1 h2 h3 => ⟨rfl, e, _, h1, h2, ?_, ?_⟩⟩
  · rw [upd_ne ne] at he
    exact he
  · have he' : H e = none := by rw [upd_ne ne] at he; exact he
    refine h e _ (fun b o hb => ?_) he' upd_same
    have b1 : b ≠ a := fun z => by rw [z, hn] at hb; cases hb
    have b2 : b ≠ e := fun z => by rw [z, he'] at hb; cases hb
    rw [upd_ne b2, del_ne b1, h3 b b1 b2, upd_ne b1]
    exact hb
section
variable {P : Program} {w : World} {K : PySem.W.Frag} {mg : Str → Option Value} {base : Heap} {f C : Addr} {fd : FuncData}
theorem scI1 : FnScope ["self", "value"] ["self", "value"] (defScope C_InvalidNumber_init) := ⟨rfl, rfl, rfl, by decide +kernel, rfl, by decide +kernel, by decide +kernel⟩
theorem scI2 : FnScope ["self", "at"] ["self", "at"] (defScope C_InvalidFraction_init) := ⟨rfl, rfl, rfl, by decide +kernel, rfl, by decide +kernel, by decide +kernel⟩
theorem scI3 : FnScope ["self", "value"] ["self", "value"] (defScope C_InvalidOrder_init) := ⟨rfl, rfl, rfl, by decide +kernel, rfl, by decide +kernel, by decide +kernel⟩
theorem scI4 : FnScope ["self", "have", "wanted"] ["self", "have", "wanted"] (defScope C_OrderTooLow_init) := ⟨rfl, rfl, rfl, by decide +kernel, rfl, by decide +kernel, by decide +kernel⟩
theorem scI5 : FnScope ["self", "one", "other"] ["self", "one", "other"] (defScope C_UnlikeOrders_init) := ⟨rfl, rfl, rfl, by decide +kernel, rfl, by decide +kernel, by decide +kernel⟩
theorem scI6 : FnScope ["self", "value"] ["self", "value"] (defScope C_InvalidPlace_init) := ⟨rfl, rfl, rfl, by decide +kernel, rfl, by decide +kernel, by decide +kernel⟩
theorem init_1 (F : Fun K "__init__" "InvalidNumber.__init__" C_InvalidNumber_init f fd) (T : XC K C) (n0 : PySem.W.findIn K (.ref C) "code" = some none) (n1 : PySem.W.findIn K (.ref C) "value" = some none) : FnOk P w K mg base CX0 1 f fd ["self", "value"] (spIn C 1 (fs1 "InvalidNumber" "value")) := by
  refine F.ok scI1 (fun vs H Q E h => ?_) (fun cdv A outer s H vs Q E hr h => ?_)
  · obtain ⟨a, ws, rfl, l, _⟩ := h
    exact congrArg Nat.succ l
  obtain ⟨a, ws, rfl, l, ha, q⟩ := h
  obtain ⟨v, rfl⟩ : ∃ v, ws = [v] := by match ws, l with | [v], _ => exact ⟨v, rfl⟩
  refine ⟨_, pss_cons (ps_xst (pv 0) pe_str) (pss_one (ps_xst (pv 0) (pv 1))), ?_⟩
  refine ⟨_, rfl, a, _, rfl, T, n0, .inl ⟨ha, fun e H1 ne he h1 h2 h3 => ?_⟩⟩
  refine ⟨_, rfl, _, rfl, a, _, rfl, T, n1, .inr ⟨e, _, h1, h2, (by show 1 ≤ 900; decide), ?_⟩⟩
  exact q e _ ne he (by rw [upd_ne (Ne.symm ne)]; exact h1) (by rw [upd_same]; rfl) (fun b b1 b2 => by rw [upd_ne b2]; exact h3 b b1 b2)
theorem init_2 (F : Fun K "__init__" "InvalidFraction.__init__" C_InvalidFraction_init f fd) (T : XC K C) (n0 : PySem.W.findIn K (.ref C) "code" = some none) (n1 : PySem.W.findIn K (.ref C) "at" = some none) : FnOk P w K mg base CX0 1 f fd ["self", "at"] (spIn C 1 (fs1 "InvalidFraction" "at")) := by
  refine F.ok scI2 (fun vs H Q E h => ?_) (fun cdv A outer s H vs Q E hr h => ?_)
  · obtain ⟨a, ws, rfl, l, _⟩ := h
    exact congrArg Nat.succ l
  obtain ⟨a, ws, rfl, l, ha, q⟩ := h
  obtain ⟨v, rfl⟩ : ∃ v, ws = [v] := by match ws, l with | [v], _ => exact ⟨v, rfl⟩
  refine ⟨_, pss_cons (ps_xst (pv 0) pe_str) (pss_one (ps_xst (pv 0) (pv 1))), ?_⟩
  refine ⟨_, rfl, a, _, rfl, T, n0, .inl ⟨ha, fun e H1 ne he h1 h2 h3 => ?_⟩⟩
  refine ⟨_, rfl, _, rfl, a, _, rfl, T, n1, .inr ⟨e, _, h1, h2, (by show 1 ≤ 900; decide), ?_⟩⟩
  exact q e _ ne he (by rw [upd_ne (Ne.symm ne)]; exact h1) (by rw [upd_same]; rfl) (fun b b1 b2 => by rw [upd_ne b2]; exact h3 b b1 b2)
theorem init_3 (F : Fun K "__init__" "InvalidOrder.__init__" C_InvalidOrder_init f fd) (T : XC K C) (n0 : PySem.W.findIn K (.ref C) "code" = some none) (n1 : PySem.W.findIn K (.ref C) "value" = some none) : FnOk P w K mg base CX0 1 f fd ["self", "value"] (spIn C 1 (fs1 "InvalidOrder" "value")) := by
  refine F.ok scI3 (fun vs H Q E h => ?_) (fun cdv A outer s H vs Q E hr h => ?_)
  · obtain ⟨a, ws, rfl, l, _⟩ := h
    exact congrArg Nat.succ l
  obtain ⟨a, ws, rfl, l, ha, q⟩ := h
  obtain ⟨v, rfl⟩ : ∃ v, ws = [v] := by match ws, l with | [v], _ => exact ⟨v, rfl⟩
  refine ⟨_, pss_cons (ps_xst (pv 0) pe_str) (pss_one (ps_xst (pv 0) (pv 1))), ?_⟩
  refine ⟨_, rfl, a, _, rfl, T, n0, .inl ⟨ha, fun e H1 ne he h1 h2 h3 => ?_⟩⟩
  refine ⟨_, rfl, _, rfl, a, _, rfl, T, n1, .inr ⟨e, _, h1, h2, (by show 1 ≤ 900; decide), ?_⟩⟩
  exact q e _ ne he (by rw [upd_ne (Ne.symm ne)]; exact h1) (by rw [upd_same]; rfl) (fun b b1 b2 => by rw [upd_ne b2]; exact h3 b b1 b2)
theorem init_6 (F : Fun K "__init__" "InvalidPlace.__init__" C_InvalidPlace_init f fd) (T : XC K C) (n0 : PySem.W.findIn K (.ref C) "code" = some none) (n1 : PySem.W.findIn K (.ref C) "value" = some none) : FnOk P w K mg base CX0 1 f fd ["self", "value"] (spIn C 1 (fs1 "InvalidPlace" "value")) := by
  refine F.ok scI6 (fun vs H Q E h => ?_) (fun cdv A outer s H vs Q E hr h => ?_)
  · obtain ⟨a, ws, rfl, l, _⟩ := h
    exact congrArg Nat.succ l
  obtain ⟨a, ws, rfl, l, ha, q⟩ := h
  obtain ⟨v, rfl⟩ : ∃ v, ws = [v] := by match ws, l with | [v], _ => exact ⟨v, rfl⟩
  refine ⟨_, pss_cons (ps_xst (pv 0) pe_str) (pss_one (ps_xst (pv 0) (pv 1))), ?_⟩
  refine ⟨_, rfl, a, _, rfl, T, n0, .inl ⟨ha, fun e H1 ne he h1 h2 h3 => ?_⟩⟩
  refine ⟨_, rfl, _, rfl, a, _, rfl, T, n1, .inr ⟨e, _, h1, h2, (by show 1 ≤ 900; decide), ?_⟩⟩
  exact q e _ ne he (by rw [upd_ne (Ne.symm ne)]; exact h1) (by rw [upd_same]; rfl) (fun b b1 b2 => by rw [upd_ne b2]; exact h3 b b1 b2)
theorem init_4 (F : Fun K "__init__" "OrderTooLow.__init__" C_OrderTooLow_init f fd) (T : XC K C) (n0 : PySem.W.findIn K (.ref C) "code" = some none) (n1 : PySem.W.findIn K (.ref C) "have" = some none) (n2 : PySem.W.findIn K (.ref C) "wanted" = some none) : FnOk P w K mg base CX0 1 f fd ["self", "have", "wanted"] (spIn C 2 (fs2 "OrderTooLow" "have" "wanted")) := by
  refine F.ok scI4 (fun vs H Q E h => ?_) (fun cdv A outer s H vs Q E hr h => ?_)
  · obtain ⟨a, ws, rfl, l, _⟩ := h
    exact congrArg Nat.succ l
  obtain ⟨a, ws, rfl, l, ha, q⟩ := h
  obtain ⟨v, u, rfl⟩ : ∃ v u, ws = [v, u] := by match ws, l with | [v, u], _ => exact ⟨v, u, rfl⟩
  refine ⟨_, pss_cons (ps_xst (pv 0) pe_str) (pss_cons (ps_xst (pv 0) (pv 1)) (pss_one (ps_xst (pv 0) (pv 2)))), ?_⟩
  refine ⟨_, rfl, a, _, rfl, T, n0, .inl ⟨ha, fun e H1 ne he h1 h2 h3 => ?_⟩⟩
  refine ⟨_, rfl, _, rfl, a, _, rfl, T, n1, .inr ⟨e, _, h1, h2, (by show 1 ≤ 900; decide), ?_⟩⟩
  refine ⟨_, rfl, _, rfl, a, _, rfl, T, n2, .inr ⟨e, _, (by rw [upd_ne (Ne.symm ne)]; exact h1), upd_same, (by show 2 ≤ 900; decide), ?_⟩⟩
  exact q e _ ne he (by rw [upd_ne (Ne.symm ne), upd_ne (Ne.symm ne)]; exact h1) (by rw [upd_same]; rfl) (fun b b1 b2 => by rw [upd_ne b2, upd_ne b2]; exact h3 b b1 b2)
theorem init_5 (F : Fun K "__init__" "UnlikeOrders.__init__" C_UnlikeOrders_init f fd) (T : XC K C) (n0 : PySem.W.findIn K (.ref C) "code" = some none) (n1 : PySem.W.findIn K (.ref C) "one" = some none) (n2 : PySem.W.findIn K (.ref C) "other" = some none) : FnOk P w K mg base CX0 1 f fd ["self", "one", "other"] (spIn C 2 (fs2 "UnlikeOrders" "one" "other")) := by
  refine F.ok scI5 (fun vs H Q E h => ?_) (fun cdv A outer s H vs Q E hr h => ?_)
  · obtain ⟨a, ws, rfl, l, _⟩ := h
    exact congrArg Nat.succ l
  obtain ⟨a, ws, rfl, l, ha, q⟩ := h
  obtain ⟨v, u, rfl⟩ : ∃ v u, ws = [v, u] := by match ws, l with | [v, u], _ => exact ⟨v, u, rfl⟩
  refine ⟨_, pss_cons (ps_xst (pv 0) pe_str) (pss_cons (ps_xst (pv 0) (pv 1)) (pss_one (ps_xst (pv 0) (pv 2)))), ?_⟩
  refine ⟨_, rfl, a, _, rfl, T, n0, .inl ⟨ha, fun e H1 ne he h1 h2 h3 => ?_⟩⟩
  refine ⟨_, rfl, _, rfl, a, _, rfl, T, n1, .inr ⟨e, _, h1, h2, (by show 1 ≤ 900; decide), ?_⟩⟩
  refine ⟨_, rfl, _, rfl, a, _, rfl, T, n2, .inr ⟨e, _, (by rw [upd_ne (Ne.symm ne)]; exact h1), upd_same, (by show 2 ≤ 900; decide), ?_⟩⟩
  exact q e _ ne he (by rw [upd_ne (Ne.symm ne), upd_ne (Ne.symm ne)]; exact h1) (by rw [upd_same]; rfl) (fun b b1 b2 => by rw [upd_ne b2, upd_ne b2]; exact h3 b b1 b2)
end
end Kx
end
section
set_option maxHeartbeats 4000000
/-! enumerate over a tuple -/
namespace PySem
open Sem (wp)
open AutoSeq1 (wpAny_loadPart')
theorem meets_enumerate_newT (l : Addr) (items : Array Value) (n : Nat) (dct : Option Addr) (sl : Array (Option Value)) :
    Meets (Builtin.«enumerate.__new__» ⟨[.type "enumerate", .ref l], []⟩) (fun _ R s => s.heap.get? l = some { cls := .type "tuple", dict := dct, data := .seq items n, slots := sl } ∧
      R (.ok (.ret (.ref (s.heap.push { cls := .type "tuple_iterator", data := .fields #[.ref l, .int 0 0] }).objs.size)))
        { s with heap := (s.heap.push { cls := .type "tuple_iterator", data := .fields #[.ref l, .int 0 0] }).push { cls := .type "enumerate", data := .fields #[.none, .bool false, .ref s.heap.objs.size, rawInt 0, .none, .none] } }) :=
  .of_wp fun prog w A R s h => by
    obtain ⟨hp, g, d, tk, os⟩ := s; obtain ⟨hl, h⟩ := h
    have hsub := sub_enumerate
    have hL : Heap.IsTuple (Shared.heap ⟨hp, g, d, tk, os⟩) l items := ⟨_, hl, rfl, n, rfl⟩
    wp_walk using wpAny_loadPart' hl
    refine wpAny_stack_any fun st => wpAny_pure ?_
    split
    · rename_i c _ _ _ _ _
      cases (c == Value.type "enumerate")
      · wp_walk using wpAny_loadPart' hl, wpAny_pyIter_tuple hL
        exact ⟨_, rfl, h⟩
      · wp_walk using wpAny_loadPart' hl, wpAny_pyIter_tuple hL
        exact ⟨_, rfl, h⟩
    · wp_walk using wpAny_loadPart' hl, wpAny_pyIter_tuple hL
      exact ⟨_, rfl, h⟩
section
variable {prog : Program} {w : World} {A : Around} {E : Value → Shared → Prop} {s : Shared}
theorem call_enumerate_tup {l : Addr} {items : Array Value} {Q : Value → Shared → Prop} (hL : s.heap.IsTuple l items)
    (h : ∀ h', IsEnum h' (s.heap.objs.size + 1) s.heap.objs.size 0 .none → h'.IsTupleIter s.heap.objs.size l 0 → h'.objs.size = s.heap.objs.size + 2 →
      (∀ b o, s.heap.get? b = some o → h'.get? b = some o) → Q (.ref (s.heap.objs.size + 1)) { s with heap := h' }) :
    wpAny (model prog w) A (call (.type "enumerate") [.ref l]) Q E s := by
  obtain ⟨⟨c, dct, dt, sl⟩, hl, hc, n, hd⟩ := hL
  replace hc : c = .type "tuple" := hc
  replace hd : dt = .seq items n := hd
  subst hc hd
  refine callType_new F.called_enumerate (by decide) (F.typeCall_enumerate_1 _) (F.newCall_enumerate_1 _) (fun obj => F.args_object_init_2 obj _) F.entry_enumerate_new
    (meets_enumerate_newT l items n dct sl) ⟨hl, ?_⟩
  have hz : (s.heap.push { cls := .type "tuple_iterator", data := .fields #[.ref l, .int 0 0] }).objs.size = s.heap.objs.size + 1 := Heap.size_push ..
  show _ ∧ _
  rw [hz]
  have he : IsEnum ((s.heap.push { cls := .type "tuple_iterator", data := .fields #[.ref l, .int 0 0] }).push
      { cls := .type "enumerate", data := .fields #[.none, .bool false, .ref s.heap.objs.size, rawInt 0, .none, .none] }) (s.heap.objs.size + 1) s.heap.objs.size 0 .none := by
    have := Heap.get?_push_size (s.heap.push { cls := .type "tuple_iterator", data := .fields #[.ref l, .int 0 0] })
      (o := { cls := .type "enumerate", data := .fields #[.none, .bool false, .ref s.heap.objs.size, rawInt 0, .none, .none] }) rfl
    rw [hz] at this; exact this
  refine ⟨⟨_, he, rfl⟩, h _ he ⟨_, Heap.get?_push_of_some _ (Heap.get?_push_size _ rfl), rfl, rfl⟩ (by rw [Heap.size_push, hz]) fun b o x => Heap.get?_push_of_some _ (Heap.get?_push_of_some _ x)⟩
theorem wpAny_pyNext_enum_endT {e it l : Addr} {i : Nat} {items : Array Value} {old : Value} {Q : Option Value → Shared → Prop} (hh : A.handled = none)
    (he : IsEnum s.heap e it i old) (hit : s.heap.IsTupleIter it l i) (hl : s.heap.IsTuple l items) (hx : items[i]? = none)
    (hQ : ∀ h', Heap.ExtBut it s.heap h' → Q none { s with heap := h' }) : wpAny (model prog w) A (pyNext (.ref e)) Q E s := by
  have hT : s.TypeIs (.ref e) "enumerate" := ⟨_, he, rfl⟩
  unfold pyNext
  refine wpAny_bind (wpAny_attempt (wpAny_callSpecial?_slot (name := Str.ofString "__next__") hT F.slot_enumerate_next
    (wpAny_call_entry F.slot_enumerate_next hT F.entry_enumerate_next ?_ (F.args_enumerate_next_1 _))))
  show wpAny _ _ (field (.ref e) 2 >>= _) _ _ _
  refine wpAny_bind (wpAny_field he rfl (x := .ref it) rfl ?_)
  refine wpAny_bind (wpAny_nextOf_tuple_end hh hit hl hx fun h' x he' hx' => ?_)
  obtain ⟨o, ho, hc⟩ := hx'
  refine wpAny_bind (wpAny_isInstance (T := "StopIteration") (b := true) ⟨o, ho, hc⟩ isSubtype_stop ?_)
  exact wpAny_pure (hQ _ he')
end
end PySem
namespace L2
open PySem PySem.Spec PyProof.Rows
/-- the tuple at a as it stands at each turn, each item in a new pair -/
def IteT (K : PySem.W.Frag) (a : Addr) : It :=
  ⟨fun i H => ∃ (xs : List V) (x : V), SqT K H a xs ∧ xs[i]? = some x, fun i H v H' => ∃ T x, v = .ref T ∧ H T = none ∧ H' = upd H T (.tup [.int (i : Nat), x]) ∧ ∀ xs, SqT K H a xs → xs[i]? = some x, fun i H => ∃ xs : List V, SqT K H a xs ∧ xs.length ≤ i⟩
theorem turn_enumT {P : Program} {w : World} {K : PySem.W.Frag} {elts : List Expr} {kk : Nat} {tpos : Pos} (a e it : Addr) (hai : a ≠ it) :
    Turn P w K (.Tuple elts kk tpos) (IteT K a) [e, it] e (fun i h => (∃ old, IsEnum h e it ((i : Nat) : Int) old) ∧ h.IsTupleIter it a i ∧ e ≠ it ∧ e ≠ a) where
  mem := by simp
  obj := fun i h st b hb => by
    obtain ⟨⟨old, he⟩, ⟨o, ho, hc, hd⟩, _⟩ := st
    have e' : b = e ∨ b = it := by simpa using hb
    rcases e' with z | z
    · rw [z]; exact ⟨_, he, fun v q => nomatch q⟩
    · rw [z]; exact ⟨o, ho, fun v q => by rw [hd] at q; cases q⟩
  keep := fun i h h' st k => let ⟨⟨old, he⟩, hi, hne⟩ := st; ⟨⟨old, k e (by simp) _ he⟩, hi.at fun o q => k it (by simp) o q, hne⟩
  item := by
    intro X hP hw hK hc i pins s σ H E I hf st hg
    subst hP hw hK
    obtain ⟨⟨old, he⟩, hit, hne, hna⟩ := st
    obtain ⟨xs, x, hq, hx⟩ := hg
    obtain ⟨its, rv, p, hz⟩ := I.tuple hq
    obtain ⟨u, hu, ru⟩ := rv.get hx
    have hel : e < s.heap.objs.size := Heap.lt_size he
    have hil : it < s.heap.objs.size := by obtain ⟨_, q, _⟩ := hit; exact Heap.lt_size q
    have hsz0 : i < its.toArray.size := by
      have := (List.getElem?_eq_some_iff.mp hu).1
      simpa using this
    refine wpAny_pyNext_enum_itemD (Draws.tuple (prog := X.prog) (w := X.w) (A := X.A.in1) (I.ok.hd hc) it a hai its.toArray) he ⟨hit, p⟩ hsz0 hne (by simp [hne, hna]) fun x' h' tk hx' ho hit' hT hsz hk => ?_
    have ex : x' = u := by
      have h2 : its.toArray[i]? = some u := by simpa using hu
      rw [h2] at hx'
      exact (Option.some.inj hx').symm
    subst ex
    refine ⟨_, rfl, wpAny_letOwnedTupleGo_enum (s := { s with heap := h', toks := tk + 1 }) ho fun h'' he' sb => ?_⟩
    have hT2 : h''.get? s.heap.objs.size = some { cls := .type "tuple", data := .seq #[.int i tk, x'] } := (sb.2 _ (Nat.ne_of_gt hel)).trans hT
    have new : ObjOk X.prog X.w (upd H s.heap.objs.size (.tup [.int (i : Nat), x])) h'' s.heap.objs.size (.tup [.int (i : Nat), x]) :=
      ⟨by show 2 ≤ sizeLine; decide, [.int i tk, x'], .cons ⟨_, rfl⟩ (.cons ru .nil), ⟨_, hT2, rfl, _, rfl⟩⟩
    have I1 : Inv X pins σ (upd H s.heap.objs.size (.tup [.int (i : Nat), x])) { s with heap := h'', toks := tk + 1 } :=
      I.turnedNew (ch := [e, it]) (fun b ob hb q => (sb.2 b (fun z => hb (by simp [z]))).trans (hk b ob (fun z => hb (by simp [z])) (fun z => hb (by simp [z])) q)) hf (Nat.le_refl _) new
    refine ⟨.ref s.heap.objs.size, _, I1, rfl, ⟨_, x, rfl, I.hok.fresh (Nat.le_refl _), rfl, fun ys hy => by rw [I.tuple_inj hy hq]; exact hx⟩, ⟨⟨x', ?_⟩, hit'.1.at fun o q => (sb.2 it (Ne.symm hne)).trans q, hne, hna⟩, fun b hb => ?_⟩
    · have e1 : ((i + 1 : Nat) : Int) = (i : Int) + 1 := by omega
      rw [e1]; exact he'
    · have hb' : b < s.heap.objs.size := by
        have e' : b = e ∨ b = it := by simpa using hb
        rcases e' with z | z
        · rw [z]; exact hel
        · rw [z]; exact hil
      rw [upd_ne (Nat.ne_of_lt hb')]
      exact (hf b hb).1
  done := by
    intro X hP hw hK hc i pins s σ H E I hf st hg
    subst hP hw hK
    obtain ⟨⟨old, he⟩, hit, hne, hna⟩ := st
    obtain ⟨xs, hq, hx⟩ := hg
    obtain ⟨its, rv, p, hz⟩ := I.tuple hq
    obtain ⟨f0, f1, f2, f3, f4, f5⟩ := hf it (by simp)
    have hl := rv.length
    have D := Draws.tuple (prog := X.prog) (w := X.w) (A := X.A.in1) (I.ok.hd hc) it a hai its.toArray
    refine wpAny_pyNext_enum_endT (I.ok.hd hc) he hit p (by simp; omega) fun h' eb => ⟨rfl, I.turned (t' := s.toks) (fun b o hb q => eb b o hb q) f0 f1 f3 f4 f5⟩
  self := fun A i s Q E st h => let ⟨⟨_, he⟩, _⟩ := st; wpAny_pyIter_enum he h
/-- a list or a tuple -/
def iEnumA (K : PySem.W.Frag) (ta : TA) : TI := fun σ H R => ta σ H fun vs H1 => ∃ a xs, vs = [.ref a] ∧ ((SqL K H1 a xs ∧ R (Ite K a) H1) ∨ (SqT K H1 a xs ∧ R (IteT K a) H1))
theorem pi_enumA {X : Cx} {e : Expr} {ta : TA} {p pos tpos : Pos} {elts : List Expr} {kk : Nat} (hg : Gl X "enumerate") (hm : X.mg "enumerate" = none) (ha : PA X [e] ta) (hs : starEach [e] X.env = [(false, eval e X.env)] := by rfl) :
    PI X (.Tuple elts kk tpos) (.Call (.Name "enumerate" p) [e] [] pos) (iEnumA X.K ta) := by
  refine ⟨fun pins s σ H R I h => ?_⟩
  refine Call_ (ld_blt I hg hm boot_enumerate (PyProof.Rows.callWith_type1 (thn (ha.run pos pins s σ H _ I h) fun us s1 ⟨vs, H1, I1, r1, q1⟩ => ?_) hs rfl))
  obtain ⟨a, xs, ex, hq⟩ := q1
  subst ex
  cases r1 with
  | cons r rr =>
    cases rr
    cases r
    rcases hq with ⟨hq, q⟩ | ⟨hq, q⟩
    · obtain ⟨its, rv, p', hz⟩ := I1.list hq
      refine call_enumerate_list p'.isList fun h' he hit hsz hk => wpAny_pyIter_enum he ?_
      have I2 : Inv X pins σ H1 { s1 with heap := h' } := I1.kept (t' := s1.toks) hk
      refine ⟨s1.heap.objs.size + 1, [s1.heap.objs.size + 1, s1.heap.objs.size], _, _, H1, rfl, I2, turn_enum a (s1.heap.objs.size + 1) s1.heap.objs.size, ⟨⟨.none, he⟩, hit, Nat.succ_ne_self _⟩, fun b hb => ?_, q⟩
      have e' : b = s1.heap.objs.size + 1 ∨ b = s1.heap.objs.size := by simpa using hb
      have hle : s1.heap.objs.size ≤ b := by
        rcases e' with z | z
        · rw [z]; exact Nat.le_add_right _ _
        · rw [z]; exact Nat.le_refl _
      exact I1.fpOk hle (I1.hok.fresh hle)
    · obtain ⟨its, rv, p', hz⟩ := I1.tuple hq
      have hal : a < s1.heap.objs.size := by
        obtain ⟨o, ho, _⟩ := p'
        exact Heap.lt_size ho
      refine call_enumerate_tup p' fun h' he hit hsz hk => wpAny_pyIter_enum he ?_
      have I2 : Inv X pins σ H1 { s1 with heap := h' } := I1.kept (t' := s1.toks) hk
      refine ⟨s1.heap.objs.size + 1, [s1.heap.objs.size + 1, s1.heap.objs.size], _, _, H1, rfl, I2, turn_enumT a (s1.heap.objs.size + 1) s1.heap.objs.size (Nat.ne_of_lt hal), ⟨⟨.none, he⟩, hit, Nat.succ_ne_self _, Nat.ne_of_gt (Nat.lt_succ_of_lt hal)⟩, fun b hb => ?_, q⟩
      have e' : b = s1.heap.objs.size + 1 ∨ b = s1.heap.objs.size := by simpa using hb
      have hle : s1.heap.objs.size ≤ b := by
        rcases e' with z | z
        · rw [z]; exact Nat.le_add_right _ _
        · rw [z]; exact Nat.le_refl _
      exact I1.fpOk hle (I1.hok.fresh hle)
theorem walk_enumT {K : PySem.W.Frag} {a : Addr} {xs : List V} : Walk (IteT K a) xs.length (fun H => SqT K H a xs) (YPair (fun i => some (.int (i : Nat))) (fun i => xs[i]?)) := by
  refine ⟨fun i _ hi q => ⟨xs, xs[i], q, by simp [hi]⟩, fun _ q => ⟨xs, q, Nat.le_refl _⟩, fun i H v H' _ q y => ?_⟩
  obtain ⟨T, x, h1, h2, h3, h4⟩ := y
  exact ⟨T, .int (i : Nat), x, h1, h2, h3, rfl, h4 xs q⟩
end L2
end
section
set_option maxHeartbeats 4000000
namespace Kx
open PySem PySem.Spec PyProof.Rows L2 RZ
theorem rel_ty (n : String) : RelV (.ty n) (.type n) := rfl
theorem kb_l : kitB "list" "list" = some true ∧ kitB "list" "tuple" = some false ∧ kitB "tuple" "list" = some false ∧ kitB "tuple" "tuple" = some true := by decide +kernel
theorem kit2 {K : PySem.W.Frag} {s : String} {a b r : Bool} (h1 : kitB s "list" = some a) (h2 : kitB s "tuple" = some b) (hr : r = (a || b)) : PySem.W.kitAny K (.type s) [.type "list", .type "tuple"] = some r := by
  subst hr
  refine kitAny_cons (kit_ty h1) (fun ha => ?_) (fun ha => by rw [ha]; rfl)
  subst ha
  refine kitAny_cons (kit_ty h2) (fun hb => by rw [hb]; exact kitAny_nil) (fun hb => by rw [hb]; rfl)
theorem isi_at {X : Cx} (K : PySem.W.Frag) (h : X.K = K) : CallR X (.builtin "isinstance") (rIsi K) := by
  subst h
  exact call_isi
def WhV (K : PySem.W.Frag) (H : Hp) (v : V) (b : Bool) : Prop := ∀ H', Same H H' → ∃ (T : Value) (x y : Bool), TyX K H' v T ∧ PySem.W.kitOne K T (.type "int") = some x ∧ PySem.W.kitOne K T (.type "bool") = some y ∧ b = (x && !y)
theorem WhV.same {K : PySem.W.Frag} {H H' : Hp} {v : V} {b : Bool} (h : WhV K H v b) (s : Same H H') : WhV K H' v b := fun H2 s2 => h H2 (s.trans s2)
def spWhole (K : PySem.W.Frag) : Sp := fun vs H Q _ => ∃ (v : V) (b : Bool), vs = [v] ∧ WhV K H v b ∧ Q (.bl b) H
theorem kb_int : kitB "int" "int" = some true ∧ kitB "int" "bool" = some false := by decide +kernel
theorem wh_int {K : PySem.W.Frag} {H : Hp} (i : Int) : WhV K H (.int i) true := fun _ _ => ⟨.type "int", true, false, .base (.int i), kit_ty kb_int.1, kit_ty kb_int.2, rfl⟩
/-- is v a fraction: r; v may stand in the module, too -/
def IsG (K : PySem.W.Frag) (H : Hp) (v : V) (r : Bool) : Prop :=
  (∃ T, TyX K H v T ∧ PySem.W.kitOne K T (.type "tuple") = some false ∧ r = false) ∨
  (∃ a xs, v = .ref a ∧ SqT K H a xs ∧ TyX K H (.ref a) (.type "tuple") ∧ xs.length ≠ 2 ∧ r = false) ∨
  (∃ a x y b1 b2, v = .ref a ∧ SqT K H a [x, y] ∧ TyX K H (.ref a) (.type "tuple") ∧ WhV K H x b1 ∧ WhV K H y b2 ∧ (((b1 && b2) = false ∧ r = false) ∨ ∃ u l : Int, b1 = true ∧ b2 = true ∧ x = .int u ∧ y = .int l ∧ r = (decide (1 ≤ l) && decide (Nat.gcd u.natAbs l.natAbs = 1))))
def spIsG (K : PySem.W.Frag) : Sp := fun vs H Q _ => ∃ (v : V) (r : Bool), vs = [v] ∧ IsG K H v r ∧ Q (.bl r) H
theorem Nq.isG {K : PySem.W.Frag} {H : Hp} {v : V} {q : Rat} (h : Nq K H v q) : IsG K H v true := by
  obtain ⟨a, rfl, s, t⟩ := h.sq
  refine .inr (.inr ⟨a, _, _, true, true, rfl, s, t, wh_int _, wh_int _, .inr ⟨_, _, rfl, rfl, rfl, rfl, ?_⟩⟩)
  have h1 : (1 : Int) ≤ ((q.den : Nat) : Int) := by have := q.den_nz; omega
  have h2 : Nat.gcd q.num.natAbs ((q.den : Nat) : Int).natAbs = 1 := q.reduced
  rw [decide_eq_true h1, decide_eq_true h2]
  rfl
/-- is v an int from lo to hi: r -/
def InR (K : PySem.W.Frag) (H : Hp) (v : V) (lo hi : Int) (r : Bool) : Prop := ∃ b, WhV K H v b ∧ ((b = false ∧ r = false) ∨ ∃ i : Int, b = true ∧ v = .int i ∧ r = (decide (lo ≤ i) && decide (i ≤ hi)))
theorem InR.same {K : PySem.W.Frag} {H H' : Hp} {v : V} {lo hi : Int} {r : Bool} (h : InR K H v lo hi r) (s : Same H H') : InR K H' v lo hi r := by
  obtain ⟨b, h1, h2⟩ := h
  exact ⟨b, h1.same s, h2⟩
theorem InR.yes {K : PySem.W.Frag} {H : Hp} {lo hi i : Int} (h1 : lo ≤ i) (h2 : i ≤ hi) : InR K H (.int i) lo hi true := ⟨true, wh_int i, .inr ⟨i, rfl, rfl, by rw [decide_eq_true h1, decide_eq_true h2]; rfl⟩⟩
theorem InR.no {K : PySem.W.Frag} {H : Hp} {lo hi i : Int} (h : i < lo ∨ hi < i) : InR K H (.int i) lo hi false := ⟨true, wh_int i, .inr ⟨i, rfl, rfl, by
  symm
  rw [Bool.and_eq_false_iff, decide_eq_false_iff_not, decide_eq_false_iff_not]
  omega⟩⟩
theorem InR.int {K : PySem.W.Frag} {H : Hp} {lo hi i : Int} : InR K H (.int i) lo hi (decide (lo ≤ i) && decide (i ≤ hi)) := ⟨true, wh_int i, .inr ⟨i, rfl, rfl, rfl⟩⟩
def spBtw (K : PySem.W.Frag) : Sp := fun vs H Q _ => ∃ (v : V) (lo hi : Int) (r : Bool), vs = [v, .int lo, .int hi] ∧ InR K H v lo hi r ∧ Q (.bl r) H
abbrev nIF : List Str := ["value", "upper", "lower"]
/-! ### checks, with what they raise -/
def spCo (K : PySem.W.Frag) (CO : Addr) : Sp := fun vs H Q E => ∃ (v : V) (r : Bool), vs = [v] ∧ InR K H v 2 24 r ∧ (r = true → Q .non H) ∧ (r = false → Air H CO (fs1 "InvalidOrder" "value" [v]) E)
def spCk (K : PySem.W.Frag) (CN : Addr) : Sp := fun vs H Q E => ∃ (v : V) (r : Bool), vs = [v] ∧ IsG K H v r ∧ (r = true → Q .non H) ∧ (r = false → Air H CN (fs1 "InvalidNumber" "value" [v]) E)
def spCp (K : PySem.W.Frag) (CP : Addr) : Sp := fun vs H Q E => ∃ (v : V) (lo hi : Int) (r : Bool), vs = [v, .int lo, .int hi] ∧ InR K H v lo hi r ∧ (r = true → Q .non H) ∧ (r = false → Air H CP (fs1 "InvalidPlace" "value" [v]) E)
def spCc (K : PySem.W.Frag) (CO CL : Addr) : Sp := fun vs H Q E => ∃ (n : Int) (v : V) (r : Bool), vs = [.int n, v] ∧ InR K H v 2 24 r ∧ (r = false → Air H CO (fs1 "InvalidOrder" "value" [v]) E) ∧
  (r = true → ∀ i : Int, v = .int i → (i ≤ n → Q .non H) ∧ (n < i → Air H CL (fs2 "OrderTooLow" "have" "wanted" [.int n, .int i]) E))
/-- x has the attribute f with the value v -/
def At (K : PySem.W.Frag) (H : Hp) (x : V) (f : Str) (v : V) : Prop := ∃ (a C dx : Addr) (fs : List (Str × V)), x = .ref a ∧ H a = some (.ins C dx fs) ∧ Cls K C ∧ NoAttr K C f ∧ fs.lookup f = some v
def spCor (K : PySem.W.Frag) (CU : Addr) : Sp := fun vs H Q E => ∃ (x y : V) (n m : Int), vs = [x, y] ∧ At K H x "order" (.int n) ∧ At K H y "order" (.int m) ∧ (n = m → Q .non H) ∧ (n ≠ m → Air H CU (fs2 "UnlikeOrders" "one" "other" [.int n, .int m]) E)
section
variable {P : Program} {w : World} {K : PySem.W.Frag} {mg : Str → Option Value} {base : Heap} {f fW CO CN CP CL CU : Addr} {fd fdW : FuncData}
theorem scWh : FnScope ["value"] ["value"] (defScope F_is_whole) := ⟨rfl, rfl, rfl, by decide +kernel, rfl, by decide +kernel, by decide +kernel⟩
theorem ok_whole (F : Fun K "is_whole" "is_whole" F_is_whole f fd) (mI : mg "isinstance" = none) (mi : mg "int" = none) (mb : mg "bool" = none) : FnOk P w K mg base CX0 1 f fd ["value"] (spWhole K) := by
  refine F.ok scWh (fun vs H Q E h => ?_) (fun cdv A outer s H vs Q E hr h => ?_)
  · obtain ⟨v, b, rfl, _⟩ := h
    rfl
  obtain ⟨v, b, rfl, hw, q⟩ := h
  obtain ⟨T, x, y, ty, k1, k2, rfl⟩ := hw H (Same.refl H)
  refine ⟨_, pss_one (ps_ret (pe_and (pe_callB call_isi rfl mI (by decide +kernel) (pa_cons (pv 0) (pa_cons (pe_bltn rfl mi boot_int (rel_ty _)) pa_nil))) (pe_one (pe_not (pe_callB call_isi rfl mI (by decide +kernel) (pa_cons (pv 0) (pa_cons (pe_bltn rfl mb boot_bool (rel_ty _)) pa_nil))))))), ?_⟩
  refine ⟨_, rfl, v, _, T, _, x, rfl, .ty _, ty, k1, _, rfl, ?_⟩
  cases x with
  | false => exact iteF q
  | true => exact iteT ⟨_, rfl, v, _, T, _, y, rfl, .ty _, ty, k2, _, rfl, q⟩
theorem scBtw : FnScope ["value", "low", "high"] ["value", "low", "high"] (defScope F_is_between) := ⟨rfl, rfl, rfl, by decide +kernel, rfl, by decide +kernel, by decide +kernel⟩
theorem ok_btw (F : Fun K "is_between" "is_between" F_is_between f fd) (UW : Use P w K mg base CX0 1 "is_whole" ["value"] (spWhole K) []) : FnOk P w K mg base CX0 2 f fd ["value", "low", "high"] (spBtw K) := by
  refine F.ok scBtw (fun vs H Q E h => ?_) (fun cdv A outer s H vs Q E hr h => ?_)
  · obtain ⟨v, lo, hi, b, rfl, _⟩ := h
    rfl
  obtain ⟨v, lo, hi, r, rfl, ⟨b, hw, hh⟩, q⟩ := h
  refine ⟨_, pss_one (ps_ret (pe_and (pe_use UW hr rfl pass0 (pa_cons (pv 0) pa_nil)) (pe_one (pe_chain op_le op_le (pv 1) (pv 0) (pv 2))))), ?_⟩
  refine ⟨_, rfl, v, b, rfl, hw, _, rfl, ?_⟩
  rcases hh with ⟨rfl, rfl⟩ | ⟨i, rfl, rfl, rfl⟩
  · exact iteF q
  · refine iteT ⟨_, rfl, _, rfl, lo, i, rfl, rfl, _, rfl, ?_⟩
    by_cases c : lo ≤ i
    · rw [decide_eq_true c] at q ⊢
      exact iteT ⟨_, rfl, i, hi, rfl, rfl, by rw [Bool.true_and] at q; exact q⟩
    · rw [decide_eq_false c] at q ⊢
      exact iteF q
theorem scIF : FnScope nIF ["value"] (defScope F_is_fraction) := ⟨rfl, rfl, rfl, by decide +kernel, rfl, by decide +kernel, by decide +kernel⟩
theorem ok_isg (F : Fun K "is_fraction" "is_fraction" F_is_fraction f fd) (mI : mg "isinstance" = none) (mt : mg "tuple" = none) (mn : mg "len" = none) (mG : mg "gcd" = some (.builtin "math.gcd"))
    (UW : Use P w K mg base CX0 1 "is_whole" ["value"] (spWhole K) []) : FnOk P w K mg base CX0 2 f fd ["value"] (spIsG K) := by
  refine F.ok scIF (fun vs H Q E h => ?_) (fun cdv A outer s H vs Q E hr h => ?_)
  · obtain ⟨v, r, rfl, _⟩ := h
    rfl
  obtain ⟨v, r, rfl, hf, q⟩ := h
  refine ⟨_, pss_cons (ps_if (PW.pt (pw_or (pt_not (pt_val (pe_callB call_isi rfl mI (by decide +kernel) (pa_cons (pv 0) (pa_cons (pe_bltn rfl mt boot_tuple (rel_ty _)) pa_nil))))) (pw_or1 (pt_cmpR op_ne (pe_callB call_len_seq rfl mn PySem.boot_len (pa_cons (pv 0) pa_nil)) pe_int (nomark _))))) (pss_one (ps_ret pe_bl)) pss_nil)
    (pss_cons (ps_asg (pv 0) (pg_tup rfl (pgs_cons (pg_name (i := 1) scIF.nd rfl (Or.inl rfl)) (pgs_cons (pg_name (i := 2) scIF.nd rfl (Or.inl rfl)) pgs_nil))))
    (pss_cons (ps_if (PW.pt (pw_or (pt_not (pt_val (pe_use UW hr rfl pass0 (pa_cons (pv 1) pa_nil)))) (pw_or1 (pt_not (pt_val (pe_use UW hr rfl pass0 (pa_cons (pv 2) pa_nil))))))) (pss_one (ps_ret pe_bl)) pss_nil)
    (pss_one (ps_ret (pe_and (pe_cmpR op_ge (pv 2) pe_int (nomark _)) (pe_one (pe_cmpR op_eq (pe_callBfun cr_gcd rfl mG (pa_cons (pv 1) (pa_cons (pv 2) pa_nil))) pe_int (nomark _)))))))), ?_⟩
  have tk : PySem.W.kitOne K (.type "tuple") (.type "tuple") = some true := kit_ty kb_l.2.2.2
  rcases hf with ⟨T, ty, k, rfl⟩ | ⟨a, xs, rfl, ha, ht, hl, rfl⟩ | ⟨a, x, y, b1, b2, rfl, ha, ht, hx, hy, hh⟩
  · exact ⟨_, rfl, v, _, T, _, false, rfl, .ty _, ty, k, _, rfl, iteT q⟩
  · refine ⟨_, rfl, _, _, _, _, true, rfl, .ty _, ht, tk, _, rfl, iteF ?_⟩
    refine ⟨_, rfl, a, xs, rfl, .inr (ha), rfl, _, rfl, ?_⟩
    rw [decide_eq_false (fun e => hl (by have := V.int.inj e; omega))]
    exact iteT q
  · refine ⟨_, rfl, _, _, _, _, true, rfl, .ty _, ht, tk, _, rfl, iteF ?_⟩
    refine ⟨_, rfl, a, _, rfl, .inr (ha), rfl, _, rfl, iteF ?_⟩
    refine ⟨_, rfl, a, _, rfl, ha, rfl, _, _, rfl, _, _, rfl, rfl, ?_⟩
    rcases hh with ⟨hb, rfl⟩ | ⟨u, l, rfl, rfl, rfl, rfl, rfl⟩
    · cases b1 with
      | false => exact ⟨_, rfl, x, false, rfl, hx, _, rfl, iteT q⟩
      | true =>
        obtain rfl : b2 = false := hb
        exact ⟨_, rfl, x, true, rfl, hx, _, rfl, iteF ⟨_, rfl, y, false, rfl, hy, _, rfl, iteT q⟩⟩
    · refine ⟨_, rfl, _, true, rfl, wh_int u, _, rfl, iteF ⟨_, rfl, _, true, rfl, wh_int l, _, rfl, iteF ?_⟩⟩
      refine ⟨_, rfl, l, 1, rfl, rfl, _, rfl, ?_⟩
      by_cases c : (1 : Int) ≤ l
      · rw [decide_eq_true c] at q ⊢
        refine iteT ⟨_, rfl, _, rfl, u, l, rfl, rfl, ?_⟩
        have e : (decide (V.int ((Nat.gcd u.natAbs l.natAbs : Nat) : Int) = V.int 1)) = (true && decide (Nat.gcd u.natAbs l.natAbs = 1)) := by
          rw [Bool.true_and]
          exact decide_eq_decide.mpr ⟨fun h => by have := V.int.inj h; omega, fun h => by rw [h]; rfl⟩
        rw [← e] at q
        exact q
      · rw [decide_eq_false c] at q ⊢
        exact iteF q
theorem scCo : FnScope ["order"] ["order"] (defScope F_check_order) := ⟨rfl, rfl, rfl, by decide +kernel, rfl, by decide +kernel, by decide +kernel⟩
theorem ok_corder (G : Fun K "check_order" "check_order" F_check_order f fd) (UB : Use P w K mg base CX0 2 "is_between" ["value", "low", "high"] (spBtw K) [])
    (mL : ∃ u, mg "LOWEST_ORDER" = some u ∧ RelV (.int 2) u) (mH : ∃ u, mg "HIGHEST_ORDER" = some u ∧ RelV (.int 24) u) (Z : ErrC P w K mg base "InvalidOrder" 1 (fs1 "InvalidOrder" "value") CO) : FnOk P w K mg base (L2.CX P w) 3 f fd ["order"] (spCo K CO) := by
  refine G.okX scCo (fun vs H Q E h => ?_) (fun cdv A outer s H vs Q E hr h => ?_)
  · obtain ⟨v, r, rfl, _⟩ := h
    rfl
  obtain ⟨v, r, rfl, hin, h1, h2⟩ := h
  obtain ⟨fI, fdI, ps, i1, i2, i3, i4⟩ := Z.i
  refine ⟨_, pss_one (ps_if (pt_not (pt_val (pe_use UB hr rfl pass0 (pa_cons (pv 0) (pa_cons (C8.pe_gc rfl mL) (pa_cons (C8.pe_gc rfl mH) pa_nil)))))) (pss_one (ps_raise rfl (takes_of rfl rfl rfl rfl) (pmk_xo Z.T Z.ty i1 i2 i3 hr i4 pass0 rfl Z.m (pa_cons (pv 0) pa_nil)))) pss_nil), ?_⟩
  refine ⟨_, rfl, v, 2, 24, r, rfl, hin, _, rfl, ?_⟩
  cases r with
  | true => exact iteF (h1 rfl)
  | false => exact iteT ⟨_, rfl, (by show 1 ≤ 1000; decide), fun a na => air_of (C := CO) (n := 1) (ws := [v]) na rfl (h2 rfl)⟩
theorem scCk : FnScope ["value"] ["value"] (defScope F_check_number) := ⟨rfl, rfl, rfl, by decide +kernel, rfl, by decide +kernel, by decide +kernel⟩
theorem ok_cnum (G : Fun K "check_number" "check_number" F_check_number f fd) (UF : Use P w K mg base CX0 2 "is_fraction" ["value"] (spIsG K) []) (Z : ErrC P w K mg base "InvalidNumber" 1 (fs1 "InvalidNumber" "value") CN) : FnOk P w K mg base (L2.CX P w) 3 f fd ["value"] (spCk K CN) := by
  refine G.okX scCk (fun vs H Q E h => ?_) (fun cdv A outer s H vs Q E hr h => ?_)
  · obtain ⟨v, r, rfl, _⟩ := h
    rfl
  obtain ⟨v, r, rfl, hin, h1, h2⟩ := h
  obtain ⟨fI, fdI, ps, i1, i2, i3, i4⟩ := Z.i
  refine ⟨_, pss_one (ps_if (pt_not (pt_val (pe_use UF hr rfl pass0 (pa_cons (pv 0) pa_nil)))) (pss_one (ps_raise rfl (takes_of rfl rfl rfl rfl) (pmk_xo Z.T Z.ty i1 i2 i3 hr i4 pass0 rfl Z.m (pa_cons (pv 0) pa_nil)))) pss_nil), ?_⟩
  refine ⟨_, rfl, v, r, rfl, hin, _, rfl, ?_⟩
  cases r with
  | true => exact iteF (h1 rfl)
  | false => exact iteT ⟨_, rfl, (by show 1 ≤ 1000; decide), fun a na => air_of (C := CN) (n := 1) (ws := [v]) na rfl (h2 rfl)⟩
theorem scCp : FnScope ["place", "first", "last"] ["place", "first", "last"] (defScope F_check_place) := ⟨rfl, rfl, rfl, by decide +kernel, rfl, by decide +kernel, by decide +kernel⟩
theorem ok_cplace (G : Fun K "check_place" "check_place" F_check_place f fd) (UB : Use P w K mg base CX0 2 "is_between" ["value", "low", "high"] (spBtw K) []) (Z : ErrC P w K mg base "InvalidPlace" 1 (fs1 "InvalidPlace" "value") CP) : FnOk P w K mg base (L2.CX P w) 3 f fd ["place", "first", "last"] (spCp K CP) := by
  refine G.okX scCp (fun vs H Q E h => ?_) (fun cdv A outer s H vs Q E hr h => ?_)
  · obtain ⟨v, lo, hi, r, rfl, _⟩ := h
    rfl
  obtain ⟨v, lo, hi, r, rfl, hin, h1, h2⟩ := h
  obtain ⟨fI, fdI, ps, i1, i2, i3, i4⟩ := Z.i
  refine ⟨_, pss_one (ps_if (pt_not (pt_val (pe_use UB hr rfl pass0 (pa_cons (pv 0) (pa_cons (pv 1) (pa_cons (pv 2) pa_nil)))))) (pss_one (ps_raise rfl (takes_of rfl rfl rfl rfl) (pmk_xo Z.T Z.ty i1 i2 i3 hr i4 pass0 rfl Z.m (pa_cons (pv 0) pa_nil)))) pss_nil), ?_⟩
  refine ⟨_, rfl, _, rfl, _, rfl, v, lo, hi, r, rfl, hin, _, rfl, ?_⟩
  cases r with
  | true => exact iteF (h1 rfl)
  | false => exact iteT ⟨_, rfl, (by show 1 ≤ 1000; decide), fun a na => air_of (C := CP) (n := 1) (ws := [v]) na rfl (h2 rfl)⟩
theorem scCor : FnScope ["one", "other"] ["one", "other"] (defScope F_check_orders) := ⟨rfl, rfl, rfl, by decide +kernel, rfl, by decide +kernel, by decide +kernel⟩
theorem ok_corders (G : Fun K "check_orders" "check_orders" F_check_orders f fd) (Z : ErrC P w K mg base "UnlikeOrders" 2 (fs2 "UnlikeOrders" "one" "other") CU) : FnOk P w K mg base (L2.CX P w) 3 f fd ["one", "other"] (spCor K CU) := by
  refine G.okX scCor (fun vs H Q E h => ?_) (fun cdv A outer s H vs Q E hr h => ?_)
  · obtain ⟨x, y, n, m, rfl, _⟩ := h
    rfl
  obtain ⟨x, y, n, m, rfl, ⟨xa, C, dx, fs, rfl, hx, cx, nx, lx⟩, ⟨ya, D, dy, gs, rfl, hy, cy, ny, ly⟩, h1, h2⟩ := h
  obtain ⟨fI, fdI, ps, i1, i2, i3, i4⟩ := Z.i
  refine ⟨_, pss_one (ps_if (pt_cmpR op_ne (pe_fld (pv 0) rfl) (pe_fld (pv 1) rfl) (nomark _)) (pss_one (ps_raise rfl (takes_of rfl rfl rfl rfl) (pmk_xo Z.T Z.ty i1 i2 i3 hr i4 pass0 rfl Z.m (pa_cons (pe_fld (pv 0) rfl) (pa_cons (pe_fld (pv 1) rfl) pa_nil))))) pss_nil), ?_⟩
  refine ⟨_, rfl, xa, C, dx, _, _, rfl, hx, cx, nx, lx, _, rfl, ya, D, dy, _, _, rfl, hy, cy, ny, ly, rfl, _, rfl, ?_⟩
  by_cases c : n = m
  · subst c
    rw [decide_eq_true rfl]
    exact iteF (h1 rfl)
  · rw [decide_eq_false (fun e => c (V.int.inj e))]
    exact iteT ⟨_, rfl, xa, C, dx, _, _, rfl, hx, cx, nx, lx, _, rfl, ya, D, dy, _, _, rfl, hy, cy, ny, ly, (by show 2 ≤ 1000; decide), fun a na => air_of (C := CU) (n := 2) (ws := [.int n, .int m]) na rfl (h2 c)⟩
theorem scCc : FnScope ["have", "wanted"] ["have", "wanted"] (defScope F_check_cut) := ⟨rfl, rfl, rfl, by decide +kernel, rfl, by decide +kernel, by decide +kernel⟩
theorem ok_ccut (G : Fun K "check_cut" "check_cut" F_check_cut f fd) (UC : Use P w K mg base (L2.CX P w) 3 "check_order" ["order"] (spCo K CO) []) (Z : ErrC P w K mg base "OrderTooLow" 2 (fs2 "OrderTooLow" "have" "wanted") CL) : FnOk P w K mg base (L2.CX P w) 4 f fd ["have", "wanted"] (spCc K CO CL) := by
  refine G.okX scCc (fun vs H Q E h => ?_) (fun cdv A outer s H vs Q E hr h => ?_)
  · obtain ⟨n, v, r, rfl, _⟩ := h
    rfl
  obtain ⟨n, v, r, rfl, hin, h1, h2⟩ := h
  obtain ⟨fI, fdI, ps, i1, i2, i3, i4⟩ := Z.i
  refine ⟨_, pss_cons (ps_expr (pe_use (E := E) UC hr rfl (passes_call (takes_of rfl rfl rfl rfl) (fun _ _ _ _ h => h)) (pa_cons (pv 1) pa_nil)))
    (pss_one (ps_if (pt_cmpR op_gt (pv 1) (pv 0) (nomark _)) (pss_one (ps_raise rfl (takes_of rfl rfl rfl rfl) (pmk_xo Z.T Z.ty i1 i2 i3 (hr.mono (by decide)) i4 pass0 rfl Z.m (pa_cons (pv 0) (pa_cons (pv 1) pa_nil))))) pss_nil)), ?_⟩
  refine ⟨_, rfl, v, r, rfl, hin, fun hr' => ?_, h1⟩
  obtain ⟨b, hw, hb⟩ := hin
  rcases hb with ⟨_, e⟩ | ⟨i, _, rfl, e⟩
  · rw [hr'] at e; cases e
  · obtain ⟨q1, q2⟩ := h2 hr' i rfl
    refine ⟨_, rfl, _, rfl, i, n, rfl, rfl, _, rfl, ite2 (fun c => ?_) (fun c => q1 (Int.not_lt.mp (of_decide_eq_false (Bool.eq_false_iff.mpr c))))⟩
    exact ⟨_, rfl, _, rfl, (by show 2 ≤ 1000; decide), fun a na => air_of (C := CL) (n := 2) (ws := [.int n, .int i]) na rfl (q2 (of_decide_eq_true c))⟩
end
end Kx
end
section
set_option maxHeartbeats 4000000
namespace Kx
open PySem PySem.Spec PyProof.Rows L2 RZ
def optV : Option Nat → V
  | none => .non
  | some k => .int (k : Nat)
/-- the first false, counted from i on -/
def badAt : List Bool → Nat → Option Nat
  | [], _ => none
  | r :: rs, i => if r = true then badAt rs (i + 1) else some i
theorem badAt_hit : ∀ (rs : List Bool) (k i : Nat), (∀ r ∈ rs.take i, r = true) → rs[i]? = some false → badAt rs k = some (k + i)
  | [], _, _, _, h => by simp at h
  | r :: rs, k, 0, _, h => by
    have e : r = false := Option.some.inj (show some r = some false from h)
    subst e
    rfl
  | r :: rs, k, i + 1, h, e => by
    have hr : r = true := h r (by simp)
    subst hr
    show badAt rs (k + 1) = _
    rw [badAt_hit rs (k + 1) i (fun x hx => h x (by simp [hx])) (by simpa using e)]
    congr 1
    omega
theorem badAt_none : ∀ (rs : List Bool) (k : Nat), (∀ r ∈ rs, r = true) → badAt rs k = none
  | [], _, _ => rfl
  | r :: rs, k, h => by
    have hr : r = true := h r (by simp)
    subst hr
    exact badAt_none rs (k + 1) fun x hx => h x (by simp [hx])
/-- is v a fraction: r, whatever is new -/
def IsGs (K : PySem.W.Frag) (H : Hp) (v : V) (r : Bool) : Prop := ∀ H', Same H H' → IsG K H' v r
theorem IsGs.same {K : PySem.W.Frag} {H H' : Hp} {v : V} {r : Bool} (h : IsGs K H v r) (s : Same H H') : IsGs K H' v r := fun H2 s2 => h H2 (s.trans s2)
theorem Nq.isGs {K : PySem.W.Frag} {H : Hp} {v : V} {q : Rat} (h : Nq K H v q) : IsGs K H v true := fun _ s => (h.same s).isG
/-- the items, which of them are fractions -/
def Its (K : PySem.W.Frag) (H : Hp) (xs : List V) (rs : List Bool) : Prop := xs.length = rs.length ∧ ∀ (i : Nat) (x : V) (r : Bool), xs[i]? = some x → rs[i]? = some r → IsGs K H x r
theorem Its.same {K : PySem.W.Frag} {H H' : Hp} {xs : List V} {rs : List Bool} (h : Its K H xs rs) (s : Same H H') : Its K H' xs rs := ⟨h.1, fun i x r h1 h2 => (h.2 i x r h1 h2).same s⟩
theorem Nl.its {K : PySem.W.Frag} {H : Hp} {xs : List V} {qs : List Rat} (h : Nl K H xs qs) : Its K H xs (List.replicate qs.length true) := by
  refine ⟨by rw [h.1, List.length_replicate], fun i x r h1 h2 => ?_⟩
  obtain ⟨q, _, n⟩ := h.get h1
  rw [List.getElem?_replicate] at h2
  split at h2
  · rw [← Option.some.inj h2]
    exact n.isGs
  · cases h2
theorem bad_rep (n k : Nat) : badAt (List.replicate n true) k = none := badAt_none _ _ fun r hr => List.eq_of_mem_replicate hr
/-- a list or a tuple -/
def SqH (H : Hp) (a : Addr) (xs : List V) : Prop := H a = some (.lst xs) ∨ H a = some (.tup xs)
theorem SqH.same {H H' : Hp} {a : Addr} {xs : List V} (h : SqH H a xs) (s : Same H H') : SqH H' a xs := h.imp (s _ _) (s _ _)
/-- is v a list or a tuple: r -/
def LsV (K : PySem.W.Frag) (H : Hp) (v : V) (r : Bool) : Prop := ∀ H', Same H H' → ∃ T, TyX K H' v T ∧ PySem.W.kitAny K T [.type "list", .type "tuple"] = some r
theorem LsV.same {K : PySem.W.Frag} {H H' : Hp} {v : V} {r : Bool} (h : LsV K H v r) (s : Same H H') : LsV K H' v r := fun H2 s2 => h H2 (s.trans s2)
theorem SqH.lsv {K : PySem.W.Frag} {H : Hp} {a : Addr} {xs : List V} (h : SqH H a xs) : LsV K H (.ref a) true := fun H' s => by
  rcases h with h | h
  · exact ⟨_, .base (.lst (s _ _ h)), kit2 kb_l.1 kb_l.2.1 rfl⟩
  · exact ⟨_, .base (.tup (s _ _ h)), kit2 kb_l.2.2.1 kb_l.2.2.2 rfl⟩
def spIl (K : PySem.W.Frag) : Sp := fun vs H Q _ => ∃ (v : V) (r : Bool), vs = [v] ∧ LsV K H v r ∧ ∀ H', Same H H' → Q (.bl r) H'
def spWi (K : PySem.W.Frag) : Sp := fun vs H Q _ => ∃ (a : Addr) (xs : List V) (rs : List Bool), vs = [.ref a] ∧ SqH H a xs ∧ Its K H xs rs ∧ ∀ H', Same H H' → Q (optV (badAt rs 0)) H'
def spCf (K : PySem.W.Frag) (CF : Addr) : Sp := fun vs H Q E => ∃ (a : Addr) (xs : List V) (rs : List Bool), vs = [.ref a] ∧ SqH H a xs ∧ Its K H xs rs ∧ (badAt rs 0 = none → ∀ H', Same H H' → Q .non H') ∧ ∀ k : Nat, badAt rs 0 = some k → Air H CF (fs1 "InvalidFraction" "at" [.int (k : Nat)]) E
def spCn (K : PySem.W.Frag) (CF CO : Addr) : Sp := fun vs H Q E => ∃ (v : V) (fu : Int), vs = [v, .int fu] ∧
  ((LsV K H v false ∧ Air H CF (fs1 "InvalidFraction" "at" [.int (-1)]) E) ∨
   ∃ (a : Addr) (xs : List V) (rs : List Bool), v = .ref a ∧ SqH H a xs ∧
     (((xs.length : Int) + fu < 2 ∨ 24 < (xs.length : Int) + fu) ∧ Air H CO (fs1 "InvalidOrder" "value" [.int ((xs.length : Int) + fu)]) E ∨
      2 ≤ (xs.length : Int) + fu ∧ (xs.length : Int) + fu ≤ 24 ∧ Its K H xs rs ∧ (∀ k : Nat, badAt rs 0 = some k → Air H CF (fs1 "InvalidFraction" "at" [.int (k : Nat)]) E) ∧
        (badAt rs 0 = none → ∀ H' b, Same H H' → H b = none → H' b = some (.lst xs) → Q (.ref b) H')))
abbrev nWi : List Str := ["numbers", "at", "number"]
section
variable {P : Program} {w : World} {K : PySem.W.Frag} {mg : Str → Option Value} {base : Heap} {f fW CO CN CP CL CU CF : Addr} {fd fdW : FuncData}
theorem scIl : FnScope ["value"] ["value"] (defScope F_is_listing) := ⟨rfl, rfl, rfl, by decide +kernel, rfl, by decide +kernel, by decide +kernel⟩
theorem ok_listing (G : Fun K "is_listing" "is_listing" F_is_listing f fd) (mI : mg "isinstance" = none) (ml : mg "list" = none) (mt : mg "tuple" = none) : FnOk P w K mg base CX0 1 f fd ["value"] (spIl K) := by
  refine G.ok scIl (fun vs H Q E h => ?_) (fun cdv A outer s H vs Q E hr h => ?_)
  · obtain ⟨v, r, rfl, _⟩ := h
    rfl
  obtain ⟨v, r, rfl, hv, q⟩ := h
  refine ⟨_, pss_one (ps_ret (pe_callB call_isiT rfl mI (by decide +kernel) (pa_cons (pv 0) (pa_cons (pe_tup (pa_cons (pe_bltn rfl ml boot_list (rel_ty _)) (pa_cons (pe_bltn rfl mt boot_tuple (rel_ty _)) pa_nil))) pa_nil)))), ?_⟩
  refine ⟨_, rfl, (by show 2 ≤ sizeLine; decide), fun p np => ?_⟩
  have g1 := new_same np (.tup [.ty "list", .ty "tuple"])
  obtain ⟨T, ty, k⟩ := hv _ g1
  exact ⟨_, p, _, T, _, r, rfl, upd_same, .cons (.ty _) (.cons (.ty _) .nil), ty, k, q _ g1⟩
theorem scWi : FnScope nWi ["numbers"] (defScope F_wrong_item) := ⟨rfl, rfl, rfl, by decide +kernel, rfl, by decide +kernel, by decide +kernel⟩
theorem ok_wrong (G : Fun K "wrong_item" "wrong_item" F_wrong_item f fd) (me : mg "enumerate" = none) (UF : Use P w K mg base CX0 2 "is_fraction" ["value"] (spIsG K) []) : FnOk P w K mg base CX0 3 f fd ["numbers"] (spWi K) := by
  refine G.ok scWi (fun vs H Q E h => ?_) (fun cdv A outer s H vs Q E hr h => ?_)
  · obtain ⟨a, xs, rs, rfl, _⟩ := h
    rfl
  obtain ⟨a, xs, rs, rfl, ha, ⟨hl, hI⟩, q⟩ := h
  refine ⟨_, pss_cons (ps_for PassesOwn.never rfl (pi_enumA rfl me (pa_cons (pv 0) pa_nil)) (pg_tup rfl (pgs_cons (pg_name (i := 1) scWi.nd rfl (Or.inl rfl)) (pgs_cons (pg_name (i := 2) scWi.nd rfl (Or.inl rfl)) pgs_nil)))
      (pss_one (ps_if (pt_not (pt_val (pe_use UF hr rfl pass0 (pa_cons (pv 2) pa_nil)))) (pss_one (ps_ret (pv 1))) pss_nil)))
    (pss_one (ps_ret pe_non)), ?_⟩
  refine ⟨_, rfl, a, xs, rfl, ?_⟩
  have turn : ∀ (i : Nat) (x : V) (σ : L2.St) (H2 H3 : Hp), i < xs.length → (Same H H2 ∧ (∀ r ∈ rs.take i, r = true) ∧ ∃ v v', σ = [some (.ref a), v, v']) → YPair (fun i => some (.int (i : Nat))) (fun i => xs[i]?) i H2 x H3 →
      ∃ (T : Addr) (z : V) (r : Bool), x = .ref T ∧ H2 T = none ∧ H3 = upd H2 T (.tup [.int (i : Nat), z]) ∧ xs[i]? = some z ∧ rs[i]? = some r ∧ IsG K H3 z r ∧ Same H H3 := by
    rintro i x σ H2 H3 hi ⟨s2, _, _⟩ ⟨T, y, z, rfl, hT, rfl, hy, hz⟩
    obtain rfl : y = .int ((i : Nat) : Int) := (Option.some.inj hy).symm
    have s3 := s2.trans (new_same hT (.tup [.int (i : Nat), z]))
    have er := List.getElem?_eq_getElem (l := rs) (i := i) (by omega)
    exact ⟨T, z, _, rfl, hT, rfl, hz, er, hI i z _ hz er _ s3, s3⟩
  have fin : ∀ (σ : L2.St) (H2 : Hp), (Same H H2 ∧ (∀ r ∈ rs.take xs.length, r = true) ∧ ∃ v v', σ = [some (.ref a), v, v']) → Q .non H2 := by
    rintro σ H2 ⟨s2, h, _⟩
    rw [hl, List.take_length] at h
    have := q H2 s2
    rw [badAt_none rs 0 h] at this
    exact this
  rcases ha with ha | ha
  · refine .inl ⟨SqL.of ha, ?_⟩
    refine for_it (walk_enum (K := K) (a := a) (xs := xs)) (fun i σ H' => Same H H' ∧ (∀ r ∈ rs.take i, r = true) ∧ ∃ v v', σ = [some (.ref a), v, v']) ⟨Same.refl H, by simp, none, none, rfl⟩ (fun i σ H' _ h => SqL.of (h.1 _ _ ha)) ?_ fin
    intro i x σ H2 H3 hi hp hY
    obtain ⟨T, z, r, rfl, hT, rfl, hz, er, ig, s3⟩ := turn i x σ H2 H3 hi hp hY
    obtain ⟨s2, h2, v, v', rfl⟩ := hp
    refine ⟨T, [_, _], rfl, SqT.of upd_same, rfl, _, [_], rfl, _, [], rfl, rfl, ?_⟩
    refine ⟨_, rfl, z, r, rfl, ig, _, rfl, ?_⟩
    cases r with
    | true =>
      refine iteF ⟨s3, fun b hb => ?_, _, _, rfl⟩
      rw [List.take_add_one, er] at hb
      rcases List.mem_append.mp hb with hb | hb
      · exact h2 b hb
      · simpa using hb
    | false =>
      have := q _ s3
      rw [badAt_hit rs 0 i h2 er, Nat.zero_add] at this
      exact iteT ⟨_, rfl, this⟩
  · refine .inr ⟨SqT.of ha, ?_⟩
    refine for_it (walk_enumT (K := K) (a := a) (xs := xs)) (fun i σ H' => Same H H' ∧ (∀ r ∈ rs.take i, r = true) ∧ ∃ v v', σ = [some (.ref a), v, v']) ⟨Same.refl H, by simp, none, none, rfl⟩ (fun i σ H' _ h => SqT.of (h.1 _ _ ha)) ?_ fin
    intro i x σ H2 H3 hi hp hY
    obtain ⟨T, z, r, rfl, hT, rfl, hz, er, ig, s3⟩ := turn i x σ H2 H3 hi hp hY
    obtain ⟨s2, h2, v, v', rfl⟩ := hp
    refine ⟨T, [_, _], rfl, SqT.of upd_same, rfl, _, [_], rfl, _, [], rfl, rfl, ?_⟩
    refine ⟨_, rfl, z, r, rfl, ig, _, rfl, ?_⟩
    cases r with
    | true =>
      refine iteF ⟨s3, fun b hb => ?_, _, _, rfl⟩
      rw [List.take_add_one, er] at hb
      rcases List.mem_append.mp hb with hb | hb
      · exact h2 b hb
      · simpa using hb
    | false =>
      have := q _ s3
      rw [badAt_hit rs 0 i h2 er, Nat.zero_add] at this
      exact iteT ⟨_, rfl, this⟩
theorem scCf : FnScope ["numbers", "at"] ["numbers"] (defScope F_check_fractions) := ⟨rfl, rfl, rfl, by decide +kernel, rfl, by decide +kernel, by decide +kernel⟩
theorem ok_cfrac (G : Fun K "check_fractions" "check_fractions" F_check_fractions f fd) (UW : Use P w K mg base CX0 3 "wrong_item" ["numbers"] (spWi K) []) (Z : ErrC P w K mg base "InvalidFraction" 1 (fs1 "InvalidFraction" "at") CF) : FnOk P w K mg base (L2.CX P w) 4 f fd ["numbers"] (spCf K CF) := by
  refine G.okX scCf (fun vs H Q E h => ?_) (fun cdv A outer s H vs Q E hr h => ?_)
  · obtain ⟨a, xs, rs, rfl, _⟩ := h
    rfl
  obtain ⟨a, xs, rs, rfl, ha, hI, q, qe⟩ := h
  obtain ⟨fI, fdI, ps, i1, i2, i3, i4⟩ := Z.i
  refine ⟨_, pss_cons (ps_set (i := 1) scCf.nd rfl (Or.inl rfl) (pe_use UW hr rfl pass0 (pa_cons (pv 0) pa_nil)))
    (pss_one (ps_if (pt_cmpR op_notN (pv 1) pe_non (nomark _)) (pss_one (ps_raise rfl (takes_of rfl rfl rfl rfl) (pmk_xo Z.T Z.ty i1 i2 i3 (hr.mono (by decide)) i4 pass0 rfl Z.m (pa_cons (pv 1) pa_nil)))) pss_nil)), ?_⟩
  refine ⟨_, rfl, a, xs, rs, rfl, ha, hI, fun H1 s1 => ?_⟩
  refine ⟨_, rfl, rfl, _, rfl, ?_⟩
  cases e : badAt rs 0 with
  | none => exact iteF (q e H1 s1)
  | some k => exact iteT ⟨_, rfl, (by show 1 ≤ 1000; decide), fun a na => air_of (C := CF) (n := 1) (ws := [.int (k : Nat)]) na rfl ((qe k e).same s1)⟩
theorem scCn : FnScope ["numbers", "further"] ["numbers", "further"] (defScope F_checked_numbers) := ⟨rfl, rfl, rfl, by decide +kernel, rfl, by decide +kernel, by decide +kernel⟩
theorem ok_checked (G : Fun K "checked_numbers" "checked_numbers" F_checked_numbers f fd) (mn : mg "len" = none) (ml : mg "list" = none) (UI : Use P w K mg base CX0 1 "is_listing" ["value"] (spIl K) [])
    (UC : Use P w K mg base (L2.CX P w) 3 "check_order" ["order"] (spCo K CO) []) (UF : Use P w K mg base (L2.CX P w) 4 "check_fractions" ["numbers"] (spCf K CF) []) (Z : ErrC P w K mg base "InvalidFraction" 1 (fs1 "InvalidFraction" "at") CF) :
    FnOk P w K mg base (L2.CX P w) 5 f fd ["numbers", "further"] (spCn K CF CO) := by
  refine G.okX scCn (fun vs H Q E h => ?_) (fun cdv A outer s H vs Q E hr h => ?_)
  · obtain ⟨v, fu, rfl, _⟩ := h
    rfl
  obtain ⟨v, fu, rfl, hh⟩ := h
  obtain ⟨fI, fdI, ps, i1, i2, i3, i4⟩ := Z.i
  refine ⟨_, pss_cons (ps_if (pt_not (pt_val (pe_use UI (hr.mono (by decide)) rfl pass0 (pa_cons (pv 0) pa_nil)))) (pss_one (ps_raise rfl (takes_of rfl rfl rfl rfl) (pmk_xo Z.T Z.ty i1 i2 i3 (hr.mono (by decide)) i4 pass0 rfl Z.m (pa_cons (pe_un un_neg pe_int) pa_nil)))) pss_nil)
    (pss_cons (ps_expr (pe_use (E := E) UC (hr.mono (by decide)) rfl (passes_call (takes_of rfl rfl rfl rfl) (fun _ _ _ _ h => h)) (pa_cons (pe_op op_add (pe_callB call_len_seq rfl mn PySem.boot_len (pa_cons (pv 0) pa_nil)) (pv 1)) pa_nil)))
    (pss_cons (ps_expr (pe_use (E := E) UF hr rfl (passes_call (takes_of rfl rfl rfl rfl) (fun _ _ _ _ h => h)) (pa_cons (pv 0) pa_nil)))
    (pss_one (ps_ret (pe_callTy call_list_of rfl ml (by decide +kernel) (pa_cons (pv 0) pa_nil)))))), ?_⟩
  rcases hh with ⟨hv, air⟩ | ⟨a, xs, rs, rfl, ha, hh⟩
  · refine ⟨_, rfl, v, false, rfl, hv, fun H1 s1 => ⟨_, rfl, iteT ⟨1, rfl, (by show 1 ≤ 1000; decide), fun a na => air_of (C := CF) (n := 1) (ws := [.int (-1)]) na rfl (air.same s1)⟩⟩⟩
  · refine ⟨_, rfl, .ref a, true, rfl, ha.lsv, fun H1 s1 => ⟨_, rfl, iteF ?_⟩⟩
    have ha1 := ha.same s1
    have len1 : ∀ {H2 : Hp}, SqH H2 a xs → (SqL K H2 a xs ∨ SqT K H2 a xs) := fun h => h.imp SqL.of SqT.of
    refine ⟨_, rfl, a, xs, rfl, len1 ha1, _, rfl, _, _, rfl, rfl, ?_⟩
    rcases hh with ⟨ho, air⟩ | ⟨l1, l2, hI, qf, q⟩
    · exact ⟨_, false, rfl, .no ho, fun z => Bool.noConfusion z, fun _ => air.same s1⟩
    · refine ⟨_, true, rfl, .yes l1 l2, fun _ => ?_, fun z => Bool.noConfusion z⟩
      refine ⟨_, rfl, a, xs, rs, rfl, ha1, hI.same s1, fun hb H2 s2 => ?_, fun k hk => (qf k hk).same s1⟩
      have ha2 := ha1.same s2
      exact ⟨_, rfl, a, xs, rfl, len1 ha2, fun b nb => q hb _ b ((s1.trans s2).trans (new_same nb _)) ((s1.trans s2).free nb) upd_same⟩
end
end Kx
end
section
set_option maxHeartbeats 4000000
namespace Kx
open PySem PySem.Spec PyProof.Rows L2 RZ
theorem KP.dp {K : PySem.W.Frag} {a : Addr} {x y : Int} (k : KP K a x y) (H : Hp) : Dp K H (.ref a) (.tuple [.int x, .int y]) := .tup (k.t H) (.cons (.int _) (.cons (.int _) .nil))
theorem cut_drop (xs : List V) (k : Nat) : cutV xs (some (k : Int)) none = xs.drop k := by
  unfold cutV
  rw [HT.sIx_nat, HT.sIx_none, List.take_of_length_le (by rw [List.length_drop]; omega)]
  by_cases c : k ≤ xs.length
  · rw [Nat.min_eq_left c]
  · rw [Nat.min_eq_right (by omega), List.drop_of_length_le (Nat.le_refl _), List.drop_of_length_le (by omega)]
theorem cut_take (xs : List V) (k : Nat) : cutV xs none (some (k : Int)) = xs.take k := by
  unfold cutV
  rw [HT.sIx_nat, HT.sIx_none, List.drop_zero, Nat.sub_zero]
  by_cases c : k ≤ xs.length
  · rw [Nat.min_eq_left c]
  · rw [Nat.min_eq_right (by omega), List.take_of_length_le (Nat.le_refl _), List.take_of_length_le (by omega)]
/-- the least place with a number that is not 0 -/
def hgtV (qs : List Rat) (f : Int) : V := match hgtN qs 0 with
  | none => .non
  | some k => .int (f + (k : Nat))
theorem hgtN_hit : ∀ (qs : List Rat) (i f : Nat) (q : Rat), (∀ r ∈ qs.take i, r = 0) → qs[i]? = some q → q ≠ 0 → hgtN qs f = some (f + i)
  | [], _, _, _, _, h, _ => by simp at h
  | r :: rs, 0, f, q, _, h, hq => by
    have e : r = q := Option.some.inj (show some r = some q from h)
    show (if r = 0 then hgtN rs (f + 1) else some f) = some f
    rw [if_neg (by rw [e]; exact hq)]
  | r :: rs, i + 1, f, q, h, e, hq => by
    have hr : r = 0 := h r (by simp)
    show (if r = 0 then hgtN rs (f + 1) else some f) = _
    rw [if_pos hr, hgtN_hit rs i (f + 1) q (fun x hx => h x (by simp [hx])) (by simpa using e) hq]
    congr 1
    omega
theorem hgtN_none (qs : List Rat) (f : Nat) (h : ∀ q ∈ qs, q = 0) : hgtN qs f = none := by
  have := hgtN_app_zero qs f [] h
  rw [List.append_nil] at this
  rw [this]
  rfl
def spIz (K : PySem.W.Frag) : Sp := fun vs H Q _ => ∃ (x : V) (qs : List Rat), vs = [x] ∧ Ls K H x qs ∧ qs.length ≤ 100 ∧ ∀ H', Same H H' → Q (.bl (qs.all fun q => decide (q = 0))) H'
def spLp (K : PySem.W.Frag) : Sp := fun vs H Q _ => ∃ (x : V) (qs : List Rat) (fi : Int), vs = [x, .int fi] ∧ Ls K H x qs ∧ ∀ H', Same H H' → Q (hgtV qs fi) H'
/-- the kind of a step -/
def kindS (qs : List Rat) : Str :=
  if qs.getD 0 0 = 0 then (if (qs.drop 1).all (fun q => decide (q = 0)) = true then "nothing" else "crush")
  else if qs.getD 0 0 = 1 then (if (qs.drop 1).all (fun q => decide (q = 0)) = true then "still" else "creep")
  else if qs.getD 0 0 = -1 then "flip" else "stretch"
def spKo (K : PySem.W.Frag) : Sp := fun vs H Q _ => ∃ (x : V) (qs : List Rat), vs = [x] ∧ Ls K H x qs ∧ 1 ≤ qs.length ∧ qs.length ≤ 100 ∧ ∀ H', Same H H' → Q (.str (kindS qs)) H'
abbrev nIz : List Str := ["numbers", "number"]
abbrev nLp : List Str := ["numbers", "first", "at", "number"]
abbrev nKo : List Str := ["numbers", "lead", "bent"]
theorem eqD_at {X : Cx} (K : PySem.W.Frag) (h : X.K = K) (hu : X.A.units + 64 < cLine) : OpR X (compareOp .Eq) (rEqD K) := by
  subst h
  exact op_eqD hu
section
variable {P : Program} {w : World} {K : PySem.W.Frag} {mg : Str → Option Value} {base : Heap} {f fI o1 o0 om : Addr} {fd : FuncData}
theorem scIz : FnScope nIz ["numbers"] (defScope F_is_zero) := ⟨rfl, rfl, rfl, by decide +kernel, rfl, by decide +kernel, by decide +kernel⟩
theorem ok_iszero (G : Fun K "is_zero" "is_zero" F_is_zero f fd) (k0 : KP K o0 0 1) (ma : mg "all" = none) (mZ : mg "ZERO" = some (.ref o0)) : FnOk P w K mg base CX0 1 f fd ["numbers"] (spIz K) := by
  refine G.ok scIz (fun vs H Q E h => ?_) (fun cdv A outer s H vs Q E hr h => ?_)
  · obtain ⟨x, qs, rfl, _⟩ := h
    rfl
  obtain ⟨x, qs, rfl, ⟨a, xs, rfl, ha, nx⟩, hn, q⟩ := h
  refine ⟨_, pss_one (ps_ret (pe_callB (cr_all rfl) rfl ma (by decide +kernel) (pa_cons (pe_lc (own := [("number", 1)]) (g := gName 1) (tt := tYes) rfl scIz.nd (pi_list (pv 0)) (blkOk_by (N := nIz) (sc := defScope F_is_zero) (by decide +kernel)) (fun _ _ _ _ _ => pg_name (i := 1) scIz.nd rfl (Or.inl rfl)) (fun _ _ _ _ _ => pts_nil)
        (fun _ _ _ _ _ => pe_cmpR (eqD_at K rfl hr.units) (pv 1) (C8.pe_gc (v := .ref o0) rfl ⟨_, mZ, rfl⟩) (nomark _))) pa_nil))), ?_⟩
  have lx : xs.length = qs.length := nx.1
  refine ⟨_, rfl, a, rfl, ⟨_, SqL.of ha⟩, fun D nD => ?_⟩
  refine lc_acc (walk_list (K := K) (a := a) (xs := xs)) (fun i _ y => ∀ r, qs[i]? = some r → y = .bl (decide (r = 0))) (fun i H H' y l h _ _ => h) nD (by omega) (fun H2 s => SqL.of (s _ _ ha)) ?_ ?_
  · rintro i x H2 H3 k hi s2 ⟨rfl, hx2⟩ hk
    obtain ⟨b, eb, nb⟩ := nx.get hx2
    refine ⟨rfl, _, rfl, tupQ b, tupQ 0, (nb.same s2).dp, k0.dp _, rfl, rfl, ?_⟩
    rw [eqv_num]
    exact hk _ _ (Same.refl _) fun r hr => by rw [eb] at hr; rw [← Option.some.inj hr]
  · intro H2 zs s2 hD hl hR
    have ez : zs = (qs.map fun q => decide (q = 0)).map V.bl := by
      apply List.ext_getElem?
      intro i
      rw [List.map_map, List.getElem?_map]
      by_cases c : i < qs.length
      · rw [List.getElem?_eq_getElem c]
        have e := List.getElem?_eq_getElem (l := zs) (i := i) (by omega)
        rw [e, hR i _ e _ (List.getElem?_eq_getElem c)]
        rfl
      · rw [List.getElem?_eq_none (by omega), List.getElem?_eq_none (by omega)]
        rfl
    refine ⟨D, _, rfl, SqL.of (by rw [hD, ez]), ?_⟩
    rw [List.all_map]
    exact q _ s2
theorem scLp : FnScope nLp ["numbers", "first"] (defScope F_least_place) := ⟨rfl, rfl, rfl, by decide +kernel, rfl, by decide +kernel, by decide +kernel⟩
theorem ok_least (G : Fun K "least_place" "least_place" F_least_place f fd) (k0 : KP K o0 0 1) (me : mg "enumerate" = none) (mZ : mg "ZERO" = some (.ref o0)) : FnOk P w K mg base CX0 1 f fd ["numbers", "first"] (spLp K) := by
  refine G.ok scLp (fun vs H Q E h => ?_) (fun cdv A outer s H vs Q E hr h => ?_)
  · obtain ⟨x, qs, fi, rfl, _⟩ := h
    rfl
  obtain ⟨x, qs, fi, rfl, ⟨a, xs, rfl, ha, nx⟩, q⟩ := h
  refine ⟨_, pss_cons (ps_for PassesOwn.never rfl (pi_enum rfl me (pa_cons (pv 0) pa_nil)) (pg_tup rfl (pgs_cons (pg_name (i := 2) scLp.nd rfl (Or.inl rfl)) (pgs_cons (pg_name (i := 3) scLp.nd rfl (Or.inl rfl)) pgs_nil)))
      (pss_one (ps_if (pt_cmpR (op_neD hr.units) (pv 3) (C8.pe_gc (v := .ref o0) rfl ⟨_, mZ, rfl⟩) (nomark _)) (pss_one (ps_ret (pe_op op_add (pv 1) (pv 2)))) pss_nil)))
    (pss_one (ps_ret pe_non)), ?_⟩
  refine ⟨_, rfl, a, _, rfl, SqL.of ha, ?_⟩
  refine for_it (walk_enum (K := K) (a := a) (xs := xs)) (fun i σ H' => Same H H' ∧ (∀ r ∈ qs.take i, r = 0) ∧ ∃ v v', σ = [some (.ref a), some (.int fi), v, v']) ⟨Same.refl H, by simp, none, none, rfl⟩ (fun i σ H' _ h => SqL.of (h.1 _ _ ha)) ?_ ?_
  · rintro i x σ H2 H3 hi ⟨s2, h2, v, v', rfl⟩ ⟨T, y, z, rfl, hT, rfl, hy, hz⟩
    refine ⟨T, [_, _], rfl, SqT.of upd_same, rfl, _, [_], rfl, _, [], rfl, rfl, ?_⟩
    have s3 := s2.trans (new_same hT (.tup [y, z]))
    obtain ⟨b, eb, nb⟩ := nx.get hz
    obtain rfl : y = .int ((i : Nat) : Int) := (Option.some.inj hy).symm
    refine ⟨_, rfl, tupQ b, tupQ 0, (nb.same s3).dp, k0.dp _, rfl, rfl, _, rfl, ?_⟩
    rw [eqv_num]
    by_cases c : b = 0
    · rw [decide_eq_true c]
      refine iteF ⟨s3, fun r hr => ?_, _, _, rfl⟩
      rw [List.take_add_one, eb] at hr
      rcases List.mem_append.mp hr with hr | hr
      · exact h2 r hr
      · rw [← c]
        simpa using hr
    · rw [decide_eq_false c]
      refine iteT ⟨_, rfl, _, rfl, fi, _, rfl, rfl, ?_⟩
      have := q _ s3
      unfold hgtV at this
      rw [hgtN_hit qs i 0 b h2 eb c, Nat.zero_add] at this
      exact this
  · rintro σ H2 ⟨s2, h2, v, v', rfl⟩
    rw [nx.1, List.take_length] at h2
    have := q _ s2
    unfold hgtV at this
    rw [hgtN_none qs 0 h2] at this
    exact this
theorem scKo : FnScope nKo ["numbers"] (defScope F_kind_of) := ⟨rfl, rfl, rfl, by decide +kernel, rfl, by decide +kernel, by decide +kernel⟩
theorem ok_kind (G : Fun K "kind_of" "kind_of" F_kind_of f fd) (k1 : KP K o1 1 1) (k0 : KP K o0 0 1) (km : KP K om (-1) 1) (mZ : mg "ZERO" = some (.ref o0)) (mO : mg "ONE" = some (.ref o1)) (mM : mg "MINUS_ONE" = some (.ref om))
    (UZ : Use P w K mg base CX0 1 "is_zero" ["numbers"] (spIz K) []) : FnOk P w K mg base CX0 2 f fd ["numbers"] (spKo K) := by
  refine G.ok scKo (fun vs H Q E h => ?_) (fun cdv A outer s H vs Q E hr h => ?_)
  · obtain ⟨x, qs, rfl, _⟩ := h
    rfl
  obtain ⟨x, qs, rfl, ⟨a, xs, rfl, ha, nx⟩, h1, hn, q⟩ := h
  refine ⟨_, pss_cons (ps_set (i := 1) scKo.nd rfl (Or.inl rfl) (pe_ix ix_list (pv 0) pe_int (fun _ _ => rfl)))
    (pss_cons (ps_set (i := 2) scKo.nd rfl (Or.inl rfl) (pe_not (pe_use UZ hr rfl pass0 (pa_cons (pe_slice sl_list (pv 0) (po_some pe_int) po_none) pa_nil))))
    (pss_cons (ps_if (pt_cmpR (op_eqD hr.units) (pv 1) (C8.pe_gc (v := .ref o0) rfl ⟨_, mZ, rfl⟩) (nomark _)) (pss_one (ps_ret (pe_ifExp (pt_val (pv 2)) pe_str pe_str))) pss_nil)
    (pss_cons (ps_if (pt_cmpR (op_eqD hr.units) (pv 1) (C8.pe_gc (v := .ref o1) rfl ⟨_, mO, rfl⟩) (nomark _)) (pss_one (ps_ret (pe_ifExp (pt_val (pv 2)) pe_str pe_str))) pss_nil)
    (pss_one (ps_ret (pe_ifExp (pt_cmpR (op_eqD hr.units) (pv 1) (C8.pe_gc (v := .ref om) rfl ⟨_, mM, rfl⟩) (nomark _)) pe_str pe_str)))))), ?_⟩
  obtain ⟨x0, e0, n0⟩ := nx.get' (i := 0) (by omega)
  have g0 : qs.getD 0 0 = qs[0] := by rw [List.getD_eq_getElem?_getD, List.getElem?_eq_getElem (by omega)]; rfl
  generalize hq0 : qs[0] = q0 at n0 g0
  refine ⟨_, rfl, a, _, 0, _, rfl, rfl, SqL.of ha, at_of (j := 0) rfl e0, _, rfl, 1, rfl, a, _, rfl, SqL.of ha, fun b nb => ?_⟩
  have ec : cutV xs (some 1) none = xs.drop 1 := cut_drop xs 1
  rw [ec]
  have s1 := new_same nb (.lst (xs.drop 1))
  refine ⟨.ref b, qs.drop 1, rfl, ⟨b, _, rfl, upd_same, (nx.drop 1).same s1⟩, by rw [List.length_drop]; omega, fun H2 s2 => ?_⟩
  have s2 := s1.trans s2
  have n2 := n0.same s2
  have dp2 : ∀ {H3}, H3 = H2 → Dp K H3 x0 (tupQ q0) := fun e => by rw [e]; exact n2.dp
  have e1 : tupQ 1 = .tuple [.int 1, .int 1] := rfl
  have em : tupQ (-1) = .tuple [.int (-1), .int 1] := rfl
  have eb : ∀ b : Bool, b = (qs.drop 1).all (fun q => decide (q = 0)) → (qs.drop 1).all (fun q => decide (q = 0)) = b := fun b h => h.symm
  generalize hz : (qs.drop 1).all (fun q => decide (q = 0)) = z
  refine ⟨_, rfl, _, rfl, tupQ q0, tupQ 0, n2.dp, k0.dp _, rfl, rfl, _, rfl, ?_⟩
  rw [eqv_num]
  by_cases c0 : q0 = 0
  · rw [decide_eq_true c0]
    have qk := q _ s2
    unfold kindS at qk
    rw [g0, if_pos c0, hz] at qk
    refine iteT ⟨_, rfl, _, rfl, ?_⟩
    cases z with
    | true => exact iteF qk
    | false => exact iteT qk
  rw [decide_eq_false c0]
  refine iteF ?_
  refine ⟨_, rfl, tupQ q0, tupQ 1, n2.dp, k1.dp _, rfl, rfl, _, rfl, ?_⟩
  rw [eqv_num]
  by_cases c1 : q0 = 1
  · rw [decide_eq_true c1]
    have qk := q _ s2
    unfold kindS at qk
    rw [g0, if_neg c0, if_pos c1, hz] at qk
    refine iteT ⟨_, rfl, _, rfl, ?_⟩
    cases z with
    | true => exact iteF qk
    | false => exact iteT qk
  rw [decide_eq_false c1]
  refine iteF ?_
  have qk := q _ s2
  unfold kindS at qk
  rw [g0, if_neg c0, if_neg c1] at qk
  refine ⟨_, rfl, tupQ q0, tupQ (-1), n2.dp, km.dp _, rfl, rfl, _, rfl, ?_⟩
  rw [eqv_num]
  by_cases cm : q0 = -1
  · rw [decide_eq_true cm]
    rw [if_pos cm] at qk
    exact iteT qk
  · rw [decide_eq_false cm]
    rw [if_neg cm] at qk
    exact iteF qk
end
end Kx
end
section
set_option maxHeartbeats 4000000
namespace Kx
open PySem PySem.Spec PyProof.Rows L2 RZ
def rwF (b : Addr) (n : Int) (hv : V) : List (Str × V) := [("_numbers", .ref b), ("order", .int n), ("height", hv)]
def stF (b : Addr) (n : Int) (x0 : V) (kd : Str) (hv fv sv : V) : List (Str × V) := [("_numbers", .ref b), ("order", .int n), ("lead", x0), ("kind", .str kd), ("height", hv), ("flat", fv), ("strength", sv)]
def rwN : List Str := ["_numbers", "order", "height"]
def stN : List Str := ["_numbers", "order", "lead", "kind", "height", "flat", "strength"]
/-- a row with these numbers -/
def RwAt (K : PySem.W.Frag) (C : Addr) (H : Hp) (v : V) (qs : List Rat) : Prop := ∃ (x dx b : Addr) (xs : List V), v = .ref x ∧ H x = some (.ins C dx (rwF b ((qs.length : Int) - 1) (hgtV qs 0))) ∧ H b = some (.lst xs) ∧ Nl K H xs qs ∧ 3 ≤ qs.length ∧ qs.length ≤ 25
theorem RwAt.same {K : PySem.W.Frag} {C : Addr} {H H' : Hp} {v : V} {qs : List Rat} (h : RwAt K C H v qs) (s : Same H H') : RwAt K C H' v qs := by
  obtain ⟨x, dx, b, xs, e, h1, h2, h3, h4⟩ := h
  exact ⟨x, dx, b, xs, e, s _ _ h1, s _ _ h2, h3.same s, h4⟩
/-- a step with these numbers -/
def StAt (K : PySem.W.Frag) (S : Addr) (H : Hp) (v : V) (qs : List Rat) : Prop := ∃ (x dx b : Addr) (xs : List V) (x0 fv sv : V), v = .ref x ∧ H x = some (.ins S dx (stF b (qs.length : Int) x0 (kindS qs) (hgtV qs 1) fv sv)) ∧ H b = some (.lst xs) ∧ Nl K H xs qs ∧ xs[0]? = some x0 ∧ 2 ≤ qs.length ∧ qs.length ≤ 24
theorem StAt.same {K : PySem.W.Frag} {S : Addr} {H H' : Hp} {v : V} {qs : List Rat} (h : StAt K S H v qs) (s : Same H H') : StAt K S H' v qs := by
  obtain ⟨x, dx, b, xs, x0, fv, sv, e, h1, h2, h3, h4⟩ := h
  exact ⟨x, dx, b, xs, x0, fv, sv, e, s _ _ h1, s _ _ h2, h3.same s, h4⟩
/-- what a constructor may be given: refused, or not -/
def Giv (K : PySem.W.Frag) (CF CO : Addr) (H : Hp) (v : V) (fu : Int) (E : XK) (good : List V → List Rat → Prop) : Prop :=
  (LsV K H v false ∧ Air H CF (fs1 "InvalidFraction" "at" [.int (-1)]) E) ∨
   ∃ (a : Addr) (xs : List V), v = .ref a ∧ SqH H a xs ∧
     (((xs.length : Int) + fu < 2 ∨ 24 < (xs.length : Int) + fu) ∧ Air H CO (fs1 "InvalidOrder" "value" [.int ((xs.length : Int) + fu)]) E ∨
      2 ≤ (xs.length : Int) + fu ∧ (xs.length : Int) + fu ≤ 24 ∧
        ((∃ (rs : List Bool) (k : Nat), Its K H xs rs ∧ badAt rs 0 = some k ∧ Air H CF (fs1 "InvalidFraction" "at" [.int (k : Nat)]) E) ∨ ∃ qs : List Rat, Nl K H xs qs ∧ good xs qs))
def spRI (K : PySem.W.Frag) (C CF CO : Addr) : Sp := fun vs H Q E => ∃ (x dx : Addr) (v : V), vs = [.ref x, v] ∧ v ≠ .ref x ∧ H x = some (.ins C dx []) ∧
  Giv K CF CO H v (-1) E fun xs qs => ∀ H' b, But x H H' → H b = none → H' x = some (.ins C dx (rwF b ((qs.length : Int) - 1) (hgtV qs 0))) → H' b = some (.lst xs) → Q .non H'
def spSI (K : PySem.W.Frag) (S CF CO : Addr) : Sp := fun vs H Q E => ∃ (x dx : Addr) (v : V), vs = [.ref x, v] ∧ v ≠ .ref x ∧ H x = some (.ins S dx []) ∧
  Giv K CF CO H v 0 E fun xs qs => ∀ H' b x0 fv sv, xs[0]? = some x0 → But x H H' → H b = none → H' x = some (.ins S dx (stF b (qs.length : Int) x0 (kindS qs) (hgtV qs 1) fv sv)) → H' b = some (.lst xs) → Q .non H'
abbrev nIn : List Str := ["self", "numbers"]
theorem but_put {x : Addr} {H : Hp} {o : HO} : But x H (upd H x o) := fun b u n h => by rw [upd_ne n]; exact h
theorem Nq.but {K : PySem.W.Frag} {H H' : Hp} {x C dx : Addr} {fs : List (Str × V)} {v : V} {q : Rat} (h : Nq K H v q) (hx : H x = some (.ins C dx fs)) (s : But x H H') : Nq K H' v q := by
  obtain ⟨a, e, h⟩ := h
  refine ⟨a, e, h.imp (fun h => s _ _ (fun z => ?_) h) id⟩
  rw [z, hx] at h
  cases h
theorem Nl.but {K : PySem.W.Frag} {H H' : Hp} {x C dx : Addr} {fs : List (Str × V)} {xs : List V} {qs : List Rat} (h : Nl K H xs qs) (hx : H x = some (.ins C dx fs)) (s : But x H H') : Nl K H' xs qs := ⟨h.1, fun i y q h1 h2 => (h.2 i y q h1 h2).but hx s⟩
section
variable {P : Program} {w : World} {K : PySem.W.Frag} {mg : Str → Option Value} {base : Heap} {f fI C S CF CO o1 o0 : Addr} {fd : FuncData}
/-- from Giv to the promise of checked_numbers -/
theorem Giv.cn {H : Hp} {v : V} {fu : Int} {E : XK} {Qx : Addr → Hp → Prop} {good : List V → List Rat → Prop} (h : Giv K CF CO H v fu E good)
    (q : ∀ a xs qs H' b, v = .ref a → SqH H a xs → Nl K H xs qs → good xs qs → 2 ≤ (xs.length : Int) + fu → (xs.length : Int) + fu ≤ 24 → Same H H' → H b = none → H' b = some (.lst xs) → Qx b H') :
  ((LsV K H v false ∧ Air H CF (fs1 "InvalidFraction" "at" [.int (-1)]) E) ∨
   ∃ (a : Addr) (xs : List V) (rs : List Bool), v = .ref a ∧ SqH H a xs ∧
     (((xs.length : Int) + fu < 2 ∨ 24 < (xs.length : Int) + fu) ∧ Air H CO (fs1 "InvalidOrder" "value" [.int ((xs.length : Int) + fu)]) E ∨
      2 ≤ (xs.length : Int) + fu ∧ (xs.length : Int) + fu ≤ 24 ∧ Its K H xs rs ∧ (∀ k : Nat, badAt rs 0 = some k → Air H CF (fs1 "InvalidFraction" "at" [.int (k : Nat)]) E) ∧
        (badAt rs 0 = none → ∀ H' b, Same H H' → H b = none → H' b = some (.lst xs) → Qx b H'))) := by
  rcases h with h | ⟨a, xs, rfl, ha, h⟩
  · exact .inl h
  · rcases h with ⟨ho, air⟩ | ⟨l1, l2, h⟩
    · exact .inr ⟨a, xs, [], rfl, ha, .inl ⟨ho, air⟩⟩
    · rcases h with ⟨rs, k, hI, hb, air⟩ | ⟨qs, nx, g⟩
      · refine .inr ⟨a, xs, rs, rfl, ha, .inr ⟨l1, l2, hI, fun k' hk => ?_, fun z => ?_⟩⟩
        · rw [hb] at hk
          rw [← Option.some.inj hk]
          exact air
        · rw [hb] at z; cases z
      · refine .inr ⟨a, xs, _, rfl, ha, .inr ⟨l1, l2, nx.its, fun k' hk => ?_, fun z H' b s n e => q a xs qs H' b rfl ha nx g l1 l2 s n e⟩⟩
        rw [bad_rep] at hk
        cases hk
theorem scRI : FnScope nIn ["self", "numbers"] (defScope C_Row_init) := ⟨rfl, rfl, rfl, by decide +kernel, rfl, by decide +kernel, by decide +kernel⟩
theorem ok_rwinit (G : Fun K "__init__" "Row.__init__" C_Row_init f fd) (c : Cls K C) (nA : ∀ n ∈ rwN, NoAttr K C n) (mn : mg "len" = none)
    (UN : Use P w K mg base (L2.CX P w) 5 "checked_numbers" ["numbers", "further"] (spCn K CF CO) []) (UL : Use P w K mg base CX0 1 "least_place" ["numbers", "first"] (spLp K) []) :
    FnOk P w K mg base (L2.CX P w) 6 f fd ["self", "numbers"] (spRI K C CF CO) := by
  refine G.okX scRI (fun vs H Q E h => ?_) (fun cdv A outer s H vs Q E hr h => ?_)
  · obtain ⟨x, dx, v, rfl, _⟩ := h
    rfl
  obtain ⟨x, dx, v, rfl, nv, hx, hg⟩ := h
  have hr1 := hr.mono (show 1 ≤ 5 by decide)
  have n1 := nA "_numbers" (by simp [rwN])
  have n2 := nA "order" (by simp [rwN])
  have n3 := nA "height" (by simp [rwN])
  refine ⟨_, pss_cons (ps_fld (pv 0) (pe_use (E := E) UN hr rfl (passes_call (takes_of rfl rfl rfl rfl) (fun _ _ _ _ h => h)) (pa_cons (pv 1) (pa_cons (pe_un un_neg pe_int) pa_nil))) rfl)
    (pss_cons (ps_fld (pv 0) (pe_op op_sub (pe_callB call_len_seq rfl mn PySem.boot_len (pa_cons (pv 1) pa_nil)) pe_int) rfl)
    (pss_one (ps_fld (pv 0) (pe_use UL hr1 rfl pass0 (pa_cons (pe_fld (pv 0) rfl) (pa_cons pe_int pa_nil))) rfl))), ?_⟩
  refine ⟨_, rfl, 1, rfl, v, -1, rfl, ?_⟩
  refine hg.cn fun a xs qs H1 b ev ha nx g l1 l2 s1 nb hb => ?_
  subst ev
  have hx1 := s1 _ _ hx
  have xb : b ≠ x := fun e => by rw [e, hx] at nb; cases nb
  have xa : a ≠ x := fun e => nv (by rw [e])
  have lq : xs.length = qs.length := nx.1
  refine ⟨_, rfl, x, C, dx, _, rfl, hx1, c, n1, by decide, ?_⟩
  have ha2 : SqH (upd H1 x (.ins C dx (putF "_numbers" (.ref b) []))) a xs := by
    unfold SqH
    rw [upd_ne xa]
    exact ha.same s1
  have nx2 : Nl K (upd H1 x (.ins C dx (putF "_numbers" (.ref b) []))) xs qs := (nx.same s1).but hx1 but_put
  have hb2 : (upd H1 x (.ins C dx (putF "_numbers" (.ref b) []))) b = some (.lst xs) := by rw [upd_ne xb]; exact hb
  have u2 : But x H (upd H1 x (.ins C dx (putF "_numbers" (.ref b) []))) := (But.same s1).trans but_put
  have hx2 : (upd H1 x (.ins C dx (putF "_numbers" (.ref b) []))) x = some (.ins C dx (putF "_numbers" (.ref b) [])) := upd_same
  generalize upd H1 x (.ins C dx (putF "_numbers" (.ref b) [])) = H2 at ha2 nx2 hb2 u2 hx2
  refine ⟨_, rfl, a, _, rfl, ha2.imp SqL.of SqT.of, _, 1, rfl, rfl, _, rfl, x, C, dx, _, rfl, hx2, c, n2, (by show 1 < 1000; decide), ?_⟩
  have nx3 : Nl K (upd H2 x (.ins C dx (putF "order" (.int ((xs.length : Nat) - 1)) (putF "_numbers" (.ref b) [])))) xs qs := nx2.but hx2 but_put
  have hb3 : (upd H2 x (.ins C dx (putF "order" (.int ((xs.length : Nat) - 1)) (putF "_numbers" (.ref b) [])))) b = some (.lst xs) := by rw [upd_ne xb]; exact hb2
  have u3 : But x H (upd H2 x (.ins C dx (putF "order" (.int ((xs.length : Nat) - 1)) (putF "_numbers" (.ref b) [])))) := u2.trans but_put
  refine ⟨_, rfl, x, C, dx, _, _, rfl, upd_same, c, n1, rfl, .ref b, qs, 0, rfl, ⟨b, xs, rfl, hb3, nx3⟩, fun H4 s4 => ?_⟩
  have hx4 := s4 _ _ (show upd H2 x (.ins C dx (putF "order" (.int ((xs.length : Nat) - 1)) (putF "_numbers" (.ref b) []))) x = _ from upd_same)
  refine ⟨_, rfl, x, C, dx, _, rfl, hx4, c, n3, (by show 2 < 1000; decide), ?_⟩
  rw [← lq] at g
  exact g _ b ((u3.trans (But.same s4)).trans but_put) nb upd_same (by rw [upd_ne xb]; exact s4 _ _ hb3)
end
end Kx
end
section
set_option maxHeartbeats 4000000
namespace Kx
open PySem PySem.Spec PyProof.Rows L2 RZ
theorem hgtN_ex : ∀ (qs : List Rat) (f : Nat), (∃ q ∈ qs, q ≠ 0) → ∃ k, k < qs.length ∧ hgtN qs f = some (f + k)
  | [], _, h => by obtain ⟨q, hq, _⟩ := h; cases hq
  | q :: qs, f, h => by
    by_cases c : q = 0
    · obtain ⟨r, hr, nr⟩ := h
      have hr' : r ∈ qs := by
        rcases List.mem_cons.mp hr with e | e
        · exact absurd (by rw [e]; exact c) nr
        · exact e
      obtain ⟨k, hk, e⟩ := hgtN_ex qs (f + 1) ⟨r, hr', nr⟩
      refine ⟨k + 1, by rw [List.length_cons]; omega, ?_⟩
      show (if q = 0 then hgtN qs (f + 1) else some f) = _
      rw [if_pos c, e]
      congr 1
      omega
    · refine ⟨0, by rw [List.length_cons]; omega, ?_⟩
      show (if q = 0 then hgtN qs (f + 1) else some f) = _
      rw [if_neg c]
      rfl
theorem not_zero {qs : List Rat} (h : ¬ (qs.all (fun q => decide (q = 0)) = true)) : ∃ q ∈ qs, q ≠ 0 := by
  rw [List.all_eq_true] at h
  exact Classical.byContradiction fun z => h fun q hq => decide_eq_true (Classical.byContradiction fun n => z ⟨q, hq, n⟩)
theorem kind_creep {qs : List Rat} (h : kindS qs = "creep") : ∃ q ∈ qs.drop 1, q ≠ 0 := by
  unfold kindS at h
  split at h
  · split at h <;> exact absurd h (by decide)
  · split at h
    · split at h
      · exact absurd h (by decide)
      · exact not_zero (by assumption)
    · split at h <;> exact absurd h (by decide)
theorem kind_crush {qs : List Rat} (h : kindS qs = "crush") : ∃ q ∈ qs, q ≠ 0 := by
  have z : ∃ q ∈ qs.drop 1, q ≠ 0 := by
    unfold kindS at h
    split at h
    · split at h
      · exact absurd h (by decide)
      · exact not_zero (by assumption)
    · split at h
      · split at h <;> exact absurd h (by decide)
      · split at h <;> exact absurd h (by decide)
  obtain ⟨q, hq, n⟩ := z
  exact ⟨q, List.mem_of_mem_drop hq, n⟩
/-- how far an __init__ has come -/
structure Stg (K : PySem.W.Frag) (H Hk : Hp) (x S dx : Addr) (fs : List (Str × V)) (b : Addr) (xs : List V) (qs : List Rat) : Prop where
  u : But x H Hk
  hx : Hk x = some (.ins S dx fs)
  hb : Hk b = some (.lst xs)
  nx : Nl K Hk xs qs
  xb : b ≠ x
theorem Stg.put {K : PySem.W.Frag} {H Hk : Hp} {x S dx : Addr} {fs : List (Str × V)} {b : Addr} {xs : List V} {qs : List Rat} (h : Stg K H Hk x S dx fs b xs qs) (fs' : List (Str × V)) : Stg K H (upd Hk x (.ins S dx fs')) x S dx fs' b xs qs :=
  ⟨h.u.trans but_put, upd_same, by rw [upd_ne h.xb]; exact h.hb, h.nx.but h.hx but_put, h.xb⟩
theorem Stg.go {K : PySem.W.Frag} {H Hk H' : Hp} {x S dx : Addr} {fs : List (Str × V)} {b : Addr} {xs : List V} {qs : List Rat} (h : Stg K H Hk x S dx fs b xs qs) (s : Same Hk H') : Stg K H H' x S dx fs b xs qs :=
  ⟨h.u.trans (But.same s), s _ _ h.hx, s _ _ h.hb, h.nx.same s, h.xb⟩
section
variable {P : Program} {w : World} {K : PySem.W.Frag} {mg : Str → Option Value} {base : Heap} {f fI C S CF CO o1 o0 : Addr} {fd : FuncData}
theorem scSI : FnScope nIn ["self", "numbers"] (defScope C_Step_init) := ⟨rfl, rfl, rfl, by decide +kernel, rfl, by decide +kernel, by decide +kernel⟩
theorem ok_stinit (G : Fun K "__init__" "Step.__init__" C_Step_init f fd) (c : Cls K S) (nA : ∀ n ∈ stN, NoAttr K S n) (mn : mg "len" = none)
    (UN : Use P w K mg base (L2.CX P w) 5 "checked_numbers" ["numbers", "further"] (spCn K CF CO) []) (UD : Use P w K mg base CX0 2 "kind_of" ["numbers"] (spKo K) []) (UL : Use P w K mg base CX0 1 "least_place" ["numbers", "first"] (spLp K) []) :
    FnOk P w K mg base (L2.CX P w) 6 f fd ["self", "numbers"] (spSI K S CF CO) := by
  refine G.okX scSI (fun vs H Q E h => ?_) (fun cdv A outer s H vs Q E hr h => ?_)
  · obtain ⟨x, dx, v, rfl, _⟩ := h
    rfl
  obtain ⟨x, dx, v, rfl, nv, hx, hg⟩ := h
  have hr1 := hr.mono (show 1 ≤ 5 by decide)
  have hr2 := hr.mono (show 2 ≤ 5 by decide)
  have n1 := nA "_numbers" (by simp [stN])
  have n2 := nA "order" (by simp [stN])
  have n3 := nA "lead" (by simp [stN])
  have n4 := nA "kind" (by simp [stN])
  have n5 := nA "height" (by simp [stN])
  have n6 := nA "flat" (by simp [stN])
  have n7 := nA "strength" (by simp [stN])
  refine ⟨_, pss_cons (ps_fld (pv 0) (pe_use (E := E) UN hr rfl (passes_call (takes_of rfl rfl rfl rfl) (fun _ _ _ _ h => h)) (pa_cons (pv 1) (pa_cons pe_int pa_nil))) rfl)
    (pss_cons (ps_fld (pv 0) (pe_callB call_len_seq rfl mn PySem.boot_len (pa_cons (pv 1) pa_nil)) rfl)
    (pss_cons (ps_fld (pv 0) (pe_ix ix_list (pe_fld (pv 0) rfl) pe_int (fun _ _ => rfl)) rfl)
    (pss_cons (ps_fld (pv 0) (pe_use UD hr2 rfl pass0 (pa_cons (pe_fld (pv 0) rfl) pa_nil)) rfl)
    (pss_cons (ps_fld (pv 0) (pe_use UL hr1 rfl pass0 (pa_cons (pe_fld (pv 0) rfl) (pa_cons pe_int pa_nil))) rfl)
    (pss_cons (ps_fld (pv 0) pe_non rfl)
    (pss_cons (ps_fld (pv 0) pe_non rfl)
    (C8.pss_cut (ps_if (pt_cmpR op_eq (pe_fld (pv 0) rfl) pe_str (nomark _)) (pss_cons (ps_fld (pv 0) (pe_use UL hr1 rfl pass0 (pa_cons (pe_slice sl_list (pe_fld (pv 0) rfl) (po_some pe_int) po_none) (pa_cons pe_int pa_nil))) rfl)
        (pss_one (ps_fld (pv 0) (pe_ix ix_list (pe_fld (pv 0) rfl) (pe_fld (pv 0) rfl) (fun _ _ => rfl)) rfl))) pss_nil)
    (pss_one (ps_if (pt_cmpR op_eq (pe_fld (pv 0) rfl) pe_str (nomark _)) (pss_one (ps_fld (pv 0) (pe_ix ix_list (pe_fld (pv 0) rfl) (pe_op op_sub (pe_fld (pv 0) rfl) pe_int) (fun _ _ => rfl)) rfl)) pss_nil))))))))), ?_⟩
  refine ⟨_, rfl, v, 0, rfl, ?_⟩
  refine hg.cn fun a xs qs H1 b ev ha nx g l1 l2 s1 nb hb => ?_
  subst ev
  have xb : b ≠ x := fun e => by rw [e, hx] at nb; cases nb
  have xa : a ≠ x := fun e => nv (by rw [e])
  have lq : xs.length = qs.length := nx.1
  have g1 : Stg K H H1 x S dx [] b xs qs := ⟨But.same s1, s1 _ _ hx, hb, nx.same s1, xb⟩
  have ha1 := ha.same s1
  refine ⟨_, rfl, x, S, dx, _, rfl, g1.hx, c, n1, by decide, ?_⟩
  have g2 := g1.put (putF "_numbers" (.ref b) [])
  have ha2 : SqH (upd H1 x (.ins S dx (putF "_numbers" (.ref b) []))) a xs := by
    unfold SqH
    rw [upd_ne xa]
    exact ha1
  generalize upd H1 x (.ins S dx (putF "_numbers" (.ref b) [])) = H2 at g2 ha2
  refine ⟨_, rfl, a, _, rfl, ha2.imp SqL.of SqT.of, _, rfl, x, S, dx, _, rfl, g2.hx, c, n2, (by show 1 < 1000; decide), ?_⟩
  have g3 := g2.put (putF "order" (.int ((xs.length : Nat) : Int)) (putF "_numbers" (.ref b) []))
  generalize upd H2 x (.ins S dx (putF "order" (.int ((xs.length : Nat) : Int)) (putF "_numbers" (.ref b) []))) = H3 at g3
  obtain ⟨x0, e0, m0⟩ := g3.nx.get' (i := 0) (by omega)
  refine ⟨_, rfl, x, S, dx, _, _, rfl, g3.hx, c, n1, rfl, b, xs, 0, x0, rfl, rfl, SqL.of g3.hb, at_of (j := 0) rfl e0, _, rfl, x, S, dx, _, rfl, g3.hx, c, n3, (by show 2 < 1000; decide), ?_⟩
  rw [lq] at g3 ⊢
  generalize hln : (((qs.length : Nat)) : Int) = ln at g3
  have g4 := g3.put (putF "lead" x0 (putF "order" (.int ln) (putF "_numbers" (.ref b) [])))
  generalize upd H3 x (.ins S dx (putF "lead" x0 (putF "order" (.int ln) (putF "_numbers" (.ref b) [])))) = H4 at g4
  refine ⟨_, rfl, x, S, dx, _, _, rfl, g4.hx, c, n1, rfl, .ref b, qs, rfl, ⟨b, xs, rfl, g4.hb, g4.nx⟩, by omega, by omega, fun H5 s5 => ?_⟩
  have g5 := g4.go s5
  refine ⟨_, rfl, x, S, dx, _, rfl, g5.hx, c, n4, (by show 3 < 1000; decide), ?_⟩
  generalize hkd : kindS qs = kd
  have g6 := g5.put (putF "kind" (.str kd) (putF "lead" x0 (putF "order" (.int ln) (putF "_numbers" (.ref b) []))))
  generalize upd H5 x (.ins S dx (putF "kind" (.str kd) (putF "lead" x0 (putF "order" (.int ln) (putF "_numbers" (.ref b) []))))) = H6 at g6
  refine ⟨_, rfl, x, S, dx, _, _, rfl, g6.hx, c, n1, rfl, .ref b, qs, 1, rfl, ⟨b, xs, rfl, g6.hb, g6.nx⟩, fun H7 s7 => ?_⟩
  have g7 := g6.go s7
  refine ⟨_, rfl, x, S, dx, _, rfl, g7.hx, c, n5, (by show 4 < 1000; decide), ?_⟩
  generalize hhv : hgtV qs 1 = hv
  have g8 := g7.put (putF "height" hv (putF "kind" (.str kd) (putF "lead" x0 (putF "order" (.int ln) (putF "_numbers" (.ref b) [])))))
  generalize upd H7 x (.ins S dx (putF "height" hv (putF "kind" (.str kd) (putF "lead" x0 (putF "order" (.int ln) (putF "_numbers" (.ref b) [])))))) = H8 at g8
  refine ⟨_, rfl, x, S, dx, _, rfl, g8.hx, c, n6, (by show 5 < 1000; decide), ?_⟩
  have g9 := g8.put (putF "flat" .non (putF "height" hv (putF "kind" (.str kd) (putF "lead" x0 (putF "order" (.int ln) (putF "_numbers" (.ref b) []))))))
  generalize upd H8 x (.ins S dx (putF "flat" .non (putF "height" hv (putF "kind" (.str kd) (putF "lead" x0 (putF "order" (.int ln) (putF "_numbers" (.ref b) []))))))) = H9 at g9
  refine ⟨_, rfl, x, S, dx, _, rfl, g9.hx, c, n7, (by show 6 < 1000; decide), ?_⟩
  have g10 : Stg K H (upd H9 x (.ins S dx (stF b ln x0 kd hv .non .non))) x S dx (stF b ln x0 kd hv .non .non) b xs qs := g9.put _
  refine ⟨fun σ H' => σ = [some (.ref x), some (.ref a)] ∧ ∃ fv sv, Stg K H H' x S dx (stF b ln x0 kd hv fv sv) b xs qs, ?_, ?_⟩
  · change Stg K H (upd H9 x (.ins S dx (putF "strength" .non (putF "flat" .non (putF "height" hv (putF "kind" (.str kd) (putF "lead" x0 (putF "order" (.int ln) (putF "_numbers" (.ref b) [])))))))))  x S dx (stF b ln x0 kd hv .non .non) b xs qs at g10
    generalize upd H9 x (.ins S dx (putF "strength" .non (putF "flat" .non (putF "height" hv (putF "kind" (.str kd) (putF "lead" x0 (putF "order" (.int ln) (putF "_numbers" (.ref b) [])))))))) = H10 at g10
    refine ⟨_, rfl, x, S, dx, _, _, rfl, g10.hx, c, n4, rfl, rfl, _, rfl, ite2 (fun e => ?_) (fun _ => ⟨rfl, _, _, g10⟩)⟩
    have ek : kindS qs = "creep" := by rw [hkd]; exact V.str.inj (of_decide_eq_true e)
    obtain ⟨k, hk, ek2⟩ := hgtN_ex (qs.drop 1) 0 (kind_creep ek)
    rw [List.length_drop] at hk
    refine ⟨_, rfl, x, S, dx, _, _, rfl, g10.hx, c, n1, rfl, 1, rfl, b, _, rfl, SqL.of g10.hb, fun p np => ?_⟩
    have ec : cutV xs (some 1) none = xs.drop 1 := cut_drop xs 1
    rw [ec]
    have s11 := new_same np (.lst (xs.drop 1))
    have g11 := g10.go s11
    refine ⟨.ref p, qs.drop 1, 1, rfl, ⟨p, _, rfl, upd_same, g11.nx.drop 1⟩, fun H12 s12 => ?_⟩
    have g12 := g11.go s12
    have ev : hgtV (qs.drop 1) 1 = .int (1 + (k : Nat)) := by
      unfold hgtV
      rw [ek2, Nat.zero_add]
    rw [ev]
    refine ⟨_, rfl, x, S, dx, _, rfl, g12.hx, c, n6, (by show 7 < 1000; decide), ?_⟩
    have g13 : Stg K H (upd H12 x (.ins S dx (putF "flat" (.int (1 + (k : Nat))) (stF b ln x0 kd hv .non .non)))) x S dx (stF b ln x0 kd hv (.int (1 + (k : Nat))) .non) b xs qs := g12.put _
    generalize upd H12 x (.ins S dx (putF "flat" (.int (1 + (k : Nat))) (stF b ln x0 kd hv .non .non))) = H13 at g13
    have e3 := List.getElem?_eq_getElem (l := xs) (i := 1 + k) (by omega)
    refine ⟨_, rfl, x, S, dx, _, _, rfl, g13.hx, c, n1, rfl, _, rfl, x, S, dx, _, _, rfl, g13.hx, c, n6, rfl, b, xs, _, _, rfl, rfl, SqL.of g13.hb, at_of (j := 1 + k) (by omega) e3, _, rfl, x, S, dx, _, rfl, g13.hx, c, n7, (by show 7 < 1000; decide), ?_⟩
    exact ⟨rfl, _, _, g13.put _⟩
  · rintro σ H10 ⟨rfl, fv, sv, g10⟩
    have fin : ∀ H' fv sv, Stg K H H' x S dx (stF b ln x0 kd hv fv sv) b xs qs → Q .non H' := fun H' fv sv z => by
      refine g H' b x0 fv sv e0 z.u nb ?_ z.hb
      rw [hln, hkd, hhv]
      exact z.hx
    refine ⟨_, rfl, x, S, dx, _, _, rfl, g10.hx, c, n4, rfl, rfl, _, rfl, ite2 (fun e => ?_) (fun _ => fin _ _ _ g10)⟩
    have ek : kindS qs = "crush" := by rw [hkd]; exact V.str.inj (of_decide_eq_true e)
    obtain ⟨k, hk, ek2⟩ := hgtN_ex qs 0 (kind_crush ek)
    have ev : hv = .int (1 + (k : Nat)) := by
      rw [← hhv]
      unfold hgtV
      rw [ek2, Nat.zero_add]
    have e3 := List.getElem?_eq_getElem (l := xs) (i := k) (by omega)
    refine ⟨_, rfl, x, S, dx, _, _, rfl, g10.hx, c, n1, rfl, _, rfl, x, S, dx, _, _, rfl, g10.hx, c, n5, rfl, 1 + (k : Nat), 1, ev, rfl, b, xs, _, _, rfl, rfl, SqL.of g10.hb, at_of (j := k) (by omega) e3, _, rfl, x, S, dx, _, rfl, g10.hx, c, n7, (by show 7 < 1000; decide), ?_⟩
    exact fin _ fv _ (g10.put _)
end
end Kx
end
section
set_option maxHeartbeats 4000000
namespace Kx
open PySem PySem.Spec PyProof.Rows L2
/-! ### operators of own classes -/
theorem ep_cmp {X : Cx} {pins : List (Addr × Obj)} {σ : L2.St} {Q : VK} {u : Value} {s' : Shared} (h : EP X pins σ Q u s') : PySem.W.CmpBack (EP X pins σ Q) u s' := by
  obtain ⟨v, H', I, r, q⟩ := h
  have key : u ≠ .notImplemented := by
    rintro rfl
    cases v <;> first | (obtain ⟨_, z⟩ := r; cases z) | cases r
  have fin : EP X pins σ Q u s' := ⟨v, H', I, r, q⟩
  cases u <;> first | exact fin | exact absurd rfl key
/-- an operator's method of a class -/
structure OpM (P : Program) (w : World) (K : PySem.W.Frag) (mg : Str → Option Value) (base : Heap) (CX : CXT) (k : Nat) (C : Addr) (nm : Str) (sp : Sp) : Prop where
  ex : ∃ (g : Addr) (fd : FuncData) (ps : List Str), PySem.W.findIn K (.ref C) nm = some (some (.ref g)) ∧ PySem.W.isFn K (.ref g) = true ∧ FnOk P w K mg base CX k g fd ps sp ∧ Binds K fd ps []
  sf : PySem.W.selfFirst K C = true
def rBin (C : Addr) (sp : Sp) (E : XK) : R2 := fun x y H Q => ∃ (a b dx dy : Addr) (fs gs : List (Str × V)), x = .ref a ∧ y = .ref b ∧ H a = some (.ins C dx fs) ∧ H b = some (.ins C dy gs) ∧ sp [x, y] H Q E
section
variable {X : Cx} {CX : CXT} {k : Nat} {C : Addr} {sp : Sp} {E : XK}
theorem op_bin {op : Operator} {nm : Str} (O : OpM X.prog X.w X.K X.mg X.base CX k C nm sp) (hn : PySem.dunder op.info.2 = nm) (hr : Room k X.A) (hx : Passes CX X E) : OpR X (binaryOp op) (rBin C sp E) := by
  intro pins s σ H x y v u Q I rx ry h
  obtain ⟨a, b, dx, dy, fs, gs, rfl, rfl, ha, hb', hsp⟩ := h
  obtain ⟨g, fd, ps, h1, h2, F, hb⟩ := O.ex
  cases rx
  cases ry
  obtain ⟨mA, J, _⟩ := ins_get I.hok ha
  obtain ⟨mB, J', _⟩ := ins_get I.hok hb'
  obtain ⟨od, J, _⟩ := J.look
  obtain ⟨od', J', _⟩ := J'.look
  obtain ⟨m, hF⟩ := I.fr
  refine PySem.W.binop_K (op := op) hF I.ok.mod.kin J J'.type O.sf (by rw [hn]; exact h1) h2 ?_
  exact wpAny_mono (run_fn (us := [.ref a, .ref b]) (vs := [.ref a, .ref b]) F hr hb .nil hx I (.cons rfl (.cons rfl .nil)) (by rw [List.append_nil]; exact hsp)) (fun r s' hq => ep_cmp hq) fun _ _ z => z
def rUnO (C : Addr) (sp : Sp) (E : XK) : V → Hp → VK → Prop := fun x H Q => ∃ (a dx : Addr) (fs : List (Str × V)), x = .ref a ∧ H a = some (.ins C dx fs) ∧ sp [x] H Q E
theorem un_own (O : OpM X.prog X.w X.K X.mg X.base CX k C "__neg__" sp) (hr : Room k X.A) (hx : Passes CX X E) : UnR X (unaryOp .USub) (rUnO C sp E) := by
  intro pins s σ H x v Q I rx h
  obtain ⟨a, dx, fs, rfl, ha, hsp⟩ := h
  obtain ⟨g, fd, ps, h1, h2, F, hb⟩ := O.ex
  cases rx
  obtain ⟨mA, J, _⟩ := ins_get I.hok ha
  obtain ⟨od, J, _⟩ := J.look
  obtain ⟨m, hF⟩ := I.fr
  refine PySem.W.ksp_neg hF I.ok.mod.kin J h1 h2 ?_
  exact run_fn (us := [.ref a]) (vs := [.ref a]) F hr hb .nil hx I (.cons rfl .nil) (by rw [List.append_nil]; exact hsp)
/-- ==, the left one of the class -/
def rEqO (K : PySem.W.Frag) (C : Addr) (sp : Sp) (E : XK) : R2 := fun x y H Q => ∃ (a dx : Addr) (fs : List (Str × V)) (t : Value), x = .ref a ∧ H a = some (.ins C dx fs) ∧ TyX K H y t ∧ PySem.W.notFirst K C t = true ∧ sp [x, y] H Q E
theorem op_eqO (O : OpM X.prog X.w X.K X.mg X.base CX k C "__eq__" sp) (hr : Room k X.A) (hx : Passes CX X E) : OpR X (compareOp .Eq) (rEqO X.K C sp E) := by
  intro pins s σ H x y v u Q I rx ry h
  obtain ⟨a, dx, fs, t, rfl, ha, ty, nf, hsp⟩ := h
  obtain ⟨g, fd, ps, h1, h2, F, hb⟩ := O.ex
  cases rx
  obtain ⟨mA, J, _⟩ := ins_get I.hok ha
  obtain ⟨od, J, _⟩ := J.look
  obtain ⟨m, hF⟩ := I.fr
  obtain ⟨Pp, Z, pp, _⟩ := kit_of I ry ty
  show wpAny (model X.prog X.w) X.A (richCompare .Eq (.ref a) u) (EP X pins σ Q) X.xe s
  refine PySem.W.cmp_K (op := .Eq) (tb := t) hr.units0 hF I.ok.mod.kin J (Z.ty _ _ I.kIn pp) nf h1 h2 ?_
  exact wpAny_mono (run_fn (us := [.ref a, u]) (vs := [.ref a, y]) F hr hb .nil hx I (.cons rfl (.cons ry .nil)) (by rw [List.append_nil]; exact hsp)) (fun r s' hq => ep_cmp hq) fun _ _ z => z
/-- len(x), x of the class -/
def rLenO (C : Addr) (sp : Sp) (E : XK) : List V → Hp → VK → Prop := fun xs H Q => ∃ (a dx : Addr) (fs : List (Str × V)), xs = [.ref a] ∧ H a = some (.ins C dx fs) ∧ sp [.ref a] H (fun v H' => ∃ n : Nat, v = .int (n : Nat) ∧ n < 2 ^ 62 ∧ Q (.int (n : Nat)) H') E
theorem call_lenO (O : OpM X.prog X.w X.K X.mg X.base CX k C "__len__" sp) (hr : Room (k + 1) X.A) (hx : Passes CX X E) : CallR X (.builtin "len") (rLenO C sp E) := by
  intro pins s σ H xs us Q I r h
  obtain ⟨a, dx, fs, rfl, ha, hsp⟩ := h
  obtain ⟨g, fd, ps, h1, h2, F, hb⟩ := O.ex
  obtain rfl : us = [.ref a] := Vals.ref1 r
  obtain ⟨mA, J, _⟩ := ins_get I.hok ha
  obtain ⟨od, J, _⟩ := J.look
  obtain ⟨m, hF⟩ := I.fr
  refine PySem.W.len_K hF I.ok.mod.kin J h1 h2 ?_
  have hl := F.len _ _ _ _ hsp
  refine wpAny_call (codeAny_mono (F.run X.A.in1 X.stack s H ⟨[.ref a], []⟩ [.ref a] [.ref a] _ E hr.in1 I.env0.in1 (by
    have := hb s [.ref a] I.kIn (by simpa using hl)
    simpa using this) (.cons rfl .nil) hsp) fun r s' hq => ?_)
  cases r with
  | error e => exact hx pins σ H s e s' I hq
  | ok fl =>
    cases fl with
    | ret w =>
      obtain ⟨z, H', I', rz, n, ez, nb, q⟩ := I.after hq
      subst ez
      obtain ⟨t, rfl⟩ := rz
      exact ⟨⟨by omega, by omega⟩, .int _, H', I'.tok _, ⟨_, rfl⟩, q⟩
    | next => exact False.elim hq
    | brk => exact False.elim hq
    | cont => exact False.elim hq
end
/-! ### methods as they are used -/
structure MUse (P : Program) (w : World) (K : PySem.W.Frag) (mg : Str → Option Value) (base : Heap) (CX : CXT) (k : Nat) (C : Addr) (m : Str) (ps : List Str) (sp : Sp) (kws : List (List Str)) : Prop where
  ex : ∃ (g : Addr) (fd : FuncData), Meth K C m g ∧ FnOk P w K mg base CX k g fd ps sp ∧ Binds K fd ps [] ∧ ∀ ks ∈ kws, KBn K fd ps 1 ks appB appA
  c : Cls K C
section
variable {X : Cx} {CX : CXT} {k : Nat} {C : Addr} {m : Str} {ps ks : List Str} {sp : Sp} {E : XK} {kl : List (List Str)} {o e : Expr} {es : List Expr} {ta : TE} {t tk : TA} {apos pos : Pos} {kws : List Keyword} {pl : Sem Bool}
theorem pe_mu (U : MUse X.prog X.w X.K X.mg X.base CX k C m ps sp kl) (he : PE X o ta) (hr : Room k X.A) (hx : Passes CX X E) (ha : PA X (e :: es) t)
    (hst : starEach (e :: es) X.env = (false, eval e X.env) :: starEach es X.env := by rfl) (hpl : (backTo pos (starEach es X.env)).any (·.1) = false := by rfl)
    (ht : eval (.Call (.Attribute o m apos) (e :: es) [] pos) X.env = (do
      let ov ← eval o X.env
      standAt apos.atName
      let (f, first) ← holding [ov] (getMethod ov m pl)
      callWith pos f first (backTo pos (starEach (e :: es) X.env)) (backToKw pos (keywordEach [] X.env))) := by rfl) :
    PE X (.Call (.Attribute o m apos) (e :: es) [] pos) (tMeth C m sp [] E ta t) := by
  obtain ⟨g, fd, hm, F, hb, _⟩ := U.ex
  exact pe_meth (pl := pl) he U.c hm F hr hb .nil hx ha hst hpl ht
theorem pe_mu0 (U : MUse X.prog X.w X.K X.mg X.base CX k C m ps sp kl) (he : PE X o ta) (hr : Room k X.A) (hx : Passes CX X E)
    (ht : eval (.Call (.Attribute o m apos) [] [] pos) X.env = (do
      let ov ← eval o X.env
      standAt apos.atName
      let (f, first) ← holding [ov] (getMethod ov m pl)
      callWith pos f first (backTo pos (starEach [] X.env)) (backToKw pos (keywordEach [] X.env))) := by rfl) :
    PE X (.Call (.Attribute o m apos) [] [] pos) (tMeth C m sp [] E ta tNil) := by
  obtain ⟨g, fd, hm, F, hb, _⟩ := U.ex
  exact pe_meth0 (pl := pl) he U.c hm F hr hb .nil hx ht
/-- o.m(k = v, ..), keywords alone -/
def tMethR (C : Addr) (m : Str) (n : Nat) (sp : Sp) (E : XK) (ta : TE) (tk : TA) : TE := fun σ H Q => ta σ H fun x H1 => ∃ a dx fs, x = .ref a ∧ H1 a = some (.ins C dx fs) ∧ fs.lookup m = none ∧ tk σ H1 fun zs H2 => zs.length = n ∧ sp (x :: zs) H2 Q E
theorem pe_muR (U : MUse X.prog X.w X.K X.mg X.base CX k C m ps sp kl) (he : PE X o ta) (hr : Room k X.A) (hx : Passes CX X E) (hkw : PK X kws tk) (hin : ks ∈ kl)
    (hall : (backToKw pos (keywordEach kws X.env)).all (·.1.isSome) = true := by rfl) (hks : (backToKw pos (keywordEach kws X.env)).filterMap (·.1) = ks := by rfl)
    (hpl : ((backTo pos (starEach [] X.env)).any (·.1) || (backToKw pos (keywordEach kws X.env)).any (·.1.isNone)) = false := by rfl)
    (ht : eval (.Call (.Attribute o m apos) [] kws pos) X.env = (do
      let ov ← eval o X.env
      standAt apos.atName
      let (f, first) ← holding [ov] (getMethod ov m pl)
      callWith pos f first (backTo pos (starEach [] X.env)) (backToKw pos (keywordEach kws X.env))) := by rfl) :
    PE X (.Call (.Attribute o m apos) [] kws pos) (tMethR C m ks.length sp E ta tk) := by
  obtain ⟨g, fd, hm, F, _, hK⟩ := U.ex
  have hb := hK ks hin
  refine ⟨fun pins s σ H Q I h => ?_⟩
  refine PySem.W.methodCall_KW (pl := pl) (thn (he.run pins s σ H _ I h) fun u s1 ⟨x, H1, I1, rx, a, dx, fs, ex, ea, l, q⟩ => ?_) ht
  subst ex
  obtain rfl : u = Value.ref a := rx
  refine getmeth_ok I1 ea U.c hm l ?_
  refine PySem.W.callWith_KW0 (first := [.ref a]) (h₀ := X.base) I.ok.mod.kin hm.kp hall ?_ hpl
  refine thn (hkw.run pos pins s1 σ H1 _ I1 q) fun ws s2 ⟨zs, H2, I2, rz, l2, q2⟩ => ⟨I2.kIn, ?_⟩
  rw [hks]
  exact run_fnN (us := [.ref a]) (vs := [.ref a]) F hr hb hx I2 (.cons rfl .nil) rz rfl l2 q2
end
structure CSta (K : PySem.W.Frag) (C : Addr) (mc : Value) (m : Str) (p g : Addr) : Prop where
  at_ : PySem.W.findCls K (.ref C) mc m = some (.get (.builtin "staticmethod.__get__") (.ref p) .none (.ref C))
  rc : ∃ rest, PySem.W.recIn K p "staticmethod" = some (.ref g :: rest)
  kp : PySem.W.keepIn K (.ref g) = true
def tStat (C : Addr) (sp : Sp) (E : XK) (ta : TE) (t : TA) : TE := fun σ H Q => ta σ H fun x H1 => x = .ref C ∧ t σ H1 fun vs H2 => sp vs H2 Q E
section
variable {X : Cx} {CX : CXT} {k : Nat} {C p g : Addr} {mc : Value} {fd : FuncData} {ps : List Str} {sp : Sp} {E : XK} {o e : Expr} {es : List Expr} {m : Str} {pos apos : Pos} {ta : TE} {t : TA} {pl : Sem Bool}
theorem pe_static (he : PE X o ta) (r : ClX.CRead X.K C mc) (c : CSta X.K C mc m p g) (F : FnOk X.prog X.w X.K X.mg X.base CX k g fd ps sp) (hr : Room k X.A) (hb : Binds X.K fd ps []) (hx : Passes CX X E) (ha : PA X (e :: es) t)
    (hst : starEach (e :: es) X.env = (false, eval e X.env) :: starEach es X.env := by rfl) (hpl : (backTo pos (starEach es X.env)).any (·.1) = false := by rfl)
    (ht : eval (.Call (.Attribute o m apos) (e :: es) [] pos) X.env = (do
      let ov ← eval o X.env
      standAt apos.atName
      let (f, first) ← holding [ov] (getMethod ov m pl)
      callWith pos f first (backTo pos (starEach (e :: es) X.env)) (backToKw pos (keywordEach [] X.env))) := by rfl) :
    PE X (.Call (.Attribute o m apos) (e :: es) [] pos) (tStat C sp E ta t) := by
  refine ⟨fun pins s σ H Q I h => ?_⟩
  refine PySem.W.methodCall_KW (pl := pl) (thn (he.run pins s σ H _ I h) fun u s1 ⟨x, H1, I1, rx, ex, q⟩ => ?_) ht
  subst ex
  obtain rfl : u = Value.ref C := rx
  obtain ⟨rest, hp⟩ := c.rc
  refine PySem.W.method_cls I1.kIn r.ga (PySem.W.cls_bind I1.kIn r.rd c.at_ (wpAny_call (PySem.W.sm_get (s := { s1 with toks := s1.toks + 1 }) I1.kIn hp (PySem.W.handed_on rfl ?_))))
  have I2 : Inv X pins σ H1 { s1 with toks := s1.toks + 1 } := I1.tok _
  refine PySem.W.callWith_K (h₀ := X.base) I2.ok.mod.kin c.kp (thn (ha.run pos pins _ σ H1 _ I2 q) fun us s3 ⟨vs, H2, I3, rv, q2⟩ => ⟨I3.kIn, ?_⟩) hst hpl
  exact run_fn F hr hb .nil hx I3 rv (by rw [List.append_nil]; exact q2)
end
/-- C.m(k = v, ..) of a staticmethod, keywords alone -/
def tStatR (C : Addr) (n : Nat) (sp : Sp) (E : XK) (ta : TE) (t : TA) : TE := fun σ H Q => ta σ H fun x H1 => x = .ref C ∧ t σ H1 fun zs H2 => zs.length = n ∧ sp zs.reverse H2 Q E
section
variable {X : Cx} {CX : CXT} {k : Nat} {C p g : Addr} {mc : Value} {fd : FuncData} {ps ks : List Str} {sp : Sp} {E : XK} {o : Expr} {m : Str} {pos apos : Pos} {ta : TE} {tk : TA} {pl : Sem Bool} {kws : List Keyword}
theorem pe_staticR (he : PE X o ta) (r : ClX.CRead X.K C mc) (c : CSta X.K C mc m p g) (F : FnOk X.prog X.w X.K X.mg X.base CX k g fd ps sp) (hr : Room k X.A) (hb : KBn X.K fd ps 0 ks revB revA) (hx : Passes CX X E) (hkw : PK X kws tk)
    (hall : (backToKw pos (keywordEach kws X.env)).all (·.1.isSome) = true := by rfl) (hks : (backToKw pos (keywordEach kws X.env)).filterMap (·.1) = ks := by rfl)
    (hpl : ((backTo pos (starEach [] X.env)).any (·.1) || (backToKw pos (keywordEach kws X.env)).any (·.1.isNone)) = false := by rfl)
    (ht : eval (.Call (.Attribute o m apos) [] kws pos) X.env = (do
      let ov ← eval o X.env
      standAt apos.atName
      let (f, first) ← holding [ov] (getMethod ov m pl)
      callWith pos f first (backTo pos (starEach [] X.env)) (backToKw pos (keywordEach kws X.env))) := by rfl) :
    PE X (.Call (.Attribute o m apos) [] kws pos) (tStatR C ks.length sp E ta tk) := by
  refine ⟨fun pins s σ H Q I h => ?_⟩
  refine PySem.W.methodCall_KW (pl := pl) (thn (he.run pins s σ H _ I h) fun u s1 ⟨x, H1, I1, rx, ex, q⟩ => ?_) ht
  subst ex
  obtain rfl : u = Value.ref C := rx
  obtain ⟨rest, hp⟩ := c.rc
  refine PySem.W.method_cls I1.kIn r.ga (PySem.W.cls_bind I1.kIn r.rd c.at_ (wpAny_call (PySem.W.sm_get (s := { s1 with toks := s1.toks + 1 }) I1.kIn hp (PySem.W.handed_on rfl ?_))))
  have I2 : Inv X pins σ H1 { s1 with toks := s1.toks + 1 } := I1.tok _
  refine PySem.W.callWith_KW0 (h₀ := X.base) I2.ok.mod.kin c.kp hall ?_ hpl
  refine thn (hkw.run pos pins _ σ H1 _ I2 q) fun ws s3 ⟨zs, H2, I3, rz, l2, q2⟩ => ⟨I3.kIn, ?_⟩
  rw [hks]
  exact run_fnN (us := []) (vs := []) F hr hb hx I3 .nil rz rfl l2 q2
end
end Kx
end
section
set_option maxHeartbeats 4000000
namespace Kx
open PySem PySem.Spec PyProof.Rows L2 RZ
/-! ### lists of numbers as data -/
def datL (qs : List Rat) : PyData := .list (qs.map tupQ)
theorem dpAll : ∀ {K : PySem.W.Frag} {H : Hp} {xs : List V} {qs : List Rat}, Nl K H xs qs → DpAll K H xs (qs.map tupQ)
  | _, _, [], [], _ => .nil
  | _, _, [], _ :: _, h => by cases h.1
  | _, _, _ :: _, [], h => by cases h.1
  | _, _, x :: xs, q :: qs, h => .cons (h.2 0 x q rfl rfl).dp (dpAll h.tail)
theorem Nl.dp {K : PySem.W.Frag} {H : Hp} {b : Addr} {xs : List V} {qs : List Rat} (h : Nl K H xs qs) (e : H b = some (.lst xs)) : Dp K H (.ref b) (datL qs) := .lst (SqL.of e) (dpAll h)
theorem eqvA_num : ∀ qs rs : List Rat, PyData.eqvAll (qs.map tupQ) (rs.map tupQ) = decide (qs = rs)
  | [], [] => rfl
  | [], _ :: _ => by simp [PyData.eqvAll]
  | _ :: _, [] => by simp [PyData.eqvAll]
  | q :: qs, r :: rs => by
    show (PyData.eqv (tupQ q) (tupQ r) && PyData.eqvAll (qs.map tupQ) (rs.map tupQ)) = _
    rw [eqv_num, eqvA_num qs rs]
    by_cases c : q = r
    · by_cases d : qs = rs
      · simp [c, d]
      · simp [c, d]
    · simp [c]
theorem eqv_list (qs rs : List Rat) : PyData.eqv (datL qs) (datL rs) = decide (qs = rs) := by
  show PyData.eqvAll _ _ = _
  exact eqvA_num qs rs
theorem lay_num : ∀ qs : List Rat, PyData.canLayAll0 (qs.map tupQ) = true ∧ PyData.depthAll (qs.map tupQ) ≤ 1
  | [] => ⟨rfl, by decide⟩
  | q :: qs => by
    obtain ⟨h1, h2⟩ := lay_num qs
    constructor
    · show (PyData.canLay0 (tupQ q) && PyData.canLayAll0 (qs.map tupQ)) = true
      rw [h1]
      rfl
    · show max (PyData.depth (tupQ q)) (PyData.depthAll (qs.map tupQ)) ≤ 1
      have : PyData.depth (tupQ q) = 1 := rfl
      omega
theorem shaped_list (qs : List Rat) : SeqAt.shaped (datL qs) = true := by
  obtain ⟨h1, h2⟩ := lay_num qs
  unfold SeqAt.shaped
  rw [Bool.and_eq_true]
  refine ⟨h1, decide_eq_true ?_⟩
  show PyData.depthAll (qs.map tupQ) + 1 ≤ 64
  omega
/-! ### the methods of rows -/
section
variable (K : PySem.W.Frag) (C S : Addr)
/-- a new row comes back -/
def GivesR (H : Hp) (Q : VK) (rs : List Rat) : Prop := ∀ H' y, Same H H' → RwAt K C H' y rs → Q y H'
def spNu : Sp := fun vs H Q _ => ∃ (x : V) (qs : List Rat), vs = [x] ∧ RwAt K C H x qs ∧ GivesL K H Q qs
def spNm (CP : Addr) : Sp := fun vs H Q E => ∃ (x v : V) (qs : List Rat) (r : Bool), vs = [x, v] ∧ RwAt K C H x qs ∧ InR K H v 0 ((qs.length : Int) - 1) r ∧ (r = false → Air H CP (fs1 "InvalidPlace" "value" [v]) E) ∧
  (r = true → ∀ (j : Nat) (y : V) (q : Rat), v = .int (j : Nat) → qs[j]? = some q → Nq K H y q → Q y H)
def spSc (CN : Addr) : Sp := fun vs H Q E => ∃ (x v : V) (qs : List Rat) (r : Bool), vs = [x, v] ∧ RwAt K C H x qs ∧ IsG K H v r ∧ (r = false → Air H CN (fs1 "InvalidNumber" "value" [v]) E) ∧
  (r = true → ∃ t, Nq K H v t ∧ AllB 4000 qs ∧ Bq 4000 t ∧ GivesR K C H Q (qs.map (· * t)))
def spCu (CO CL : Addr) : Sp := fun vs H Q E => ∃ (x v : V) (qs : List Rat) (r : Bool), vs = [x, v] ∧ RwAt K C H x qs ∧ InR K H v 2 24 r ∧ (r = false → Air H CO (fs1 "InvalidOrder" "value" [v]) E) ∧
  (r = true → ∀ i : Int, v = .int i → ((qs.length : Int) - 1 < i → Air H CL (fs2 "OrderTooLow" "have" "wanted" [.int ((qs.length : Int) - 1), .int i]) E) ∧ (i ≤ (qs.length : Int) - 1 → GivesR K C H Q (qs.take (i.toNat + 1))))
def spCt (CN CO : Addr) : Sp := fun vs H Q E => ∃ (v u : V) (r1 r2 : Bool), vs = [v, u] ∧ IsG K H v r1 ∧ InR K H u 2 24 r2 ∧ (r1 = false → Air H CN (fs1 "InvalidNumber" "value" [v]) E) ∧ (r1 = true → r2 = false → Air H CO (fs1 "InvalidOrder" "value" [u]) E) ∧
  (r1 = true → r2 = true → ∃ (q : Rat) (n : Nat), Nq K H v q ∧ u = .int (n : Nat) ∧ 2 ≤ n ∧ n ≤ 24 ∧ GivesR K C H Q (q :: List.replicate n 0))
def spOp (CU : Addr) (n : Nat) (op : List Rat → List Rat → List Rat) : Sp := fun vs H Q E => ∃ (x y : V) (qs rs : List Rat), vs = [x, y] ∧ RwAt K C H x qs ∧ RwAt K C H y rs ∧ (qs.length ≠ rs.length → Air H CU (fs2 "UnlikeOrders" "one" "other" [.int ((qs.length : Int) - 1), .int ((rs.length : Int) - 1)]) E) ∧
  (qs.length = rs.length → AllB n qs ∧ AllB n rs ∧ GivesR K C H Q (op qs rs))
def spNe : Sp := fun vs H Q _ => ∃ (x : V) (qs : List Rat), vs = [x] ∧ RwAt K C H x qs ∧ GivesR K C H Q (qs.map (- ·))
def spEqR : Sp := fun vs H Q _ => ∃ (x y : V) (qs : List Rat), vs = [x, y] ∧ RwAt K C H x qs ∧ ((∃ rs, RwAt K C H y rs ∧ Q (.bl (decide (qs = rs))) H) ∨ (∃ T, TyX K H y T ∧ PySem.W.kitOne K T (.ref C) = some false ∧ Q (.bl false) H))
def spLe : Sp := fun vs H Q _ => ∃ (x : V) (qs : List Rat), vs = [x] ∧ RwAt K C H x qs ∧ Q (.int (qs.length : Nat)) H
end
/-- what stands of the class of the rows -/
structure RowK (P : Program) (w : World) (K : PySem.W.Frag) (mg : Str → Option Value) (base : Heap) (C CF CO : Addr) : Prop where
  c : Cls K C
  nA : ∀ n ∈ rwN, NoAttr K C n
  m : mg "Row" = some (.ref C)
  ini : ∃ (fI : Addr) (fd : FuncData), Mk K C fI ∧ FnOk P w K mg base (L2.CX P w) 6 fI fd ["self", "numbers"] (spRI K C CF CO) ∧ Binds K fd ["self", "numbers"] [] ∧ KBn K fd ["self", "numbers"] 1 ["numbers"] appB appA
  ty : ∀ H a dx fs, H a = some (.ins C dx fs) → TyX K H (.ref a) (.ref C)
  kit : PySem.W.kitOne K (.ref C) (.ref C) = some true
section
variable {P : Program} {w : World} {K : PySem.W.Frag} {mg : Str → Option Value} {base : Heap} {f C S CF CO CN CP CL CU o0 : Addr} {fd : FuncData}
theorem RwAt.num {H : Hp} {v : V} {qs : List Rat} (h : RwAt K C H v qs) (k : RowK P w K mg base C CF CO) : ∃ (x dx b : Addr) (xs : List V) (fs : List (Str × V)), v = .ref x ∧ H x = some (.ins C dx fs) ∧ H b = some (.lst xs) ∧ Nl K H xs qs ∧ fs.lookup ("_numbers" : Str) = some (.ref b) ∧ fs.lookup ("order" : Str) = some (.int ((qs.length : Int) - 1)) ∧ fs.lookup ("height" : Str) = some (hgtV qs 0) ∧ fs.lookup ("numbers" : Str) = none ∧ 3 ≤ qs.length ∧ qs.length ≤ 25 := by
  obtain ⟨x, dx, b, xs, e, h1, h2, h3, h4, h5⟩ := h
  exact ⟨x, dx, b, xs, _, e, h1, h2, h3, rfl, rfl, rfl, rfl, h4, h5⟩
theorem RwAt.ord {H : Hp} {v : V} {qs : List Rat} (h : RwAt K C H v qs) (k : RowK P w K mg base C CF CO) : At K H v "order" (.int ((qs.length : Int) - 1)) := by
  obtain ⟨x, dx, b, xs, e, h1, _⟩ := h
  exact ⟨x, C, dx, _, e, h1, k.c, k.nA _ (by simp [rwN]), rfl⟩
/-- Row(v): from the numbers that v holds -/
theorem mk_row {H : Hp} {v : V} {E : XK} {Q : VK} (h : Giv K CF CO H v (-1) E fun xs qs => ∀ H' y, Same H H' → RwAt K C H' y qs → Q y H') (hv : ∀ a, v = .ref a → H a ≠ none) :
    ∀ x dx, H x = none → H dx = none → dx ≠ x → spRI K C CF CO [.ref x, v] (upd (upd H dx (.own x)) x (.ins C dx [])) (fun z H2 => z = .non ∧ Q (.ref x) H2) E := by
  intro x dx nx ndx ne
  have hx2 : upd (upd H dx (.own x)) x (.ins C dx []) x = some (.ins C dx []) := upd_same
  have sm : Same H (upd (upd H dx (.own x)) x (.ins C dx [])) := (new_same ndx _).trans (new_same (by rw [upd_ne (Ne.symm ne)]; exact nx) _)
  refine ⟨x, dx, v, rfl, fun e => hv x e nx, hx2, ?_⟩
  rcases h with ⟨h1, h2⟩ | ⟨a, xs, ev, ha, h⟩
  · exact .inl ⟨h1.same sm, h2.same sm⟩
  refine .inr ⟨a, xs, ev, ha.same sm, ?_⟩
  rcases h with ⟨ho, air⟩ | ⟨l1, l2, h⟩
  · exact .inl ⟨ho, air.same sm⟩
  refine .inr ⟨l1, l2, ?_⟩
  rcases h with ⟨rs, k, hI, hb, air⟩ | ⟨qs, hn, q⟩
  · exact .inl ⟨rs, k, hI.same sm, hb, air.same sm⟩
  refine .inr ⟨qs, hn.same sm, fun H' b u nb hx hb => ⟨rfl, ?_⟩⟩
  have lq : xs.length = qs.length := hn.1
  have s' : Same H H' := fun e o he => u e o (fun z => by rw [z, nx] at he; cases he) (sm e o he)
  exact q H' _ s' ⟨x, dx, b, xs, rfl, hx, hb, hn.same s', by omega, by omega⟩
/-- a list of numbers that is long enough is taken -/
theorem giv_ok {H : Hp} {a : Addr} {xs : List V} {qs : List Rat} {fu : Int} {E : XK} {good : List V → List Rat → Prop} (ha : SqH H a xs) (hn : Nl K H xs qs) (l1 : 2 ≤ (qs.length : Int) + fu) (l2 : (qs.length : Int) + fu ≤ 24) (g : good xs qs) :
    Giv K CF CO H (.ref a) fu E good := .inr ⟨a, xs, rfl, ha, .inr ⟨by rw [hn.1]; exact l1, by rw [hn.1]; exact l2, .inr ⟨qs, hn, g⟩⟩⟩
theorem row_new {H H1 : Hp} {a : Addr} {xs : List V} {qs : List Rat} {E : XK} {Q : VK} (s : Same H H1) (ha : SqH H1 a xs) (hn : Nl K H1 xs qs) (l1 : 3 ≤ qs.length) (l2 : qs.length ≤ 25) (g : GivesR K C H Q qs) :
    ∀ x dx, H1 x = none → H1 dx = none → dx ≠ x → spRI K C CF CO [.ref x, .ref a] (upd (upd H1 dx (.own x)) x (.ins C dx [])) (fun z H2 => z = .non ∧ Q (.ref x) H2) E :=
  mk_row (giv_ok ha hn (by omega) (by omega) fun H' y s' r => g H' y (s.trans s') r) fun b e z => by
    obtain rfl : a = b := V.ref.inj e
    rcases ha with h | h <;> rw [h] at z <;> cases z
end
end Kx
end
section
set_option maxHeartbeats 4000000
namespace Kx
open PySem PySem.Spec PyProof.Rows L2 RZ
section
variable {P : Program} {w : World} {K : PySem.W.Frag} {mg : Str → Option Value} {base : Heap} {f C S CF CO CN CP CL CU o0 : Addr} {fd : FuncData}
theorem scNu : FnScope ["self"] ["self"] (defScope C_Row_numbers) := ⟨rfl, rfl, rfl, by decide +kernel, rfl, by decide +kernel, by decide +kernel⟩
theorem ok_numbers (G : Fun K "numbers" "Row.numbers" C_Row_numbers f fd) (k : RowK P w K mg base C CF CO) (ml : mg "list" = none) : FnOk P w K mg base CX0 1 f fd ["self"] (spNu K C) := by
  refine G.ok scNu (fun vs H Q E h => ?_) (fun cdv A outer s H vs Q E hr h => ?_)
  · obtain ⟨x, qs, rfl, _⟩ := h
    rfl
  obtain ⟨v, qs, rfl, hR, q⟩ := h
  obtain ⟨x, dx, b, xs, fs, rfl, hx, hb, nx, f1, f2, f3, f4, _⟩ := hR.num k
  refine ⟨_, pss_one (ps_ret (pe_callTy call_list_of rfl ml (by decide +kernel) (pa_cons (pe_fld (pv 0) rfl) pa_nil))), ?_⟩
  exact ⟨_, rfl, x, C, dx, _, _, rfl, hx, k.c, k.nA _ (by simp [rwN]), f1, b, xs, rfl, .inl (SqL.of hb), fun l nl => q l _ xs (new_same nl _) nl upd_same (nx.same (new_same nl _))⟩
theorem scNm : FnScope ["self", "place"] ["self", "place"] (defScope C_Row_number) := ⟨rfl, rfl, rfl, by decide +kernel, rfl, by decide +kernel, by decide +kernel⟩
theorem ok_number (G : Fun K "number" "Row.number" C_Row_number f fd) (k : RowK P w K mg base C CF CO) (UP : Use P w K mg base (L2.CX P w) 3 "check_place" ["place", "first", "last"] (spCp K CP) []) : FnOk P w K mg base (L2.CX P w) 4 f fd ["self", "place"] (spNm K C CP) := by
  refine G.okX scNm (fun vs H Q E h => ?_) (fun cdv A outer s H vs Q E hr h => ?_)
  · obtain ⟨x, v, qs, r, rfl, _⟩ := h
    rfl
  obtain ⟨y, v, qs, r, rfl, hR, hin, h1, h2⟩ := h
  obtain ⟨x, dx, b, xs, fs, rfl, hx, hb, nx, f1, f2, f3, f4, _⟩ := hR.num k
  refine ⟨_, pss_cons (ps_expr (pe_use (E := E) UP hr rfl (passes_call (takes_of rfl rfl rfl rfl) (fun _ _ _ _ h => h)) (pa_cons (pv 1) (pa_cons pe_int (pa_cons (pe_fld (pv 0) rfl) pa_nil)))))
    (pss_one (ps_ret (pe_ix ix_list (pe_fld (pv 0) rfl) (pv 1) (fun _ _ => rfl)))), ?_⟩
  refine ⟨_, rfl, _, rfl, x, C, dx, _, _, rfl, hx, k.c, k.nA _ (by simp [rwN]), f2, v, 0, (qs.length : Int) - 1, r, rfl, hin, fun hr' => ?_, h1⟩
  obtain ⟨b0, hw, hh⟩ := hin
  rcases hh with ⟨_, e⟩ | ⟨i, _, rfl, e⟩
  · rw [hr'] at e; cases e
  rw [hr'] at e
  have e2 := e.symm
  rw [Bool.and_eq_true, decide_eq_true_eq, decide_eq_true_eq] at e2
  obtain ⟨i0, i1⟩ := e2
  have hj : i.toNat < qs.length := by omega
  obtain ⟨y, ey, ny⟩ := nx.get' hj
  have ei : i = ((i.toNat : Nat) : Int) := by omega
  exact ⟨_, rfl, x, C, dx, _, _, rfl, hx, k.c, k.nA _ (by simp [rwN]), f1, _, rfl, b, xs, i, y, rfl, rfl, SqL.of hb, at_of (j := i.toNat) ei ey, h2 hr' i.toNat y _ (congrArg V.int ei) (List.getElem?_eq_getElem hj) ny⟩
theorem scCu : FnScope ["self", "order"] ["self", "order"] (defScope C_Row_cut) := ⟨rfl, rfl, rfl, by decide +kernel, rfl, by decide +kernel, by decide +kernel⟩
theorem ok_cut (G : Fun K "cut" "Row.cut" C_Row_cut f fd) (k : RowK P w K mg base C CF CO) (UC : Use P w K mg base (L2.CX P w) 4 "check_cut" ["have", "wanted"] (spCc K CO CL) []) : FnOk P w K mg base (L2.CX P w) 8 f fd ["self", "order"] (spCu K C CO CL) := by
  refine G.okX scCu (fun vs H Q E h => ?_) (fun cdv A outer s H vs Q E hr h => ?_)
  · obtain ⟨x, v, qs, r, rfl, _⟩ := h
    rfl
  obtain ⟨y, v, qs, r, rfl, hR, hin, h1, h2⟩ := h
  obtain ⟨x, dx, b, xs, fs, rfl, hx, hb, nx, f1, f2, f3, f4, l3, l25⟩ := hR.num k
  obtain ⟨fI, fdI, M, FI, bI, _⟩ := k.ini
  refine ⟨_, pss_cons (ps_expr (pe_use (E := E) UC (hr.mono (by decide)) rfl (passes_call (takes_of rfl rfl rfl rfl) (fun _ _ _ _ h => h)) (pa_cons (pe_fld (pv 0) rfl) (pa_cons (pv 1) pa_nil))))
    (pss_one (ps_ret (pe_make (E := E) M FI hr rfl k.m bI .nil (passes_call (takes_of rfl rfl rfl rfl) (fun _ _ _ _ h => h)) (pa_cons (pe_slice sl_list (pe_fld (pv 0) rfl) po_none (po_some (pe_op op_add (pv 1) pe_int))) pa_nil)))), ?_⟩
  refine ⟨_, rfl, x, C, dx, _, _, rfl, hx, k.c, k.nA _ (by simp [rwN]), f2, _, rfl, (qs.length : Int) - 1, v, r, rfl, hin, h1, fun hr' i ev => ⟨fun le => ?_, fun lt => (h2 hr' i ev).1 lt⟩⟩
  subst ev
  obtain ⟨b0, hw, hh⟩ := hin
  have i2 : 2 ≤ i := by
    rcases hh with ⟨_, e⟩ | ⟨j, _, ej, e⟩
    · rw [hr'] at e; cases e
    obtain rfl := V.int.inj ej
    rw [hr'] at e
    have e2 := e.symm
    rw [Bool.and_eq_true, decide_eq_true_eq, decide_eq_true_eq] at e2
    exact e2.1
  have g := (h2 hr' i rfl).2 le
  refine ⟨_, rfl, x, C, dx, _, _, rfl, hx, k.c, k.nA _ (by simp [rwN]), f1, _, rfl, i, 1, rfl, rfl, i + 1, rfl, b, xs, rfl, SqL.of hb, fun p np => ?_⟩
  have ec : cutV xs none (some (i + 1)) = xs.take (i.toNat + 1) := by
    have := cut_take xs (i.toNat + 1)
    rw [← this]
    congr 2
    omega
  rw [ec]
  have s1 := new_same np (.lst (xs.take (i.toNat + 1)))
  exact row_new s1 (.inl upd_same) ((nx.take _).same s1) (by rw [List.length_take]; omega) (by rw [List.length_take]; omega) g
theorem scNe : FnScope ["self", "number"] ["self"] (defScope C_Row_neg) := ⟨rfl, rfl, rfl, by decide +kernel, rfl, by decide +kernel, by decide +kernel⟩
theorem ok_rneg (G : Fun K "__neg__" "Row.__neg__" C_Row_neg f fd) (k : RowK P w K mg base C CF CO) (UN : Use P w K mg base CX0 1 "negative_of" ["value"] (spNegQ K) []) : FnOk P w K mg base (L2.CX P w) 8 f fd ["self"] (spNe K C) := by
  refine G.okX scNe (fun vs H Q E h => ?_) (fun cdv A outer s H vs Q E hr h => ?_)
  · obtain ⟨x, qs, rfl, _⟩ := h
    rfl
  obtain ⟨y, qs, rfl, hR, g⟩ := h
  obtain ⟨x, dx, b, xs, fs, rfl, hx, hb, nx, f1, f2, f3, f4, l3, l25⟩ := hR.num k
  obtain ⟨fI, fdI, M, FI, bI, _⟩ := k.ini
  have hr1 := hr.mono (show 1 ≤ 7 by decide)
  refine ⟨_, pss_one (ps_ret (pe_make (E := E) M FI hr rfl k.m bI .nil (passes_call (takes_of rfl rfl rfl rfl) (fun _ _ _ _ h => h)) (pa_cons (pe_lc (own := [("number", 1)]) (g := gName 1) (tt := tYes) rfl scNe.nd (pi_list (pe_fld (pv 0) rfl)) (blkOk_by (N := ["self", "number"]) (sc := defScope C_Row_neg) (by decide +kernel))
      (fun _ _ _ _ _ => pg_name (i := 1) scNe.nd rfl (Or.inl rfl)) (fun _ _ _ _ _ => pts_nil) (fun _ _ _ _ _ => pe_use UN hr1 rfl pass0 (pa_cons (pv 1) pa_nil))) pa_nil))), ?_⟩
  refine ⟨_, rfl, x, C, dx, _, _, rfl, hx, k.c, k.nA _ (by simp [rwN]), f1, b, rfl, ⟨_, SqL.of hb⟩, fun D nD => ?_⟩
  have lx : xs.length = qs.length := nx.1
  refine lc_nums (K := K) (walk_list (K := K) (a := b) (xs := xs)) (qs.map (- ·)) (by rw [List.length_map]; omega) nD (by omega) (fun H' s => SqL.of (s _ _ hb)) ?_ (fun H' zs s h n => ?_)
  · rintro i r x H2 H3 k hq s2 ⟨rfl, hx2⟩ hk
    rw [List.getElem?_map] at hq
    obtain ⟨a, ea, rfl⟩ := Option.map_eq_some_iff.mp hq
    exact ⟨rfl, _, rfl, _, a, rfl, (nx.2 i x a hx2 ea).same s2, fun t' H4 s4 n4 h4 => hk _ _ s4 (.at h4)⟩
  · exact row_new s (.inl h) n (by rw [List.length_map]; exact l3) (by rw [List.length_map]; exact l25) g
theorem scRL : FnScope ["self"] ["self"] (defScope C_Row_len) := ⟨rfl, rfl, rfl, by decide +kernel, rfl, by decide +kernel, by decide +kernel⟩
theorem ok_rlen (G : Fun K "__len__" "Row.__len__" C_Row_len f fd) (k : RowK P w K mg base C CF CO) (mn : mg "len" = none) : FnOk P w K mg base CX0 1 f fd ["self"] (spLe K C) := by
  refine G.ok scRL (fun vs H Q E h => ?_) (fun cdv A outer s H vs Q E hr h => ?_)
  · obtain ⟨x, qs, rfl, _⟩ := h
    rfl
  obtain ⟨v, qs, rfl, hR, q⟩ := h
  obtain ⟨x, dx, b, xs, fs, rfl, hx, hb, nx, f1, f2, f3, f4, _⟩ := hR.num k
  refine ⟨_, pss_one (ps_ret (pe_callB call_len_seq rfl mn PySem.boot_len (pa_cons (pe_fld (pv 0) rfl) pa_nil))), ?_⟩
  refine ⟨_, rfl, x, C, dx, _, _, rfl, hx, k.c, k.nA _ (by simp [rwN]), f1, b, xs, rfl, .inl (SqL.of hb), ?_⟩
  rw [nx.1]
  exact q
theorem scRE : FnScope ["self", "other"] ["self", "other"] (defScope C_Row_eq) := ⟨rfl, rfl, rfl, by decide +kernel, rfl, by decide +kernel, by decide +kernel⟩
theorem ok_req (G : Fun K "__eq__" "Row.__eq__" C_Row_eq f fd) (k : RowK P w K mg base C CF CO) (mI : mg "isinstance" = none) : FnOk P w K mg base CX0 1 f fd ["self", "other"] (spEqR K C) := by
  refine G.ok scRE (fun vs H Q E h => ?_) (fun cdv A outer s H vs Q E hr h => ?_)
  · obtain ⟨x, y, qs, rfl, _⟩ := h
    rfl
  obtain ⟨v, u, qs, rfl, hR, hh⟩ := h
  obtain ⟨x, dx, b, xs, fs, rfl, hx, hb, nx, f1, f2, f3, f4, _⟩ := hR.num k
  refine ⟨_, pss_one (ps_ret (pe_and (pe_callB call_isi rfl mI (by decide +kernel) (pa_cons (pv 1) (pa_cons (C8.pe_gc (v := .ref C) rfl ⟨_, k.m, rfl⟩) pa_nil))) (pe_one (pe_cmpR (op_eqD hr.units) (pe_fld (pv 0) rfl) (pe_fld (pv 1) rfl) (nomark _))))), ?_⟩
  rcases hh with ⟨rs, hS, q⟩ | ⟨T, ty, kt, q⟩
  · obtain ⟨y, dy, c, ys, gs, rfl, hy, hc, ny, g1, _⟩ := hS.num k
    refine ⟨_, rfl, .ref y, .ref C, .ref C, .ref C, true, rfl, .own C, k.ty _ _ _ _ hy, k.kit, _, rfl, iteT ?_⟩
    refine ⟨_, rfl, x, C, dx, _, _, rfl, hx, k.c, k.nA _ (by simp [rwN]), f1, _, rfl, y, C, dy, _, _, rfl, hy, k.c, k.nA _ (by simp [rwN]), g1, datL qs, datL rs, nx.dp hb, ny.dp hc, shaped_list _, shaped_list _, ?_⟩
    rw [eqv_list]
    exact q
  · exact ⟨_, rfl, u, .ref C, T, .ref C, false, rfl, .own C, ty, kt, _, rfl, iteF q⟩
theorem scOp8 : FnScope ["self", "other"] ["self", "other"] (defScope C_Row_add) := ⟨rfl, rfl, rfl, by decide +kernel, rfl, by decide +kernel, by decide +kernel⟩
theorem scOp9 : FnScope ["self", "other"] ["self", "other"] (defScope C_Row_sub) := ⟨rfl, rfl, rfl, by decide +kernel, rfl, by decide +kernel, by decide +kernel⟩
theorem scOpM : FnScope ["self", "other"] ["self", "other"] (defScope C_Row_mul) := ⟨rfl, rfl, rfl, by decide +kernel, rfl, by decide +kernel, by decide +kernel⟩
theorem ok_radd (G : Fun K "__add__" "Row.__add__" C_Row_add f fd) (k : RowK P w K mg base C CF CO) (UO : Use P w K mg base (L2.CX P w) 3 "check_orders" ["one", "other"] (spCor K CU) []) (UT : Use P w K mg base CX0 2 "sums_of" ["one", "other"] (spTwoL K (· + ·)) []) (UN : MUse P w K mg base CX0 1 C "numbers" ["self"] (spNu K C) []) :
    FnOk P w K mg base (L2.CX P w) 8 f fd ["self", "other"] (spOp K C CU 4000 (List.zipWith (· + ·))) := by
  refine G.okX scOp8 (fun vs H Q E h => ?_) (fun cdv A outer s H vs Q E hr h => ?_)
  · obtain ⟨x, y, qs, rs, rfl, _⟩ := h
    rfl
  obtain ⟨v, u, qs, rs, rfl, hR, hS, h1, h2⟩ := h
  obtain ⟨x, dx, b, xs, fs, ev, hx, hb, nx, f1, f2, f3, f4, l3, l25⟩ := hR.num k
  obtain ⟨y, dy, c, ys, gs, eu, hy, hc, ny, g1, g2, g3, g4, m3, m25⟩ := hS.num k
  obtain ⟨fI, fdI, M, FI, bI, _⟩ := k.ini
  refine ⟨_, pss_cons (ps_expr (pe_use (E := E) UO (hr.mono (by decide)) rfl (passes_call (takes_of rfl rfl rfl rfl) (fun _ _ _ _ h => h)) (pa_cons (pv 0) (pa_cons (pv 1) pa_nil))))
    (pss_one (ps_ret (pe_make (E := E) M FI hr rfl k.m bI .nil (passes_call (takes_of rfl rfl rfl rfl) (fun _ _ _ _ h => h)) (pa_cons (pe_use UT (hr.mono (by decide)) rfl pass0 (pa_cons (pe_fld (pv 0) rfl) (pa_cons (pe_mu0 UN (pv 1) (hr.mono (by decide)) pass0) pa_nil))) pa_nil)))), ?_⟩
  refine ⟨_, rfl, _, rfl, v, u, (qs.length : Int) - 1, (rs.length : Int) - 1, rfl, hR.ord k, hS.ord k, fun e => ?_, fun e => h1 (fun z => e (by rw [z]))⟩
  have le : qs.length = rs.length := by omega
  obtain ⟨bq, br, g⟩ := h2 le
  subst ev
  subst eu
  refine ⟨_, rfl, x, C, dx, _, _, rfl, hx, k.c, k.nA _ (by simp [rwN]), f1, _, rfl, y, dy, _, rfl, hy, g4, .ref y, rs, rfl, hS, fun d H1 zs s1 n1 e1 m1 => ?_⟩
  refine ⟨_, _, qs, rs, rfl, ⟨b, xs, rfl, s1 _ _ hb, nx.same s1⟩, ⟨d, zs, rfl, e1, m1⟩, le, by omega, bq, br, fun d2 H2 ws s2 n2 e2 m2 => ?_⟩
  exact row_new (s1.trans s2) (.inl e2) m2 (by rw [List.length_zipWith]; omega) (by rw [List.length_zipWith]; omega) g
theorem ok_rsub (G : Fun K "__sub__" "Row.__sub__" C_Row_sub f fd) (k : RowK P w K mg base C CF CO) (UO : Use P w K mg base (L2.CX P w) 3 "check_orders" ["one", "other"] (spCor K CU) []) (UT : Use P w K mg base CX0 2 "differences_of" ["one", "other"] (spTwoL K (· - ·)) []) (UN : MUse P w K mg base CX0 1 C "numbers" ["self"] (spNu K C) []) :
    FnOk P w K mg base (L2.CX P w) 8 f fd ["self", "other"] (spOp K C CU 4000 (List.zipWith (· - ·))) := by
  refine G.okX scOp9 (fun vs H Q E h => ?_) (fun cdv A outer s H vs Q E hr h => ?_)
  · obtain ⟨x, y, qs, rs, rfl, _⟩ := h
    rfl
  obtain ⟨v, u, qs, rs, rfl, hR, hS, h1, h2⟩ := h
  obtain ⟨x, dx, b, xs, fs, ev, hx, hb, nx, f1, f2, f3, f4, l3, l25⟩ := hR.num k
  obtain ⟨y, dy, c, ys, gs, eu, hy, hc, ny, g1, g2, g3, g4, m3, m25⟩ := hS.num k
  obtain ⟨fI, fdI, M, FI, bI, _⟩ := k.ini
  refine ⟨_, pss_cons (ps_expr (pe_use (E := E) UO (hr.mono (by decide)) rfl (passes_call (takes_of rfl rfl rfl rfl) (fun _ _ _ _ h => h)) (pa_cons (pv 0) (pa_cons (pv 1) pa_nil))))
    (pss_one (ps_ret (pe_make (E := E) M FI hr rfl k.m bI .nil (passes_call (takes_of rfl rfl rfl rfl) (fun _ _ _ _ h => h)) (pa_cons (pe_use UT (hr.mono (by decide)) rfl pass0 (pa_cons (pe_fld (pv 0) rfl) (pa_cons (pe_mu0 UN (pv 1) (hr.mono (by decide)) pass0) pa_nil))) pa_nil)))), ?_⟩
  refine ⟨_, rfl, _, rfl, v, u, (qs.length : Int) - 1, (rs.length : Int) - 1, rfl, hR.ord k, hS.ord k, fun e => ?_, fun e => h1 (fun z => e (by rw [z]))⟩
  have le : qs.length = rs.length := by omega
  obtain ⟨bq, br, g⟩ := h2 le
  subst ev
  subst eu
  refine ⟨_, rfl, x, C, dx, _, _, rfl, hx, k.c, k.nA _ (by simp [rwN]), f1, _, rfl, y, dy, _, rfl, hy, g4, .ref y, rs, rfl, hS, fun d H1 zs s1 n1 e1 m1 => ?_⟩
  refine ⟨_, _, qs, rs, rfl, ⟨b, xs, rfl, s1 _ _ hb, nx.same s1⟩, ⟨d, zs, rfl, e1, m1⟩, le, by omega, bq, br, fun d2 H2 ws s2 n2 e2 m2 => ?_⟩
  exact row_new (s1.trans s2) (.inl e2) m2 (by rw [List.length_zipWith]; omega) (by rw [List.length_zipWith]; omega) g
theorem ok_rmul (G : Fun K "__mul__" "Row.__mul__" C_Row_mul f fd) (k : RowK P w K mg base C CF CO) (UO : Use P w K mg base (L2.CX P w) 3 "check_orders" ["one", "other"] (spCor K CU) []) (UT : Use P w K mg base CX0 2 "multiplied" ["one", "other"] (spMulL K) []) (UN : MUse P w K mg base CX0 1 C "numbers" ["self"] (spNu K C) []) :
    FnOk P w K mg base (L2.CX P w) 8 f fd ["self", "other"] (spOp K C CU 140 mulL) := by
  refine G.okX scOpM (fun vs H Q E h => ?_) (fun cdv A outer s H vs Q E hr h => ?_)
  · obtain ⟨x, y, qs, rs, rfl, _⟩ := h
    rfl
  obtain ⟨v, u, qs, rs, rfl, hR, hS, h1, h2⟩ := h
  obtain ⟨x, dx, b, xs, fs, ev, hx, hb, nx, f1, f2, f3, f4, l3, l25⟩ := hR.num k
  obtain ⟨y, dy, c, ys, gs, eu, hy, hc, ny, g1, g2, g3, g4, m3, m25⟩ := hS.num k
  obtain ⟨fI, fdI, M, FI, bI, _⟩ := k.ini
  refine ⟨_, pss_cons (ps_expr (pe_use (E := E) UO (hr.mono (by decide)) rfl (passes_call (takes_of rfl rfl rfl rfl) (fun _ _ _ _ h => h)) (pa_cons (pv 0) (pa_cons (pv 1) pa_nil))))
    (pss_one (ps_ret (pe_make (E := E) M FI hr rfl k.m bI .nil (passes_call (takes_of rfl rfl rfl rfl) (fun _ _ _ _ h => h)) (pa_cons (pe_use UT (hr.mono (by decide)) rfl pass0 (pa_cons (pe_fld (pv 0) rfl) (pa_cons (pe_mu0 UN (pv 1) (hr.mono (by decide)) pass0) pa_nil))) pa_nil)))), ?_⟩
  refine ⟨_, rfl, _, rfl, v, u, (qs.length : Int) - 1, (rs.length : Int) - 1, rfl, hR.ord k, hS.ord k, fun e => ?_, fun e => h1 (fun z => e (by rw [z]))⟩
  have le : qs.length = rs.length := by omega
  obtain ⟨bq, br, g⟩ := h2 le
  subst ev
  subst eu
  refine ⟨_, rfl, x, C, dx, _, _, rfl, hx, k.c, k.nA _ (by simp [rwN]), f1, _, rfl, y, dy, _, rfl, hy, g4, .ref y, rs, rfl, hS, fun d H1 zs s1 n1 e1 m1 => ?_⟩
  refine ⟨_, _, qs, rs, rfl, ⟨b, xs, rfl, s1 _ _ hb, nx.same s1⟩, ⟨d, zs, rfl, e1, m1⟩, le, by omega, bq, br, fun d2 H2 ws s2 n2 e2 m2 => ?_⟩
  exact row_new (s1.trans s2) (.inl e2) m2 (by unfold mulL; rw [List.length_map, List.length_range]; omega) (by unfold mulL; rw [List.length_map, List.length_range]; omega) g
end
end Kx
end
section
set_option maxHeartbeats 4000000
namespace Kx
open PySem PySem.Spec PyProof.Rows L2
/-! ### the law's own lists -/
def spTimes (K : PySem.W.Frag) : Sp := fun vs H Q _ => ∃ (x y : V) (qs rs : List Rat), vs = [x, y] ∧ Ls K H x qs ∧ Ls K H y rs ∧ qs.length = rs.length ∧ qs.length ≤ 25 ∧ AllB 60 qs ∧ AllB 60 rs ∧ GivesL K H Q (mulL qs rs)
def spPlus (K : PySem.W.Frag) : Sp := fun vs H Q _ => ∃ (x y : V) (qs rs : List Rat), vs = [x, y] ∧ Ls K H x qs ∧ Ls K H y rs ∧ qs.length = rs.length ∧ qs.length ≤ 100 ∧ AllB 4000 qs ∧ AllB 4000 rs ∧ GivesL K H Q (qs.zipWith (· + ·) rs)
def spScale (K : PySem.W.Frag) : Sp := fun vs H Q _ => ∃ (x y : V) (qs : List Rat) (t : Rat), vs = [x, y] ∧ Ls K H x qs ∧ Nq K H y t ∧ qs.length ≤ 100 ∧ AllB 4000 qs ∧ Bq 4000 t ∧ GivesL K H Q (qs.map (· * t))
abbrev nTi : List Str := ["_law_u", "_law_w", "_law_some", "_law_k", "_law_total", "_law_j"]
abbrev nPl : List Str := ["_law_u", "_law_w", "_law_a", "_law_b"]
abbrev nSl : List Str := ["_law_u", "_law_c", "_law_a"]
theorem getD_at {qs : List Rat} {j : Nat} (h : j < qs.length) : qs.getD j 0 = qs[j] := by rw [List.getD_eq_getElem?_getD, List.getElem?_eq_getElem h]; rfl
section
variable {P : Program} {w : World} {K : PySem.W.Frag} {mg : Str → Option Value} {base : Heap} {f o0 : Addr} {fd : FuncData}
end
end Kx
end
section
set_option maxHeartbeats 4000000
namespace Kx
open PySem PySem.Spec PyProof.Rows L2
theorem But.free {B p a : Addr} {H H' : Hp} (u : But B H H') (b : Bag H' B p) (h : H' a = none) : H a = none := by
  obtain ⟨_, _, _, _, _, h1, _⟩ := b.ex
  cases e : H a with
  | none => rfl
  | some o =>
    have z := u a o (fun y => by rw [y, h1] at h; cases h) e
    rw [h] at z
    cases z
theorem Bag.put {H : Hp} {B p a : Addr} {o : HO} (b : Bag H B p) (h : H a = none) : Bag (upd H a o) B p := b.same (new_same h o)
theorem Bag.at {H : Hp} {B p : Addr} (b : Bag H B p) {a : Addr} (h : H a = none) : a ≠ B ∧ a ≠ p := by
  obtain ⟨_, _, _, _, _, h1, h2, _⟩ := b.ex
  refine ⟨fun e => ?_, fun e => ?_⟩
  · rw [e, h1] at h
    cases h
  · rw [e, h2] at h
    cases h
/-- all but the bag and the tables stand -/
def Go (B : Addr) (H H' : Hp) : Prop := ∀ b o, b ≠ B → (∀ ps, o ≠ .tbl ps) → H b = some o → H' b = some o
theorem Go.of {B : Addr} {H H' : Hp} (h : But B H H') : Go B H H' := fun b o n _ e => h b o n e
theorem Go.ext {B : Addr} {H H' : Hp} (h : LamX.ExtN H H') : Go B H H' := fun b o _ t e => h b o e t
theorem Go.trans {B : Addr} {H H1 H2 : Hp} (a : Go B H H1) (b : Go B H1 H2) : Go B H H2 := fun x o n t h => b x o n t (a x o n t h)
theorem Bag.ext {H H' : Hp} {B p : Addr} (b : Bag H B p) (h : LamX.ExtN H H') : Bag H' B p := by
  obtain ⟨ns, i, r, sd, c, h1, h2, h3⟩ := b.ex
  exact ⟨ns, i, r, sd, c, h _ _ h1 (fun ps z => by cases z), h _ _ h2 (fun ps z => by cases z), h3⟩
theorem tabs_but {T : List (Addr × Str)} {H H' : Hp} {B p : Addr} (t : LamX.Tabs T H) (b : Bag H B p) (u : But B H H') : LamX.Tabs T H' := by
  obtain ⟨ns, i, r, sd, c, h1, _⟩ := b.ex
  intro q hq
  obtain ⟨ps, e1, e2, e3⟩ := t q hq
  refine ⟨ps, u _ _ (fun z => ?_) e1, e2, fun pos cv hc => ?_⟩
  · rw [z, h1] at e1
    cases e1
  · obtain ⟨c0, z1, z2⟩ := e3 pos cv hc
    refine ⟨c0, z1, u _ _ (fun z => ?_) z2⟩
    rw [z, h1] at z2
    cases z2
theorem Go.same {B : Addr} {H H' : Hp} (h : Same H H') : Go B H H' := Go.of (But.same h)
theorem Go.refl {B : Addr} {H : Hp} : Go B H H := fun _ _ _ _ h => h
section
variable {K : PySem.W.Frag} {H H' : Hp} {B p : Addr}
theorem Nq.go {v : V} {q : Rat} (h : Nq K H v q) (b : Bag H B p) (s : Go B H H') : Nq K H' v q := by
  obtain ⟨a, e, h⟩ := h
  obtain ⟨ns, i, r, sd, c, hb, _⟩ := b.ex
  refine ⟨a, e, h.imp (fun h => s _ _ (fun z => ?_) (fun ps z => by cases z) h) id⟩
  rw [z, hb] at h
  cases h
theorem Nl.go {xs : List V} {qs : List Rat} (h : Nl K H xs qs) (b : Bag H B p) (s : Go B H H') : Nl K H' xs qs := ⟨h.1, fun i x q h1 h2 => (h.2 i x q h1 h2).go b s⟩
/-- a list of numbers is not the bag -/
theorem Nl.ne {xs : List V} {qs : List Rat} {a : Addr} (h : Nl K H xs qs) (l : 2 ≤ qs.length) (ha : H a = some (.lst xs)) (b : Bag H B p) : a ≠ B := by
  rintro rfl
  obtain ⟨ns, i, r, sd, c, hb, _⟩ := b.ex
  rw [ha] at hb
  have e : xs = bagL p i r sd c := by
    have := Option.some.inj hb
    exact HO.lst.inj this
  obtain ⟨x, ex, n⟩ := h.get' (i := 1) (by omega)
  rw [e] at ex
  have e2 : V.int i = x := Option.some.inj (show some (V.int i) = some x from ex)
  obtain ⟨a', e3, _⟩ := n
  rw [← e2] at e3
  cases e3
theorem Ls.go {v : V} {qs : List Rat} (h : Ls K H v qs) (l : 2 ≤ qs.length) (b : Bag H B p) (s : Go B H H') : Ls K H' v qs := by
  obtain ⟨a, xs, e, h1, h2⟩ := h
  exact ⟨a, xs, e, s _ _ (h2.ne l h1 b) (fun ps z => by cases z) h1, h2.go b s⟩
theorem ins_go {x C dx : Addr} {fs : List (Str × V)} (h : H x = some (.ins C dx fs)) (b : Bag H B p) (s : Go B H H') : H' x = some (.ins C dx fs) := by
  obtain ⟨ns, i, r, sd, c, hb, _⟩ := b.ex
  refine s _ _ (fun z => ?_) (fun ps z => by cases z) h
  rw [z, hb] at h
  cases h
theorem tup_go {x : Addr} {xs : List V} (h : H x = some (.tup xs)) (b : Bag H B p) (s : Go B H H') : H' x = some (.tup xs) := by
  obtain ⟨ns, i, r, sd, c, hb, _⟩ := b.ex
  refine s _ _ (fun z => ?_) (fun ps z => by cases z) h
  rw [z, hb] at h
  cases h
theorem lst_go {x : Addr} {xs : List V} (h : H x = some (.lst xs)) (n : xs.length ≠ 5) (b : Bag H B p) (s : Go B H H') : H' x = some (.lst xs) := by
  obtain ⟨ns, i, r, sd, c, hb, _⟩ := b.ex
  refine s _ _ (fun z => ?_) (fun ps z => by cases z) h
  rw [z, hb] at h
  have e := HO.lst.inj (Option.some.inj h)
  rw [← e] at n
  exact n rfl
theorem RwAt.go {C : Addr} {v : V} {qs : List Rat} (h : RwAt K C H v qs) (b : Bag H B p) (s : Go B H H') : RwAt K C H' v qs := by
  obtain ⟨x, dx, c, xs, e, h1, h2, h3, h4, h5⟩ := h
  exact ⟨x, dx, c, xs, e, ins_go h1 b s, s _ _ (h3.ne (by omega) h2 b) (fun ps z => by cases z) h2, h3.go b s, h4, h5⟩
theorem StAt.go {S : Addr} {v : V} {qs : List Rat} (h : StAt K S H v qs) (b : Bag H B p) (s : Go B H H') : StAt K S H' v qs := by
  obtain ⟨x, dx, c, xs, x0, fv, sv, e, h1, h2, h3, h4, h5, h6⟩ := h
  exact ⟨x, dx, c, xs, x0, fv, sv, e, ins_go h1 b s, s _ _ (h3.ne (by omega) h2 b) (fun ps z => by cases z) h2, h3.go b s, h4, h5, h6⟩
theorem RwAt.ext {C : Addr} {v : V} {qs : List Rat} (h : RwAt K C H v qs) (s : LamX.ExtN H H') : RwAt K C H' v qs := by
  obtain ⟨x, dx, c, xs, e, h1, h2, h3, h4⟩ := h
  have nq : ∀ {w : V} {q : Rat}, Nq K H w q → Nq K H' w q := fun n => by
    obtain ⟨a, e, n⟩ := n
    exact ⟨a, e, n.imp (fun n => s _ _ n (fun ps z => by cases z)) id⟩
  exact ⟨x, dx, c, xs, e, s _ _ h1 (fun ps z => by cases z), s _ _ h2 (fun ps z => by cases z), ⟨h3.1, fun i y q a b => nq (h3.2 i y q a b)⟩, h4⟩
theorem Nq.ext {v : V} {q : Rat} (h : Nq K H v q) (s : LamX.ExtN H H') : Nq K H' v q := by
  obtain ⟨a, e, n⟩ := h
  exact ⟨a, e, n.imp (fun n => s _ _ n (fun ps z => by cases z)) id⟩
theorem Nl.ext {xs : List V} {qs : List Rat} (h : Nl K H xs qs) (s : LamX.ExtN H H') : Nl K H' xs qs := ⟨h.1, fun i y q a b => (h.2 i y q a b).ext s⟩
theorem Ls.ext {v : V} {qs : List Rat} (h : Ls K H v qs) (s : LamX.ExtN H H') : Ls K H' v qs := by
  obtain ⟨a, xs, e, h1, h2⟩ := h
  exact ⟨a, xs, e, s _ _ h1 (fun ps z => by cases z), h2.ext s⟩
end
/-! ### drawn numbers -/
def spNum (K : PySem.W.Frag) : Sp := fun vs H Q _ => ∃ B p : Addr, vs = [.ref B] ∧ Bag H B p ∧ ∀ H' v q, Bag H' B p → But B H H' → Nq K H' v q → Bq 21 q → Q v H'
def spBent (K : PySem.W.Frag) : Sp := fun vs H Q _ => ∃ (B p : Addr) (v : V) (q : Rat), vs = [.ref B, v] ∧ Bag H B p ∧ Nq K H v q ∧ Bq 21 q ∧ ∀ H' u r, Bag H' B p → But B H H' → Nq K H' u r → Bq 43 r → Q u H'
abbrev nNum : List Str := ["_law_bag_here", "_law_pick", "_law_p"]
section
variable {P : Program} {w : World} {K : PySem.W.Frag} {mg : Str → Option Value} {base : Heap} {f fD fO fL fB : Addr} {fd fdD fdO fdL fdB : FuncData}
theorem scNum : FnScope nNum ["_law_bag_here"] (defScope L_number) := ⟨rfl, rfl, rfl, by decide +kernel, rfl, by decide +kernel, by decide +kernel⟩
section
variable (UD : Use P w K mg base CX0 1 "_law_draw" ["_law_bag_here", "_law_limit"] spDraw []) (UO : Use P w K mg base CX0 2 "_law_of" ["_law_bag_here", "_law_things"] spOfL []) (UL : Use P w K mg base CX0 1 "_law_low" ["_law_p", "_law_q"] spLowQ [])
include UD UO UL
theorem ok_num (F : Fun K "_law_number" "_law_number" L_number f fd) : FnOk P w K mg base CX0 3 f fd ["_law_bag_here"] (spNum K) := by
  refine F.ok scNum (fun vs H Q E h => ?_) (fun cdv A outer s H vs Q E hr h => ?_)
  · obtain ⟨B, p, rfl, _⟩ := h
    rfl
  obtain ⟨B, p, rfl, hb, q⟩ := h
  have hr1 := hr.mono (show 1 ≤ 2 by decide)
  refine ⟨_, pss_cons (ps_set (i := 1) scNum.nd rfl (Or.inl rfl) (pe_use UD hr1 rfl pass0 (pa_cons (pv 0) (pa_cons pe_int pa_nil))))
    (pss_cons (ps_if (pt_cmpR op_lt (pv 1) pe_int (nomark _)) (pss_one (ps_ret (pe_tup (pa_cons pe_int (pa_cons pe_int pa_nil))))) pss_nil)
    (pss_cons (ps_if (pt_cmpR op_lt (pv 1) pe_int (nomark _)) (pss_one (ps_ret (pe_tup (pa_cons pe_int (pa_cons pe_int pa_nil))))) pss_nil)
    (pss_cons (ps_set (i := 2) scNum.nd rfl (Or.inl rfl) (pe_op op_add pe_int (pe_use UD hr1 rfl pass0 (pa_cons (pv 0) (pa_cons pe_int pa_nil)))))
    (C8.pss_cut (ps_if (pt_cmpR op_eq (pv 1) pe_int (nomark _)) (pss_one (ps_set (i := 2) scNum.nd rfl (Or.inl rfl) (pe_op op_add (pv 2) (pe_use UD hr1 rfl pass0 (pa_cons (pv 0) (pa_cons (pe_use UO hr rfl pass0 (pa_cons (pv 0) (pa_cons (pe_lst (pa_cons pe_int (pa_cons pe_int (pa_cons pe_int pa_nil)))) pa_nil))) pa_nil)))))) pss_nil)
    (C8.pss_cut (ps_if (pt_cmpR op_eq (pe_use UD hr1 rfl pass0 (pa_cons (pv 0) (pa_cons pe_int pa_nil))) pe_int (nomark _)) (pss_one (ps_set (i := 2) scNum.nd rfl (Or.inl rfl) (pe_un un_neg (pv 2)))) pss_nil)
    (pss_one (ps_ret (pe_use UL hr1 rfl pass0 (pa_cons (pv 2) (pa_cons (pe_use UO hr rfl pass0 (pa_cons (pv 0) (pa_cons (pe_lst (pa_cons pe_int (pa_cons pe_int (pa_cons pe_int (pa_cons pe_int (pa_cons pe_int (pa_cons pe_int pa_nil))))))) pa_nil))) pa_nil)))))))))), ?_⟩
  refine ⟨_, rfl, B, p, 18, rfl, by decide, by decide, hb, fun H1 k b1 u1 k0 k1 => ?_⟩
  refine ⟨_, rfl, k, 6, rfl, rfl, _, rfl, ite2 (fun _ => ?_) (fun _ => ?_)⟩
  · exact ⟨(by show 2 ≤ sizeLine; decide), fun t nt => q _ _ 0 (b1.put nt) (u1.trans (But.new nt)) (.at upd_same) ⟨by decide, by decide⟩⟩
  refine ⟨_, rfl, k, 8, rfl, rfl, _, rfl, ite2 (fun _ => ?_) (fun _ => ?_)⟩
  · exact ⟨(by show 2 ≤ sizeLine; decide), fun t nt => q _ _ 1 (b1.put nt) (u1.trans (But.new nt)) (.at upd_same) ⟨by decide, by decide⟩⟩
  refine ⟨_, rfl, B, p, 9, rfl, by decide, by decide, b1, fun H2 d b2 u2 d0 d1 => ⟨1, d, rfl, rfl, ?_⟩⟩
  have u2 := u1.trans u2
  refine ⟨fun σ' H' => ∃ n : Int, σ' = [some (.ref B), some (.int k), some (.int n)] ∧ Bag H' B p ∧ But B H H' ∧ 0 ≤ n ∧ n < 1100000, ?_, ?_⟩
  · refine ⟨_, rfl, rfl, _, rfl, ite2 (fun _ => ?_) (fun _ => ⟨_, rfl, b2, u2, by omega, by omega⟩)⟩
    refine ⟨_, rfl, _, rfl, _, rfl, (by show 3 ≤ sizeLine; decide), fun a na => ⟨B, p, a, _, rfl, upd_same, (b2.at na).1, (by show 0 < 3; decide), (by show 3 ≤ 1000; decide), b2.put na, fun H3 x b3 u3 hx => ?_⟩⟩
    have u3 : But B H H3 := u2.trans ((But.new na).trans u3)
    obtain ⟨L, rfl, L0, L1⟩ : ∃ L : Int, x = .int L ∧ 0 < L ∧ L ≤ 1000000 := by
      simp only [List.mem_cons, List.not_mem_nil, or_false] at hx
      rcases hx with rfl | rfl | rfl <;> exact ⟨_, rfl, by decide, by decide⟩
    exact ⟨B, p, L, rfl, L0, by omega, b3, fun H4 e b4 u4 e0 e1 => ⟨_, _, rfl, rfl, _, rfl, b4, u3.trans u4, by omega, by omega⟩⟩
  rintro σ' H3 ⟨n, rfl, b3, u3, n0, n1⟩
  refine ⟨fun σ' H' => ∃ n : Int, σ' = [some (.ref B), some (.int k), some (.int n)] ∧ Bag H' B p ∧ But B H H' ∧ n.natAbs < 1100000, ?_, ?_⟩
  · refine ⟨_, rfl, B, p, 2, rfl, by decide, by decide, b3, fun H4 c b4 u4 c0 c1 => ⟨rfl, _, rfl, ite2 (fun _ => ?_) (fun _ => ⟨_, rfl, b4, u3.trans u4, by omega⟩)⟩⟩
    exact ⟨_, rfl, _, rfl, _, rfl, b4, u3.trans u4, by omega⟩
  rintro σ' H4 ⟨n, rfl, b4, u4, nn⟩
  refine ⟨_, rfl, _, rfl, (by show 6 ≤ sizeLine; decide), fun a na => ⟨B, p, a, _, rfl, upd_same, (b4.at na).1, (by show 0 < 6; decide), (by show 6 ≤ 1000; decide), b4.put na, fun H5 x b5 u5 hx => ?_⟩⟩
  have u5 : But B H H5 := u4.trans ((But.new na).trans u5)
  obtain ⟨L, rfl, L0, L1⟩ : ∃ L : Int, x = .int L ∧ 0 < L ∧ L ≤ 3 := by
    simp only [List.mem_cons, List.not_mem_nil, or_false] at hx
    rcases hx with rfl | rfl | rfl | rfl | rfl | rfl <;> exact ⟨_, rfl, by decide, by decide⟩
  have Ln : L ≠ 0 := by omega
  have bd := div_bd (p := n) (n := 21) (m := 21) Ln (by show _ < 2097152; omega) (by show _ < 2097152; omega)
  exact ⟨n, L, rfl, Ln, Nat.lt_trans (log_bd (x := L) (n := 21) (by show _ < 2097152; omega) (by decide)) (by decide), fun t H6 s6 n6 e6 => q _ _ _ (b5.same s6) (u5.trans (But.same s6)) (.at e6) bd⟩
omit UD UO UL in
theorem scFull : FnScope ["_law_bag_here", "_law_a"] ["_law_bag_here"] (defScope L_full) := ⟨rfl, rfl, rfl, by decide +kernel, rfl, by decide +kernel, by decide +kernel⟩
theorem ok_full (F : Fun K "_law_full" "_law_full" L_full f fd) (UN : Use P w K mg base CX0 3 "_law_number" ["_law_bag_here"] (spNum K) []) : FnOk P w K mg base CX0 4 f fd ["_law_bag_here"] (spNum K) := by
  refine F.ok scFull (fun vs H Q E h => ?_) (fun cdv A outer s H vs Q E hr h => ?_)
  · obtain ⟨B, p, rfl, _⟩ := h
    rfl
  obtain ⟨B, p, rfl, hb, q⟩ := h
  have hr2 := hr.mono (show 2 ≤ 3 by decide)
  refine ⟨_, pss_cons (ps_set (i := 1) scFull.nd rfl (Or.inl rfl) (pe_use UN hr rfl pass0 (pa_cons (pv 0) pa_nil)))
    (pss_one (ps_ret (pe_ifExp (pt_cmpR op_ne (pe_ix ix_tup (pv 1) pe_int (fun _ _ => rfl)) pe_int (nomark _)) (pv 1)
      (pe_use UO hr2 rfl pass0 (pa_cons (pv 0) (pa_cons (pe_lst (pa_cons (pe_tup (pa_cons pe_int (pa_cons pe_int pa_nil))) (pa_cons (pe_tup (pa_cons (pe_un un_neg pe_int) (pa_cons pe_int pa_nil))) (pa_cons (pe_tup (pa_cons pe_int (pa_cons pe_int pa_nil))) (pa_cons (pe_tup (pa_cons (pe_un un_neg pe_int) (pa_cons pe_int pa_nil))) (pa_cons (pe_tup (pa_cons pe_int (pa_cons pe_int pa_nil))) pa_nil)))))) pa_nil)))))), ?_⟩
  refine ⟨_, rfl, B, p, rfl, hb, fun H1 v a b1 u1 na ba => ?_⟩
  obtain ⟨va, rfl, sa, _⟩ := na.sq
  refine ⟨_, rfl, va, _, 0, _, rfl, rfl, sa, rfl, rfl, _, rfl, ?_⟩
  by_cases c : a.num = 0
  · rw [decide_eq_true (congrArg V.int c)]
    refine iteF ⟨_, rfl, ?_⟩
    refine ⟨(by show 2 ≤ sizeLine; decide), fun t1 m1 => ⟨_, rfl, (by show 2 ≤ sizeLine; decide), fun t2 m2 => ⟨(by show 2 ≤ sizeLine; decide), fun t3 m3 => ⟨_, rfl, (by show 2 ≤ sizeLine; decide), fun t4 m4 => ⟨(by show 2 ≤ sizeLine; decide), fun t5 m5 => ⟨(by show 5 ≤ sizeLine; decide), fun l nl => ?_⟩⟩⟩⟩⟩⟩
    have e1 := new_same m2 (HO.tup [.int (-1), .int 1])
    have e2 := new_same m3 (HO.tup [.int 1, .int 2])
    have e3 := new_same m4 (HO.tup [.int (-3), .int 1])
    have e4 := new_same m5 (HO.tup [.int 2, .int 1])
    have e5 := new_same nl (HO.lst [.ref t1, .ref t2, .ref t3, .ref t4, .ref t5])
    have bb := ((((b1.put (o := HO.tup [.int 1, .int 1]) m1).put (o := HO.tup [.int (-1), .int 1]) m2).put (o := HO.tup [.int 1, .int 2]) m3).put (o := HO.tup [.int (-3), .int 1]) m4).put (o := HO.tup [.int 2, .int 1]) m5
    refine ⟨B, p, l, _, rfl, upd_same, (bb.at nl).1, (by show 0 < 5; decide), (by show 5 ≤ 1000; decide), bb.put nl, fun H2 x b2 u2 hx => ?_⟩
    have uu : But B H H2 := u1.trans ((But.new m1).trans ((But.same e1).trans ((But.same e2).trans ((But.same e3).trans ((But.same e4).trans ((But.same e5).trans u2))))))
    have fin : ∀ {t : Addr} {r : Rat}, (upd (upd (upd (upd (upd (upd H1 t1 (HO.tup [.int 1, .int 1])) t2 (HO.tup [.int (-1), .int 1])) t3 (HO.tup [.int 1, .int 2])) t4 (HO.tup [.int (-3), .int 1])) t5 (HO.tup [.int 2, .int 1])) l (HO.lst [.ref t1, .ref t2, .ref t3, .ref t4, .ref t5])) t = some (rT r) → Bq 21 r → Q (.ref t) H2 := fun {t r} h br => by
      refine q H2 _ r b2 uu ?_ br
      exact (Nq.at (K := K) h).go (bb.put nl) (Go.of u2)
    simp only [List.mem_cons, List.not_mem_nil, or_false] at hx
    rcases hx with rfl | rfl | rfl | rfl | rfl
    · exact fin (r := 1) (e5 _ _ (e4 _ _ (e3 _ _ (e2 _ _ (e1 _ _ upd_same))))) ⟨by decide, by decide⟩
    · exact fin (r := -1) (e5 _ _ (e4 _ _ (e3 _ _ (e2 _ _ upd_same)))) ⟨by decide, by decide⟩
    · exact fin (r := mkRat 1 2) (e5 _ _ (e4 _ _ (e3 _ _ upd_same))) ⟨by decide, by decide⟩
    · exact fin (r := -3) (e5 _ _ (e4 _ _ upd_same)) ⟨by decide, by decide⟩
    · exact fin (r := 2) (e5 _ _ upd_same) ⟨by decide, by decide⟩
  · rw [decide_eq_false (fun e => c (V.int.inj e))]
    exact iteT ⟨_, rfl, q _ _ a b1 u1 na ba⟩
end
end
end Kx
end
section
set_option maxHeartbeats 4000000
namespace Kx
open PySem PySem.Spec PyProof.Rows L2
def spSpoilt (K : PySem.W.Frag) : Sp := fun vs H Q _ => ∃ (B p : Addr) (v : V) (qs : List Rat), vs = [.ref B, v] ∧ Bag H B p ∧ Ls K H v qs ∧ 2 ≤ qs.length ∧ qs.length ≤ 25 ∧ AllB 21 qs ∧
  ∀ H' u rs, Bag H' B p → But B H H' → Ls K H' u rs → rs.length = qs.length → AllB 43 rs → Q u H'
def spSize : Sp := fun vs H Q _ => ∃ B p : Addr, vs = [.ref B] ∧ Bag H B p ∧ ∀ H' (n : Nat), Bag H' B p → But B H H' → 2 ≤ n → n ≤ 24 → Q (.int (n : Nat)) H'
def spRow (K : PySem.W.Frag) : Sp := fun vs H Q _ => ∃ (B p : Addr) (n : Nat), vs = [.ref B, .int (n : Nat)] ∧ Bag H B p ∧ 2 ≤ n ∧ n ≤ 24 ∧
  ∀ H' u rs, Bag H' B p → But B H H' → Ls K H' u rs → rs.length = n + 1 → AllB 21 rs → Q u H'
theorem AllB.mono {n m : Nat} {qs : List Rat} (h : AllB n qs) (k : n ≤ m) : AllB m qs := fun q hq => (h q hq).mono k
abbrev nSpo : List Str := ["_law_bag_here", "_law_a", "_law_spot"]
abbrev nRow : List Str := ["_law_bag_here", "_law_size", "_law_gap", "_law_k"]
theorem yesT {σ : L2.St} {H : Hp} {t e : Hp → Prop} (h : t H) : tYes σ H (fun b H3 => if b = true then t H3 else e H3) := by
  show (if true = true then t H else e H)
  rw [if_pos rfl]
  exact h
theorem zeros {K : PySem.W.Frag} {H : Hp} {v : V} (h : Nq K H v 0) (n : Nat) : Nl K H (List.replicate n v) (List.replicate n 0) := by
  refine ⟨by rw [List.length_replicate, List.length_replicate], fun i x q h1 h2 => ?_⟩
  rw [List.getElem?_replicate] at h1 h2
  split at h1
  · rw [if_pos (by assumption)] at h2
    rw [← Option.some.inj h1, ← Option.some.inj h2]
    exact h
  · cases h1
section
variable {P : Program} {w : World} {K : PySem.W.Frag} {mg : Str → Option Value} {base : Heap} {f : Addr} {fd : FuncData}
theorem scBent : FnScope ["_law_bag_here", "_law_a", "_law_some"] ["_law_bag_here", "_law_a"] (defScope L_bent) := ⟨rfl, rfl, rfl, by decide +kernel, rfl, by decide +kernel, by decide +kernel⟩
theorem ok_bent (F : Fun K "_law_bent" "_law_bent" L_bent f fd) (ma : mg "abs" = none) (UA : Use P w K mg base CX0 2 "_law_add" ["_law_a", "_law_b"] (spAddQ K) []) (UF : Use P w K mg base CX0 4 "_law_full" ["_law_bag_here"] (spNum K) []) (UN : Use P w K mg base CX0 3 "_law_number" ["_law_bag_here"] (spNum K) []) :
    FnOk P w K mg base CX0 5 f fd ["_law_bag_here", "_law_a"] (spBent K) := by
  refine F.ok scBent (fun vs H Q E h => ?_) (fun cdv A outer s H vs Q E hr h => ?_)
  · obtain ⟨B, p, v, q, rfl, _⟩ := h
    rfl
  obtain ⟨B, p, v, r, rfl, hb, nv, br, q⟩ := h
  refine ⟨_, pss_cons (ps_set (i := 2) scBent.nd rfl (Or.inl rfl) (pe_use UA (hr.mono (by decide)) rfl pass0 (pa_cons (pv 1) (pa_cons (pe_use UF hr rfl pass0 (pa_cons (pv 0) pa_nil)) pa_nil))))
    (pss_one (ps_ret (pe_ifExp (PW.pt (pw_and (pt_cmpR op_lt (pe_callB call_abs rfl ma (by decide +kernel) (pa_cons (pe_ix ix_tup (pv 2) pe_int (fun _ _ => rfl)) pa_nil)) (pe_op op_pow pe_int pe_int) (nomark _)) (pw_and1 (pt_cmpR op_lt (pe_ix ix_tup (pv 2) pe_int (fun _ _ => rfl)) (pe_op op_pow pe_int pe_int) (nomark _))))) (pv 2)
      (pe_use UN (hr.mono (by decide)) rfl pass0 (pa_cons (pv 0) pa_nil))))), ?_⟩
  refine ⟨_, rfl, _, rfl, B, p, rfl, hb, fun H1 u a b1 u1 na ba => ?_⟩
  refine ⟨v, u, r, a, rfl, nv.go hb (Go.of u1), na, br.mono (by decide), ba.mono (by decide), fun t H2 s2 n2 e2 => ?_⟩
  have b2 := b1.same s2
  have u2 : But B H H2 := u1.trans (But.same s2)
  have fin1 : Q (.ref t) H2 := q H2 _ _ b2 u2 (.at e2) (br.add ba)
  have fin2 : ∀ H' w c, Bag H' B p → But B H2 H' → Nq K H' w c → Bq 21 c → Q w H' := fun H' w c b u n bc => q H' w c b (u2.trans u) n (bc.mono (by decide))
  refine ⟨_, rfl, t, _, 0, _, rfl, rfl, SqT.of e2, rfl, _, rfl, 10, 60, rfl, rfl, ⟨by decide, by decide, by omega⟩, ?_⟩
  obtain ⟨T, hT⟩ : ∃ T : Int, V.int ((10 : Int) ^ (60 : Int).toNat) = V.int T := ⟨_, rfl⟩
  refine ⟨_, T, rfl, hT, _, rfl, ite2 (fun _ => ?_) (fun _ => iteF ⟨_, rfl, B, p, rfl, b2, fin2⟩)⟩
  refine ⟨_, rfl, t, _, 1, _, rfl, rfl, SqT.of e2, rfl, 10, 60, rfl, rfl, ⟨by decide, by decide, by omega⟩, ?_⟩
  exact ⟨_, T, rfl, hT, _, rfl, ite2 (fun _ => ⟨_, rfl, fin1⟩) (fun _ => ⟨_, rfl, B, p, rfl, b2, fin2⟩)⟩
theorem scSpo : FnScope nSpo ["_law_bag_here", "_law_a"] (defScope L_spoilt) := ⟨rfl, rfl, rfl, by decide +kernel, rfl, by decide +kernel, by decide +kernel⟩
theorem ok_spoilt (F : Fun K "_law_spoilt" "_law_spoilt" L_spoilt f fd) (mn : mg "len" = none) (ml : mg "list" = none) (UD : Use P w K mg base CX0 1 "_law_draw" ["_law_bag_here", "_law_limit"] spDraw []) (UB : Use P w K mg base CX0 5 "_law_bent" ["_law_bag_here", "_law_a"] (spBent K) []) :
    FnOk P w K mg base CX0 6 f fd ["_law_bag_here", "_law_a"] (spSpoilt K) := by
  refine F.ok scSpo (fun vs H Q E h => ?_) (fun cdv A outer s H vs Q E hr h => ?_)
  · obtain ⟨B, p, v, q, rfl, _⟩ := h
    rfl
  obtain ⟨B, p, v, qs, rfl, hb, ⟨a, xs, rfl, ha, nx⟩, l2, l25, bq, q⟩ := h
  have hr1 := hr.mono (show 1 ≤ 5 by decide)
  have lx : xs.length = qs.length := nx.1
  have nB := nx.ne l2 ha hb
  refine ⟨_, pss_cons (ps_set (i := 2) scSpo.nd rfl (Or.inl rfl) (pe_use UD hr1 rfl pass0 (pa_cons (pv 0) (pa_cons (pe_callB call_len_seq rfl mn PySem.boot_len (pa_cons (pv 1) pa_nil)) pa_nil))))
    (pss_cons (ps_if (pt_cmpR op_eq (pe_use UD hr1 rfl pass0 (pa_cons (pv 0) (pa_cons pe_int pa_nil))) pe_int (nomark _)) (pss_one (ps_ret (pe_callTy call_list_of rfl ml (by decide +kernel) (pa_cons (pv 1) pa_nil)))) pss_nil)
    (pss_one (ps_ret (pe_op op_cat (pe_op op_cat (pe_slice sl_list (pv 1) po_none (po_some (pv 2))) (pe_lst (pa_cons (pe_use UB hr rfl pass0 (pa_cons (pv 0) (pa_cons (pe_ix ix_list (pv 1) (pv 2) (fun _ _ => rfl)) pa_nil))) pa_nil))) (pe_slice sl_list (pv 1) (po_some (pe_op op_add (pv 2) pe_int)) po_none))))), ?_⟩
  refine ⟨_, rfl, _, rfl, a, xs, rfl, .inl (SqL.of ha), B, p, _, rfl, by omega, by omega, hb, fun H1 k b1 u1 k0 k1 => ?_⟩
  obtain ⟨m, rfl⟩ : ∃ m : Nat, k = (m : Int) := ⟨k.toNat, by omega⟩
  have hm : m < qs.length := by omega
  refine ⟨_, rfl, B, p, 4, rfl, by decide, by decide, b1, fun H2 c b2 u2 c0 c1 => ⟨rfl, _, rfl, ?_⟩⟩
  have u12 := u1.trans u2
  have ha2 := u12 _ _ nB ha
  have nx2 := nx.go hb (Go.of u12)
  refine ite2 (fun _ => ?_) (fun _ => ?_)
  · exact ⟨_, rfl, a, xs, rfl, .inl (SqL.of ha2), fun b nb => q _ _ qs (b2.put nb) (u12.trans (But.new nb)) ⟨b, xs, rfl, upd_same, nx2.same (new_same nb _)⟩ rfl (bq.mono (by decide))⟩
  · refine ⟨_, rfl, _, rfl, (m : Int), rfl, a, xs, rfl, SqL.of ha2, fun d nd => ?_⟩
    rw [cut_take]
    have s3 := new_same nd (.lst (xs.take m))
    have b3 := b2.put (o := .lst (xs.take m)) nd
    have hd3 : (upd H2 d (.lst (xs.take m))) d = some (.lst (xs.take m)) := upd_same
    have nx3 := nx2.same s3
    generalize upd H2 d (.lst (xs.take m)) = H3 at s3 b3 hd3 nx3
    obtain ⟨y, ey, ny⟩ := nx3.get' hm
    refine ⟨_, rfl, _, rfl, _, rfl, a, xs, _, _, rfl, rfl, SqL.of (s3 _ _ ha2), at_of (j := m) rfl ey, B, p, y, qs[m], rfl, b3, ny, bq _ (List.getElem_mem _), fun H4 z r b4 u4 nz br => ?_⟩
    have hd4 : H4 d = some (.lst (xs.take m)) := u4 _ _ (b2.at nd).1 hd3
    have ha4 := u4 _ _ nB (s3 _ _ ha2)
    have nx4 := nx3.go b3 (Go.of u4)
    refine ⟨(by show 1 ≤ sizeLine; decide), fun e ne => ?_⟩
    have s5 := new_same ne (.lst [z])
    have b5 := b4.put (o := .lst [z]) ne
    refine ⟨d, e, _, _, rfl, rfl, s5 _ _ hd4, upd_same, Nat.le_of_lt (small1000 (by rw [List.length_take]; show _ + 1 ≤ _; omega)), fun g ng => ?_⟩
    have s6 := s5.trans (new_same ng (.lst (xs.take m ++ [z])))
    have hg6 : (upd (upd H4 e (.lst [z])) g (.lst (xs.take m ++ [z]))) g = some (.lst (xs.take m ++ [z])) := upd_same
    have b6 := b5.put (o := .lst (xs.take m ++ [z])) ng
    generalize upd (upd H4 e (.lst [z])) g (.lst (xs.take m ++ [z])) = H6 at s6 hg6 b6
    refine ⟨_, rfl, _, rfl, (m : Int), 1, rfl, rfl, _, rfl, a, xs, rfl, SqL.of (s6 _ _ ha4), fun i ni => ?_⟩
    have ec : cutV xs (some ((m : Int) + 1)) none = xs.drop (m + 1) := cut_drop xs (m + 1)
    rw [ec]
    have s7 := s6.trans (new_same ni (.lst (xs.drop (m + 1))))
    have hg7 := new_same ni (.lst (xs.drop (m + 1))) _ _ hg6
    have b7 := b6.put (o := .lst (xs.drop (m + 1))) ni
    refine ⟨g, i, _, _, rfl, rfl, hg7, upd_same, Nat.le_of_lt (small1000 (by rw [List.length_append, List.length_take, List.length_drop]; show _ + 1 + _ ≤ _; omega)), fun j nj => ?_⟩
    have s8 := s7.trans (new_same nj (.lst (xs.take m ++ [z] ++ xs.drop (m + 1))))
    have b8 := b7.put (o := .lst (xs.take m ++ [z] ++ xs.drop (m + 1))) nj
    have n8 : Nl K _ (xs.take m ++ [z] ++ xs.drop (m + 1)) (qs.take m ++ [r] ++ qs.drop (m + 1)) := (((nx4.take m).snoc nz).app (nx4.drop (m + 1))).same s8
    refine q _ _ (qs.take m ++ [r] ++ qs.drop (m + 1)) b8 ((u12.trans (But.same s3)).trans (u4.trans (But.same s8))) ⟨j, _, rfl, upd_same, n8⟩ ?_ ?_
    · rw [List.length_append, List.length_append, List.length_take, List.length_drop]
      show _ + 1 + _ = _
      omega
    · intro t ht
      rcases List.mem_append.mp ht with ht | ht
      · rcases List.mem_append.mp ht with ht | ht
        · exact (bq t (List.mem_of_mem_take ht)).mono (by decide)
        · rw [List.mem_singleton.mp ht]
          exact br
      · exact (bq t (List.mem_of_mem_drop ht)).mono (by decide)
theorem scSize : FnScope ["_law_bag_here"] ["_law_bag_here"] (defScope L_any_size) := ⟨rfl, rfl, rfl, by decide +kernel, rfl, by decide +kernel, by decide +kernel⟩
theorem ok_size (F : Fun K "_law_any_size" "_law_any_size" L_any_size f fd) (UD : Use P w K mg base CX0 1 "_law_draw" ["_law_bag_here", "_law_limit"] spDraw []) (UO : Use P w K mg base CX0 2 "_law_of" ["_law_bag_here", "_law_things"] spOfL []) : FnOk P w K mg base CX0 3 f fd ["_law_bag_here"] spSize := by
  refine F.ok scSize (fun vs H Q E h => ?_) (fun cdv A outer s H vs Q E hr h => ?_)
  · obtain ⟨B, p, rfl, _⟩ := h
    rfl
  obtain ⟨B, p, rfl, hb, q⟩ := h
  refine ⟨_, pss_one (ps_ret (pe_use UO hr rfl pass0 (pa_cons (pv 0) (pa_cons (pe_lst (pa_cons pe_int (pa_cons pe_int (pa_cons pe_int (pa_cons pe_int (pa_cons pe_int (pa_cons pe_int (pa_cons pe_int (pa_cons pe_int (pa_cons pe_int (pa_cons (pe_op op_add pe_int (pe_use UD (hr.mono (by decide)) rfl pass0 (pa_cons (pv 0) (pa_cons pe_int pa_nil)))) pa_nil))))))))))) pa_nil)))), ?_⟩
  refine ⟨_, rfl, _, rfl, B, p, 23, rfl, by decide, by decide, hb, fun H1 k b1 u1 k0 k1 => ⟨2, k, rfl, rfl, (by show 10 ≤ sizeLine; decide), fun l nl => ?_⟩⟩
  refine ⟨B, p, l, _, rfl, upd_same, (b1.at nl).1, (by show 0 < 10; decide), (by show 10 ≤ 1000; decide), b1.put nl, fun H2 x b2 u2 hx => ?_⟩
  have uu : But B H H2 := u1.trans ((But.new nl).trans u2)
  have fin : ∀ n : Nat, 2 ≤ n → n ≤ 24 → Q (.int (n : Nat)) H2 := fun n h1 h2 => q H2 n b2 uu h1 h2
  simp only [List.mem_cons, List.not_mem_nil, or_false] at hx
  rcases hx with rfl | rfl | rfl | rfl | rfl | rfl | rfl | rfl | rfl | rfl
  · exact fin 2 (by decide) (by decide)
  · exact fin 3 (by decide) (by decide)
  · exact fin 4 (by decide) (by decide)
  · exact fin 5 (by decide) (by decide)
  · exact fin 6 (by decide) (by decide)
  · exact fin 7 (by decide) (by decide)
  · exact fin 3 (by decide) (by decide)
  · exact fin 4 (by decide) (by decide)
  · exact fin 5 (by decide) (by decide)
  · have e : (2 + k : Int) = ((2 + k.toNat : Nat) : Int) := by omega
    rw [e]
    exact fin (2 + k.toNat) (by omega) (by omega)
end
end Kx
end
section
set_option maxHeartbeats 4000000
namespace Kx
open PySem PySem.Spec PyProof.Rows L2 RZ
/-- where nothing is raised -/
theorem calm {P : Program} {w : World} {K : PySem.W.Frag} {mg : Str → Option Value} {base : Heap} {k : Nat} {f : Addr} {fd : FuncData} {ps : List Str} {sp sp0 : Sp} (F : FnOk P w K mg base (L2.CX P w) k f fd ps sp) (h : ∀ vs H Q E, sp0 vs H Q E → sp vs H Q (fun _ _ _ => False)) :
    FnOk P w K mg base CX0 k f fd ps sp0 := by
  refine ⟨fun vs H Q E q => F.len vs H Q _ (h _ _ _ _ q), fun A outer s H args us vs Q E hr he hb hv hs => codeAny_mono (F.run A outer s H args us vs Q _ hr he hb hv (h _ _ _ _ hs)) fun r s' hq => ?_⟩
  cases r with
  | error e =>
    obtain ⟨_, _, _, _, _, _, _, _, _, _, _, _, z⟩ := hq
    exact z.elim
  | ok fl =>
    cases fl with
    | ret u => exact hq
    | next => exact False.elim hq
    | brk => exact False.elim hq
    | cont => exact False.elim hq
/-- what stands of the class of the steps -/
structure StepK (P : Program) (w : World) (K : PySem.W.Frag) (mg : Str → Option Value) (base : Heap) (C S CF CO : Addr) : Prop where
  c : Cls K S
  nA : ∀ n ∈ stN, NoAttr K S n
  m : mg "Step" = some (.ref S)
  ini : ∃ (fI : Addr) (fd : FuncData), Mk K S fI ∧ FnOk P w K mg base (L2.CX P w) 6 fI fd ["self", "numbers"] (spSI K S CF CO) ∧ Binds K fd ["self", "numbers"] []
  ty : ∀ H a dx fs, H a = some (.ins S dx fs) → TyX K H (.ref a) (.ref S)
  kit : PySem.W.kitOne K (.ref S) (.ref S) = some true
  kB : ∀ n ∈ ["int", "bool", "str", "tuple", "list"], PySem.W.kitOne K (.ref S) (.type n) = some false
  kR : PySem.W.kitOne K (.ref S) (.ref C) = some false
section
variable {P : Program} {w : World} {K : PySem.W.Frag} {mg : Str → Option Value} {base : Heap} {f C S CF CO CN CP CL CU o1 o0 : Addr} {fd : FuncData}
/-- Step(v): from the numbers that v holds -/
theorem mk_step {H : Hp} {v : V} {E : XK} {Q : VK} (h : Giv K CF CO H v 0 E fun xs qs => ∀ H' y, Same H H' → StAt K S H' y qs → Q y H') (hv : ∀ a, v = .ref a → H a ≠ none) :
    ∀ x dx, H x = none → H dx = none → dx ≠ x → spSI K S CF CO [.ref x, v] (upd (upd H dx (.own x)) x (.ins S dx [])) (fun z H2 => z = .non ∧ Q (.ref x) H2) E := by
  intro x dx nx ndx ne
  have hx2 : upd (upd H dx (.own x)) x (.ins S dx []) x = some (.ins S dx []) := upd_same
  have sm : Same H (upd (upd H dx (.own x)) x (.ins S dx [])) := (new_same ndx _).trans (new_same (by rw [upd_ne (Ne.symm ne)]; exact nx) _)
  refine ⟨x, dx, v, rfl, fun e => hv x e nx, hx2, ?_⟩
  rcases h with ⟨h1, h2⟩ | ⟨a, xs, ev, ha, h⟩
  · exact .inl ⟨h1.same sm, h2.same sm⟩
  refine .inr ⟨a, xs, ev, ha.same sm, ?_⟩
  rcases h with ⟨ho, air⟩ | ⟨l1, l2, h⟩
  · exact .inl ⟨ho, air.same sm⟩
  refine .inr ⟨l1, l2, ?_⟩
  rcases h with ⟨rs, k, hI, hb, air⟩ | ⟨qs, hn, q⟩
  · exact .inl ⟨rs, k, hI.same sm, hb, air.same sm⟩
  refine .inr ⟨qs, hn.same sm, fun H' b x0 fv sv e0 u nb hx hb => ⟨rfl, ?_⟩⟩
  have lq : xs.length = qs.length := hn.1
  have s' : Same H H' := fun e o he => u e o (fun z => by rw [z, nx] at he; cases he) (sm e o he)
  exact q H' _ s' ⟨x, dx, b, xs, x0, fv, sv, rfl, hx, hb, hn.same s', e0, by omega, by omega⟩
theorem step_new {H H1 : Hp} {a : Addr} {xs : List V} {qs : List Rat} {E : XK} {Q : VK} (s : Same H H1) (ha : SqH H1 a xs) (hn : Nl K H1 xs qs) (l1 : 2 ≤ qs.length) (l2 : qs.length ≤ 24) (g : ∀ H' y, Same H H' → StAt K S H' y qs → Q y H') :
    ∀ x dx, H1 x = none → H1 dx = none → dx ≠ x → spSI K S CF CO [.ref x, .ref a] (upd (upd H1 dx (.own x)) x (.ins S dx [])) (fun z H2 => z = .non ∧ Q (.ref x) H2) E :=
  mk_step (giv_ok ha hn (by omega) (by omega) fun H' y s' r => g H' y (s.trans s') r) fun b e z => by
    obtain rfl : a = b := V.ref.inj e
    rcases ha with h | h <;> rw [h] at z <;> cases z
def spSn (K : PySem.W.Frag) : Sp := fun vs H Q _ => ∃ n : Nat, vs = [.int (n : Nat)] ∧ 2 ≤ n ∧ n ≤ 24 ∧ GivesL K H Q (1 :: List.replicate (n - 1) 0)
def spStil (K : PySem.W.Frag) (S : Addr) : Sp := fun vs H Q _ => ∃ n : Nat, vs = [.int (n : Nat)] ∧ 2 ≤ n ∧ n ≤ 24 ∧ ∀ H' y, Same H H' → StAt K S H' y (1 :: List.replicate (n - 1) 0) → Q y H'
theorem scSn : FnScope ["order"] ["order"] (defScope F_still_numbers) := ⟨rfl, rfl, rfl, by decide +kernel, rfl, by decide +kernel, by decide +kernel⟩
theorem ok_stilln (G : Fun K "still_numbers" "still_numbers" F_still_numbers f fd) (k1 : KP K o1 1 1) (k0 : KP K o0 0 1) (mZ : mg "ZERO" = some (.ref o0)) (mO : mg "ONE" = some (.ref o1)) : FnOk P w K mg base CX0 1 f fd ["order"] (spSn K) := by
  refine G.ok scSn (fun vs H Q E h => ?_) (fun cdv A outer s H vs Q E hr h => ?_)
  · obtain ⟨n, rfl, _⟩ := h
    rfl
  obtain ⟨n, rfl, h2, h24, q⟩ := h
  refine ⟨_, pss_one (ps_ret (pe_op op_cat (pe_lst (pa_cons (C8.pe_gc (v := .ref o1) rfl ⟨_, mO, rfl⟩) pa_nil)) (pe_op op_rep (pe_lst (pa_cons (C8.pe_gc (v := .ref o0) rfl ⟨_, mZ, rfl⟩) pa_nil)) (pe_op op_sub (pv 0) pe_int)))), ?_⟩
  refine ⟨(by show 1 ≤ sizeLine; decide), fun a na => ⟨(by show 1 ≤ sizeLine; decide), fun b nb => ⟨_, rfl, (n : Int), 1, rfl, rfl, b, ((n : Int) - 1), [.ref o0], rfl, rfl, upd_same, by omega, by omega, (by show 1 * _ ≤ sizeLine; exact Nat.le_of_lt (small1000 (by omega))), fun c nc => ?_⟩⟩⟩
  have rep : (List.replicate ((n : Int) - 1).toNat [V.ref o0]).flatten = List.replicate (n - 1) (.ref o0) := by
    rw [List.flatten_replicate_singleton]
    congr 1
    omega
  rw [rep]
  refine ⟨a, c, _, _, rfl, rfl, new_same nc _ _ _ (new_same nb _ _ _ upd_same), upd_same, Nat.le_of_lt (small1000 (by rw [List.length_replicate]; show 1 + _ ≤ _; omega)), fun d nd => ?_⟩
  refine q d _ _ ((new_same na _).trans ((new_same nb _).trans ((new_same nc _).trans (new_same nd _)))) ?_ upd_same ?_
  · exact (new_same na (.lst [V.ref o1])).free ((new_same nb _).free ((new_same nc _).free nd))
  · exact Nl.cons ⟨o1, rfl, .inr k1⟩ (zeros ⟨o0, rfl, .inr k0⟩ _)
theorem scStl : FnScope ["order"] ["order"] (defScope C_Step_still) := ⟨rfl, rfl, rfl, by decide +kernel, rfl, by decide +kernel, by decide +kernel⟩
theorem ok_still (G : Fun K "still" "Step.still" C_Step_still f fd) (k : StepK P w K mg base C S CF CO) (UC : Use P w K mg base (L2.CX P w) 3 "check_order" ["order"] (spCo K CO) []) (UN : Use P w K mg base CX0 1 "still_numbers" ["order"] (spSn K) []) :
    FnOk P w K mg base (L2.CX P w) 8 f fd ["order"] (spStil K S) := by
  refine G.okX scStl (fun vs H Q E h => ?_) (fun cdv A outer s H vs Q E hr h => ?_)
  · obtain ⟨n, rfl, _⟩ := h
    rfl
  obtain ⟨n, rfl, h2, h24, q⟩ := h
  obtain ⟨fI, fdI, M, FI, bI⟩ := k.ini
  refine ⟨_, pss_cons (ps_expr (pe_use (E := E) UC (hr.mono (by decide)) rfl (passes_call (takes_of rfl rfl rfl rfl) (fun _ _ _ _ h => h)) (pa_cons (pv 0) pa_nil)))
    (pss_one (ps_ret (pe_make (E := E) M FI hr rfl k.m bI .nil (passes_call (takes_of rfl rfl rfl rfl) (fun _ _ _ _ h => h)) (pa_cons (pe_use UN (hr.mono (by decide)) rfl pass0 (pa_cons (pv 0) pa_nil)) pa_nil)))), ?_⟩
  refine ⟨_, rfl, .int (n : Nat), true, rfl, .yes (by omega) (by omega), fun _ => ?_, fun z => Bool.noConfusion z⟩
  refine ⟨_, rfl, n, rfl, h2, h24, fun d H1 xs s1 n1 e1 m1 => ?_⟩
  exact step_new s1 (.inl e1) m1 (by rw [List.length_cons, List.length_replicate]; omega) (by rw [List.length_cons, List.length_replicate]; omega) q
end
/-! ### any value -/
def V2 (H : Hp) (x : V) : Prop := flatV x = true ∨ ∃ a ys, x = .ref a ∧ H a = some (.tup ys) ∧ ys.length ≤ 60 ∧ ∀ y ∈ ys, flatV y = true
inductive Vx (K : PySem.W.Frag) (S : Addr) (H : Hp) : V → Prop where
  | flat {v : V} (h : flatV v = true) : Vx K S H v
  | lst {a : Addr} {xs : List V} (h : H a = some (.lst xs)) (n : xs.length ≠ 5) (l : xs.length ≤ 60) (i : ∀ x ∈ xs, V2 H x) : Vx K S H (.ref a)
  | tup {a : Addr} {xs : List V} (h : H a = some (.tup xs)) (l : xs.length ≤ 60) (i : ∀ x ∈ xs, V2 H x) : Vx K S H (.ref a)
  | st {v : V} {qs : List Rat} (h : StAt K S H v qs) : Vx K S H v
/-- no int, seen at once -/
def NI (H : Hp) (x : V) : Prop := x = .non ∨ (∃ b, x = .bl b) ∨ (∃ s, x = .str s) ∨ ∃ a ys, x = .ref a ∧ H a = some (.tup ys)
/-- no fraction, seen at once -/
inductive NF (K : PySem.W.Frag) (S : Addr) (H : Hp) : V → Prop where
  | flat {v : V} (h : flatV v = true) : NF K S H v
  | lst {a : Addr} {xs : List V} (h : H a = some (.lst xs)) (n : xs.length ≠ 5) : NF K S H (.ref a)
  | len {a : Addr} {xs : List V} (h : H a = some (.tup xs)) (n : xs.length ≠ 2) : NF K S H (.ref a)
  | one {a : Addr} {x y : V} (h : H a = some (.tup [x, y])) (n : NI H x) (m : NI H y ∨ ∃ i, y = .int i) : NF K S H (.ref a)
  | two {a : Addr} {x y : V} (h : H a = some (.tup [x, y])) (n : ∃ i, x = .int i) (m : NI H y) : NF K S H (.ref a)
  | bad {a : Addr} {u l : Int} (h : H a = some (.tup [.int u, .int l])) (n : (decide (1 ≤ l) && decide (Nat.gcd u.natAbs l.natAbs = 1)) = false) (m : l.natAbs < 100) : NF K S H (.ref a)
  | st {v : V} {qs : List Rat} (h : StAt K S H v qs) : NF K S H v
section
variable {K : PySem.W.Frag} {S : Addr} {H H' : Hp} {B p : Addr}
theorem V2.go {x : V} (h : V2 H x) (b : Bag H B p) (s : Go B H H') : V2 H' x := h.imp id fun ⟨a, ys, e, h1, h2⟩ => ⟨a, ys, e, tup_go h1 b s, h2⟩
theorem V2.same {x : V} (h : V2 H x) (s : Same H H') : V2 H' x := h.imp id fun ⟨a, ys, e, h1, h2⟩ => ⟨a, ys, e, s _ _ h1, h2⟩
theorem NI.go {x : V} (h : NI H x) (b : Bag H B p) (s : Go B H H') : NI H' x := h.imp id (Or.imp id (Or.imp id fun ⟨a, ys, e, h1⟩ => ⟨a, ys, e, tup_go h1 b s⟩))
theorem NI.same {x : V} (h : NI H x) (s : Same H H') : NI H' x := h.imp id (Or.imp id (Or.imp id fun ⟨a, ys, e, h1⟩ => ⟨a, ys, e, s _ _ h1⟩))
theorem Vx.go {v : V} (h : Vx K S H v) (b : Bag H B p) (s : Go B H H') : Vx K S H' v := by
  cases h with
  | flat h => exact .flat h
  | lst h n l i => exact .lst (lst_go h n b s) n l fun x hx => (i x hx).go b s
  | tup h l i => exact .tup (tup_go h b s) l fun x hx => (i x hx).go b s
  | st h => exact .st (h.go b s)
theorem Vx.same {v : V} (h : Vx K S H v) (s : Same H H') : Vx K S H' v := by
  cases h with
  | flat h => exact .flat h
  | lst h n l i => exact .lst (s _ _ h) n l fun x hx => (i x hx).same s
  | tup h l i => exact .tup (s _ _ h) l fun x hx => (i x hx).same s
  | st h => exact .st (h.same s)
theorem NF.go {v : V} (h : NF K S H v) (b : Bag H B p) (s : Go B H H') : NF K S H' v := by
  cases h with
  | flat h => exact .flat h
  | lst h n => exact .lst (lst_go h n b s) n
  | len h n => exact .len (tup_go h b s) n
  | one h n m => exact .one (tup_go h b s) (n.go b s) (m.imp (fun m => m.go b s) id)
  | two h n m => exact .two (tup_go h b s) n (m.go b s)
  | bad h n m => exact .bad (tup_go h b s) n m
  | st h => exact .st (h.go b s)
theorem NF.same {v : V} (h : NF K S H v) (s : Same H H') : NF K S H' v := by
  cases h with
  | flat h => exact .flat h
  | lst h n => exact .lst (s _ _ h) n
  | len h n => exact .len (s _ _ h) n
  | one h n m => exact .one (s _ _ h) (n.same s) (m.imp (fun m => m.same s) id)
  | two h n m => exact .two (s _ _ h) n (m.same s)
  | bad h n m => exact .bad (s _ _ h) n m
  | st h => exact .st (h.same s)
theorem kb_w : kitB "NoneType" "int" = some false ∧ kitB "NoneType" "bool" = some false ∧ kitB "bool" "int" = some true ∧ kitB "bool" "bool" = some true ∧ kitB "str" "int" = some false ∧ kitB "str" "bool" = some false ∧ kitB "tuple" "int" = some false ∧ kitB "tuple" "bool" = some false ∧ kitB "list" "int" = some false ∧ kitB "list" "bool" = some false := by decide +kernel
theorem kb_t : kitB "NoneType" "tuple" = some false ∧ kitB "bool" "tuple" = some false ∧ kitB "int" "tuple" = some false ∧ kitB "str" "tuple" = some false ∧ kitB "NoneType" "list" = some false ∧ kitB "bool" "list" = some false ∧ kitB "int" "list" = some false ∧ kitB "str" "list" = some false := by decide +kernel
theorem NI.wh {x : V} (h : NI H x) : WhV K H x false := fun H' s => by
  rcases h.same s with rfl | ⟨b, rfl⟩ | ⟨t, rfl⟩ | ⟨a, ys, rfl, h1⟩
  · exact ⟨_, _, _, .base .non, kit_ty kb_w.1, kit_ty kb_w.2.1, rfl⟩
  · exact ⟨_, _, _, .base (.bl b), kit_ty kb_w.2.2.1, kit_ty kb_w.2.2.2.1, rfl⟩
  · exact ⟨_, _, _, .base (.str t), kit_ty kb_w.2.2.2.2.1, kit_ty kb_w.2.2.2.2.2.1, rfl⟩
  · exact ⟨_, _, _, .base (.tup h1), kit_ty kb_w.2.2.2.2.2.2.1, kit_ty kb_w.2.2.2.2.2.2.2.1, rfl⟩
theorem flat_ty {v : V} (h : flatV v = true) : (∃ T, TyX K H v T ∧ PySem.W.kitOne K T (.type "tuple") = some false ∧ PySem.W.kitAny K T [.type "list", .type "tuple"] = some false) := by
  cases v with
  | non => exact ⟨_, .base .non, kit_ty kb_t.1, kit2 kb_t.2.2.2.2.1 kb_t.1 rfl⟩
  | bl b => exact ⟨_, .base (.bl b), kit_ty kb_t.2.1, kit2 kb_t.2.2.2.2.2.1 kb_t.2.1 rfl⟩
  | int i => exact ⟨_, .base (.int i), kit_ty kb_t.2.2.1, kit2 kb_t.2.2.2.2.2.2.1 kb_t.2.2.1 rfl⟩
  | str t => exact ⟨_, .base (.str t), kit_ty kb_t.2.2.2.1, kit2 kb_t.2.2.2.2.2.2.2 kb_t.2.2.2.1 rfl⟩
  | _ => cases h
end
section
variable {P : Program} {w : World} {K : PySem.W.Frag} {mg : Str → Option Value} {base : Heap} {C S CF CO : Addr} {H : Hp}
theorem StAt.ty {v : V} {qs : List Rat} (h : StAt K S H v qs) (k : StepK P w K mg base C S CF CO) : TyX K H v (.ref S) := by
  obtain ⟨x, dx, b, xs, x0, fv, sv, rfl, h1, _⟩ := h
  exact k.ty _ _ _ _ h1
theorem NF.isG {v : V} (h : NF K S H v) (k : StepK P w K mg base C S CF CO) : IsGs K H v false := fun H' s => by
  have z := h.same s
  clear h
  cases z with
  | flat h =>
    obtain ⟨T, t, k1, _⟩ := flat_ty (K := K) (H := H') h
    exact .inl ⟨T, t, k1, rfl⟩
  | lst h n => exact .inl ⟨_, .base (.lst h), kit_ty kb_l.2.1, rfl⟩
  | len h n => exact .inr (.inl ⟨_, _, rfl, SqT.of h, .base (.tup h), n, rfl⟩)
  | one h n m =>
    rcases m with m | ⟨i, rfl⟩
    · exact .inr (.inr ⟨_, _, _, false, false, rfl, SqT.of h, .base (.tup h), n.wh, m.wh, .inl ⟨rfl, rfl⟩⟩)
    · exact .inr (.inr ⟨_, _, _, false, true, rfl, SqT.of h, .base (.tup h), n.wh, wh_int i, .inl ⟨rfl, rfl⟩⟩)
  | two h n m =>
    obtain ⟨i, rfl⟩ := n
    exact .inr (.inr ⟨_, _, _, true, false, rfl, SqT.of h, .base (.tup h), wh_int i, m.wh, .inl ⟨rfl, rfl⟩⟩)
  | bad h n _ => exact .inr (.inr ⟨_, _, _, true, true, rfl, SqT.of h, .base (.tup h), wh_int _, wh_int _, .inr ⟨_, _, rfl, rfl, rfl, rfl, n.symm⟩⟩)
  | st h => exact .inl ⟨_, h.ty k, k.kB _ (by simp), rfl⟩
/-- no list, no tuple -/
theorem flat_lsv {v : V} (h : flatV v = true) : LsV K H v false := fun H' s => by
  obtain ⟨T, t, _, k⟩ := flat_ty (K := K) (H := H') h
  exact ⟨T, t, k⟩
theorem StAt.lsv {v : V} {qs : List Rat} (h : StAt K S H v qs) (k : StepK P w K mg base C S CF CO) : LsV K H v false := fun H' s =>
  ⟨_, (h.same s).ty k, kitAny_cons (k.kB "list" (by simp)) (fun _ => kitAny_cons (k.kB "tuple" (by simp)) (fun _ => kitAny_nil) (fun z => Bool.noConfusion z)) (fun z => Bool.noConfusion z)⟩
/-- an int from lo to hi it is not -/
theorem Vx.inR {v : V} {lo hi : Int} (h : Vx K S H v) (k : StepK P w K mg base C S CF CO) (n : ∀ i : Int, v = .int i → i < lo ∨ hi < i) : InR K H v lo hi false := by
  have no : WhV K H v false → InR K H v lo hi false := fun w => ⟨false, w, .inl ⟨rfl, rfl⟩⟩
  have ni : NI H v → InR K H v lo hi false := fun z => no z.wh
  cases h with
  | flat h =>
    cases v with
    | non => exact ni (.inl rfl)
    | bl b => exact ni (.inr (.inl ⟨b, rfl⟩))
    | int i => exact .no (n i rfl)
    | str t => exact ni (.inr (.inr (.inl ⟨t, rfl⟩)))
    | _ => cases h
  | lst h _ _ _ => exact no fun H' s => ⟨_, _, _, .base (.lst (s _ _ h)), kit_ty kb_w.2.2.2.2.2.2.2.2.1, kit_ty kb_w.2.2.2.2.2.2.2.2.2, rfl⟩
  | tup h _ _ => exact ni (.inr (.inr (.inr ⟨_, _, rfl, h⟩)))
  | st h => exact no fun H' s => ⟨_, _, _, (h.same s).ty k, k.kB "int" (by simp), k.kB "bool" (by simp), rfl⟩
end
end Kx
end
section
set_option maxHeartbeats 4000000
namespace Kx
open PySem PySem.Spec PyProof.Rows L2
def Od (K : PySem.W.Frag) (S : Addr) (H : Hp) (v : V) : Prop := Vx K S H v ∧ NF K S H v
theorem Od.same {K : PySem.W.Frag} {S : Addr} {H H' : Hp} {v : V} (h : Od K S H v) (s : Same H H') : Od K S H' v := ⟨h.1.same s, h.2.same s⟩
theorem Od.go {K : PySem.W.Frag} {S : Addr} {H H' : Hp} {B p : Addr} {v : V} (h : Od K S H v) (b : Bag H B p) (s : Go B H H') : Od K S H' v := ⟨h.1.go b s, h.2.go b s⟩
def spOdd (K : PySem.W.Frag) (S : Addr) : Sp := fun vs H Q _ => ∃ B p : Addr, vs = [.ref B] ∧ Bag H B p ∧ ∀ H' v, Bag H' B p → But B H H' → Od K S H' v → Q v H'
section
variable {P : Program} {w : World} {K : PySem.W.Frag} {mg : Str → Option Value} {base : Heap} {f C S CF CO pS gS : Addr} {mc : Value} {fd fdS : FuncData}
theorem scOdd : FnScope ["_law_bag_here", "_law_some"] ["_law_bag_here"] (defScope L_odd) := ⟨rfl, rfl, rfl, by decide +kernel, rfl, by decide +kernel, by decide +kernel⟩
theorem ok_odd (F : Fun K "_law_odd" "_law_odd" L_odd f fd) (k : StepK P w K mg base C S CF CO) (rS : ClX.CRead K S mc) (cS : CSta K S mc "still" pS gS) (FS : FnOk P w K mg base CX0 8 gS fdS ["order"] (spStil K S)) (bS : Binds K fdS ["order"] [])
    (UO : Use P w K mg base CX0 2 "_law_of" ["_law_bag_here", "_law_things"] spOfL []) : FnOk P w K mg base CX0 9 f fd ["_law_bag_here"] (spOdd K S) := by
  refine F.ok scOdd (fun vs H Q E h => ?_) (fun cdv A outer s H vs Q E hr h => ?_)
  · obtain ⟨B, p, rfl, _⟩ := h
    rfl
  obtain ⟨B, p, rfl, hb, q⟩ := h
  refine ⟨_, C8.pss_cut (ps_set (i := 1) scOdd.nd rfl (Or.inl rfl) (pe_lst (pa_cons pe_non (pa_cons pe_bl (pa_cons pe_bl (pa_cons pe_int (pa_cons pe_int (pa_cons pe_str (pa_cons pe_str (pa_cons pe_str (pa_cons (pe_tup (pa_cons pe_int (pa_cons pe_int pa_nil))) (pa_cons (pe_tup (pa_cons pe_int (pa_cons pe_int pa_nil))) (pa_cons (pe_tup (pa_cons pe_int (pa_cons pe_int pa_nil))) (pa_cons (pe_tup (pa_cons pe_int (pa_cons (pe_un un_neg pe_int) pa_nil))) (pa_cons (pe_tup (pa_cons pe_int (pa_cons pe_int pa_nil))) (pa_cons (pe_lst (pa_cons pe_int (pa_cons pe_int pa_nil))) (pa_cons (pe_tup (pa_cons pe_bl (pa_cons pe_int pa_nil))) (pa_cons (pe_tup (pa_cons pe_int (pa_cons pe_bl pa_nil))) pa_nil))))))))))))))))))
    (C8.pss_cut (ps_set (i := 1) scOdd.nd rfl (Or.inl rfl) (pe_op op_cat (pv 1) (pe_lst (pa_cons (pe_tup (pa_cons pe_int pa_nil)) (pa_cons (pe_tup (pa_cons pe_int (pa_cons pe_int (pa_cons pe_int pa_nil)))) (pa_cons (pe_tup pa_nil) (pa_cons (pe_lst pa_nil) (pa_cons (pe_tup (pa_cons (pe_tup (pa_cons pe_int (pa_cons pe_int pa_nil))) (pa_cons pe_int pa_nil))) (pa_cons (pe_tup (pa_cons pe_int (pa_cons pe_non pa_nil))) (pa_cons (pe_tup (pa_cons pe_str (pa_cons pe_int pa_nil))) (pa_cons (pe_lst (pa_cons (pe_tup (pa_cons pe_int (pa_cons pe_int pa_nil))) pa_nil)) (pa_cons (pe_static (C8.pe_gc (v := .ref S) rfl ⟨_, k.m, rfl⟩) rS cS FS hr bS pass0 (pa_cons pe_int pa_nil)) pa_nil))))))))))))
    (pss_one (ps_ret (pe_use UO (hr.mono (by decide)) rfl pass0 (pa_cons (pv 0) (pa_cons (pv 1) pa_nil)))))), ?_⟩
  refine ⟨fun σ H' => ∃ l xs, σ = [some (.ref B), some (.ref l)] ∧ H' l = some (.lst xs) ∧ H l = none ∧ xs.length = 16 ∧ (∀ x ∈ xs, Od K S H' x) ∧ Same H H', ?_, ?_⟩
  · refine ⟨(by show 2 ≤ sizeLine; decide), fun t1 n1 => ?_⟩
    have s1 := new_same n1 (HO.tup [V.int (2), V.int (4)])
    have h1 : (upd H t1 (HO.tup [V.int (2), V.int (4)])) t1 = some (HO.tup [V.int (2), V.int (4)]) := upd_same
    generalize upd H t1 (HO.tup [V.int (2), V.int (4)]) = G1 at s1 h1 ⊢
    refine ⟨(by show 2 ≤ sizeLine; decide), fun t2 n2 => ?_⟩
    have s2 := new_same n2 (HO.tup [V.int (1), V.int (0)])
    have h2 : (upd G1 t2 (HO.tup [V.int (1), V.int (0)])) t2 = some (HO.tup [V.int (1), V.int (0)]) := upd_same
    generalize upd G1 t2 (HO.tup [V.int (1), V.int (0)]) = G2 at s2 h2 ⊢
    refine ⟨(by show 2 ≤ sizeLine; decide), fun t3 n3 => ?_⟩
    have s3 := new_same n3 (HO.tup [V.int (0), V.int (2)])
    have h3 : (upd G2 t3 (HO.tup [V.int (0), V.int (2)])) t3 = some (HO.tup [V.int (0), V.int (2)]) := upd_same
    generalize upd G2 t3 (HO.tup [V.int (0), V.int (2)]) = G3 at s3 h3 ⊢
    refine ⟨_, rfl, (by show 2 ≤ sizeLine; decide), fun t4 n4 => ?_⟩
    have s4 := new_same n4 (HO.tup [V.int (1), V.int (-2)])
    have h4 : (upd G3 t4 (HO.tup [V.int (1), V.int (-2)])) t4 = some (HO.tup [V.int (1), V.int (-2)]) := upd_same
    generalize upd G3 t4 (HO.tup [V.int (1), V.int (-2)]) = G4 at s4 h4 ⊢
    refine ⟨(by show 2 ≤ sizeLine; decide), fun t5 n5 => ?_⟩
    have s5 := new_same n5 (HO.tup [V.int (0), V.int (0)])
    have h5 : (upd G4 t5 (HO.tup [V.int (0), V.int (0)])) t5 = some (HO.tup [V.int (0), V.int (0)]) := upd_same
    generalize upd G4 t5 (HO.tup [V.int (0), V.int (0)]) = G5 at s5 h5 ⊢
    refine ⟨(by show 2 ≤ sizeLine; decide), fun t6 n6 => ?_⟩
    have s6 := new_same n6 (HO.lst [V.int (1), V.int (2)])
    have h6 : (upd G5 t6 (HO.lst [V.int (1), V.int (2)])) t6 = some (HO.lst [V.int (1), V.int (2)]) := upd_same
    generalize upd G5 t6 (HO.lst [V.int (1), V.int (2)]) = G6 at s6 h6 ⊢
    refine ⟨(by show 2 ≤ sizeLine; decide), fun t7 n7 => ?_⟩
    have s7 := new_same n7 (HO.tup [V.bl true, V.int (1)])
    have h7 : (upd G6 t7 (HO.tup [V.bl true, V.int (1)])) t7 = some (HO.tup [V.bl true, V.int (1)]) := upd_same
    generalize upd G6 t7 (HO.tup [V.bl true, V.int (1)]) = G7 at s7 h7 ⊢
    refine ⟨(by show 2 ≤ sizeLine; decide), fun t8 n8 => ?_⟩
    have s8 := new_same n8 (HO.tup [V.int (1), V.bl true])
    have h8 : (upd G7 t8 (HO.tup [V.int (1), V.bl true])) t8 = some (HO.tup [V.int (1), V.bl true]) := upd_same
    generalize upd G7 t8 (HO.tup [V.int (1), V.bl true]) = G8 at s8 h8 ⊢
    refine ⟨(by show 16 ≤ sizeLine; decide), fun t9 n9 => ?_⟩
    have s9 := new_same n9 (HO.lst [V.non, V.bl true, V.bl false, V.int (0), V.int (1), V.str "1", V.str "", V.str "1/2", V.ref t1, V.ref t2, V.ref t3, V.ref t4, V.ref t5, V.ref t6, V.ref t7, V.ref t8])
    have h9 : (upd G8 t9 (HO.lst [V.non, V.bl true, V.bl false, V.int (0), V.int (1), V.str "1", V.str "", V.str "1/2", V.ref t1, V.ref t2, V.ref t3, V.ref t4, V.ref t5, V.ref t6, V.ref t7, V.ref t8])) t9 = some (HO.lst [V.non, V.bl true, V.bl false, V.int (0), V.int (1), V.str "1", V.str "", V.str "1/2", V.ref t1, V.ref t2, V.ref t3, V.ref t4, V.ref t5, V.ref t6, V.ref t7, V.ref t8]) := upd_same
    generalize upd G8 t9 (HO.lst [V.non, V.bl true, V.bl false, V.int (0), V.int (1), V.str "1", V.str "", V.str "1/2", V.ref t1, V.ref t2, V.ref t3, V.ref t4, V.ref t5, V.ref t6, V.ref t7, V.ref t8]) = G9 at s9 h9 ⊢
    refine ⟨t9, _, rfl, h9, ((((((((s1).trans s2).trans s3).trans s4).trans s5).trans s6).trans s7).trans s8).free n9, rfl, fun x hx => ?_, ((((((((s1).trans s2).trans s3).trans s4).trans s5).trans s6).trans s7).trans s8).trans s9⟩
    simp only [List.mem_cons, List.not_mem_nil, or_false] at hx
    rcases hx with rfl | rfl | rfl | rfl | rfl | rfl | rfl | rfl | rfl | rfl | rfl | rfl | rfl | rfl | rfl | rfl
    · exact ⟨.flat rfl, .flat rfl⟩
    · exact ⟨.flat rfl, .flat rfl⟩
    · exact ⟨.flat rfl, .flat rfl⟩
    · exact ⟨.flat rfl, .flat rfl⟩
    · exact ⟨.flat rfl, .flat rfl⟩
    · exact ⟨.flat rfl, .flat rfl⟩
    · exact ⟨.flat rfl, .flat rfl⟩
    · exact ⟨.flat rfl, .flat rfl⟩
    · exact ⟨.tup (s9 _ _ (s8 _ _ (s7 _ _ (s6 _ _ (s5 _ _ (s4 _ _ (s3 _ _ (s2 _ _ (h1))))))))) (by show 2 ≤ 60; decide) (fun x hx => by
            simp only [List.mem_cons, List.not_mem_nil, or_false] at hx
            rcases hx with rfl | rfl <;> exact .inl rfl), .bad (s9 _ _ (s8 _ _ (s7 _ _ (s6 _ _ (s5 _ _ (s4 _ _ (s3 _ _ (s2 _ _ (h1))))))))) (by decide) (by decide)⟩
    · exact ⟨.tup (s9 _ _ (s8 _ _ (s7 _ _ (s6 _ _ (s5 _ _ (s4 _ _ (s3 _ _ (h2)))))))) (by show 2 ≤ 60; decide) (fun x hx => by
            simp only [List.mem_cons, List.not_mem_nil, or_false] at hx
            rcases hx with rfl | rfl <;> exact .inl rfl), .bad (s9 _ _ (s8 _ _ (s7 _ _ (s6 _ _ (s5 _ _ (s4 _ _ (s3 _ _ (h2)))))))) (by decide) (by decide)⟩
    · exact ⟨.tup (s9 _ _ (s8 _ _ (s7 _ _ (s6 _ _ (s5 _ _ (s4 _ _ (h3))))))) (by show 2 ≤ 60; decide) (fun x hx => by
            simp only [List.mem_cons, List.not_mem_nil, or_false] at hx
            rcases hx with rfl | rfl <;> exact .inl rfl), .bad (s9 _ _ (s8 _ _ (s7 _ _ (s6 _ _ (s5 _ _ (s4 _ _ (h3))))))) (by decide) (by decide)⟩
    · exact ⟨.tup (s9 _ _ (s8 _ _ (s7 _ _ (s6 _ _ (s5 _ _ (h4)))))) (by show 2 ≤ 60; decide) (fun x hx => by
            simp only [List.mem_cons, List.not_mem_nil, or_false] at hx
            rcases hx with rfl | rfl <;> exact .inl rfl), .bad (s9 _ _ (s8 _ _ (s7 _ _ (s6 _ _ (s5 _ _ (h4)))))) (by decide) (by decide)⟩
    · exact ⟨.tup (s9 _ _ (s8 _ _ (s7 _ _ (s6 _ _ (h5))))) (by show 2 ≤ 60; decide) (fun x hx => by
            simp only [List.mem_cons, List.not_mem_nil, or_false] at hx
            rcases hx with rfl | rfl <;> exact .inl rfl), .bad (s9 _ _ (s8 _ _ (s7 _ _ (s6 _ _ (h5))))) (by decide) (by decide)⟩
    · exact ⟨.lst (s9 _ _ (s8 _ _ (s7 _ _ (h6)))) (by show 2 ≠ 5; decide) (by show 2 ≤ 60; decide) (fun x hx => by
            simp only [List.mem_cons, List.not_mem_nil, or_false] at hx
            rcases hx with rfl | rfl <;> exact .inl rfl), .lst (s9 _ _ (s8 _ _ (s7 _ _ (h6)))) (by show 2 ≠ 5; decide)⟩
    · exact ⟨.tup (s9 _ _ (s8 _ _ (h7))) (by show 2 ≤ 60; decide) (fun x hx => by
            simp only [List.mem_cons, List.not_mem_nil, or_false] at hx
            rcases hx with rfl | rfl <;> exact .inl rfl), .one (s9 _ _ (s8 _ _ (h7))) (.inr (.inl ⟨_, rfl⟩)) (.inr ⟨_, rfl⟩)⟩
    · exact ⟨.tup (s9 _ _ (h8)) (by show 2 ≤ 60; decide) (fun x hx => by
            simp only [List.mem_cons, List.not_mem_nil, or_false] at hx
            rcases hx with rfl | rfl <;> exact .inl rfl), .two (s9 _ _ (h8)) ⟨_, rfl⟩ (.inr (.inl ⟨_, rfl⟩))⟩
  rintro σ H1 ⟨l, xs, rfl, hl, nl, hlen, hod, sm⟩
  refine ⟨fun σ H' => ∃ l xs, σ = [some (.ref B), some (.ref l)] ∧ H' l = some (.lst xs) ∧ H l = none ∧ xs.length = 25 ∧ (∀ x ∈ xs, Od K S H' x) ∧ Same H H', ?_, ?_⟩
  · refine ⟨_, rfl, (by show 1 ≤ sizeLine; decide), fun t1 n1 => ?_⟩
    have s1 := new_same n1 (HO.tup [V.int (1)])
    have h1 : (upd H1 t1 (HO.tup [V.int (1)])) t1 = some (HO.tup [V.int (1)]) := upd_same
    generalize upd H1 t1 (HO.tup [V.int (1)]) = G1 at s1 h1 ⊢
    refine ⟨(by show 3 ≤ sizeLine; decide), fun t2 n2 => ?_⟩
    have s2 := new_same n2 (HO.tup [V.int (1), V.int (2), V.int (3)])
    have h2 : (upd G1 t2 (HO.tup [V.int (1), V.int (2), V.int (3)])) t2 = some (HO.tup [V.int (1), V.int (2), V.int (3)]) := upd_same
    generalize upd G1 t2 (HO.tup [V.int (1), V.int (2), V.int (3)]) = G2 at s2 h2 ⊢
    refine ⟨(by show 0 ≤ sizeLine; decide), fun t3 n3 => ?_⟩
    have s3 := new_same n3 (HO.tup [])
    have h3 : (upd G2 t3 (HO.tup [])) t3 = some (HO.tup []) := upd_same
    generalize upd G2 t3 (HO.tup []) = G3 at s3 h3 ⊢
    refine ⟨(by show 0 ≤ sizeLine; decide), fun t4 n4 => ?_⟩
    have s4 := new_same n4 (HO.lst [])
    have h4 : (upd G3 t4 (HO.lst [])) t4 = some (HO.lst []) := upd_same
    generalize upd G3 t4 (HO.lst []) = G4 at s4 h4 ⊢
    refine ⟨(by show 2 ≤ sizeLine; decide), fun t5 n5 => ?_⟩
    have s5 := new_same n5 (HO.tup [V.int (1), V.int (1)])
    have h5 : (upd G4 t5 (HO.tup [V.int (1), V.int (1)])) t5 = some (HO.tup [V.int (1), V.int (1)]) := upd_same
    generalize upd G4 t5 (HO.tup [V.int (1), V.int (1)]) = G5 at s5 h5 ⊢
    refine ⟨(by show 2 ≤ sizeLine; decide), fun t6 n6 => ?_⟩
    have s6 := new_same n6 (HO.tup [V.ref t5, V.int (1)])
    have h6 : (upd G5 t6 (HO.tup [V.ref t5, V.int (1)])) t6 = some (HO.tup [V.ref t5, V.int (1)]) := upd_same
    generalize upd G5 t6 (HO.tup [V.ref t5, V.int (1)]) = G6 at s6 h6 ⊢
    refine ⟨(by show 2 ≤ sizeLine; decide), fun t7 n7 => ?_⟩
    have s7 := new_same n7 (HO.tup [V.int (1), V.non])
    have h7 : (upd G6 t7 (HO.tup [V.int (1), V.non])) t7 = some (HO.tup [V.int (1), V.non]) := upd_same
    generalize upd G6 t7 (HO.tup [V.int (1), V.non]) = G7 at s7 h7 ⊢
    refine ⟨(by show 2 ≤ sizeLine; decide), fun t8 n8 => ?_⟩
    have s8 := new_same n8 (HO.tup [V.str "1", V.int (2)])
    have h8 : (upd G7 t8 (HO.tup [V.str "1", V.int (2)])) t8 = some (HO.tup [V.str "1", V.int (2)]) := upd_same
    generalize upd G7 t8 (HO.tup [V.str "1", V.int (2)]) = G8 at s8 h8 ⊢
    refine ⟨(by show 2 ≤ sizeLine; decide), fun t9 n9 => ?_⟩
    have s9 := new_same n9 (HO.tup [V.int (1), V.int (1)])
    have h9 : (upd G8 t9 (HO.tup [V.int (1), V.int (1)])) t9 = some (HO.tup [V.int (1), V.int (1)]) := upd_same
    generalize upd G8 t9 (HO.tup [V.int (1), V.int (1)]) = G9 at s9 h9 ⊢
    refine ⟨(by show 1 ≤ sizeLine; decide), fun t10 n10 => ?_⟩
    have s10 := new_same n10 (HO.lst [V.ref t9])
    have h10 : (upd G9 t10 (HO.lst [V.ref t9])) t10 = some (HO.lst [V.ref t9]) := upd_same
    generalize upd G9 t10 (HO.lst [V.ref t9]) = G10 at s10 h10 ⊢
    refine ⟨rfl, 3, rfl, by decide, by decide, fun G11 y11 s11 h11 => ?_⟩
    refine ⟨(by show 9 ≤ sizeLine; decide), fun t12 n12 => ?_⟩
    have s12 := new_same n12 (HO.lst [V.ref t1, V.ref t2, V.ref t3, V.ref t4, V.ref t6, V.ref t7, V.ref t8, V.ref t10, y11])
    have h12 : (upd G11 t12 (HO.lst [V.ref t1, V.ref t2, V.ref t3, V.ref t4, V.ref t6, V.ref t7, V.ref t8, V.ref t10, y11])) t12 = some (HO.lst [V.ref t1, V.ref t2, V.ref t3, V.ref t4, V.ref t6, V.ref t7, V.ref t8, V.ref t10, y11]) := upd_same
    generalize upd G11 t12 (HO.lst [V.ref t1, V.ref t2, V.ref t3, V.ref t4, V.ref t6, V.ref t7, V.ref t8, V.ref t10, y11]) = G12 at s12 h12 ⊢
    have sA : Same H1 G12 := (((((((((((s1).trans s2).trans s3).trans s4).trans s5).trans s6).trans s7).trans s8).trans s9).trans s10).trans s11).trans s12
    refine ⟨l, t12, xs, _, rfl, rfl, sA _ _ hl, h12, Nat.le_of_lt (small1000 (by rw [hlen]; show 16 + 9 ≤ 1000; decide)), fun m nm => ?_⟩
    have sm2 := new_same nm (HO.lst (xs ++ [V.ref t1, V.ref t2, V.ref t3, V.ref t4, V.ref t6, V.ref t7, V.ref t8, V.ref t10, y11]))
    refine ⟨m, _, rfl, upd_same, (sm.trans sA).free nm, by rw [List.length_append, hlen]; rfl, fun x hx => ?_, sm.trans (sA.trans sm2)⟩
    rcases List.mem_append.mp hx with hx | hx
    · exact (hod x hx).same (sA.trans sm2)
    · refine Od.same ?_ sm2
      simp only [List.mem_cons, List.not_mem_nil, or_false] at hx
      rcases hx with rfl | rfl | rfl | rfl | rfl | rfl | rfl | rfl | rfl
      · exact ⟨.tup (s12 _ _ (s11 _ _ (s10 _ _ (s9 _ _ (s8 _ _ (s7 _ _ (s6 _ _ (s5 _ _ (s4 _ _ (s3 _ _ (s2 _ _ (h1)))))))))))) (by show 1 ≤ 60; decide) (fun x hx => by
              simp only [List.mem_cons, List.not_mem_nil, or_false] at hx
              rcases hx with rfl <;> exact .inl rfl), .len (s12 _ _ (s11 _ _ (s10 _ _ (s9 _ _ (s8 _ _ (s7 _ _ (s6 _ _ (s5 _ _ (s4 _ _ (s3 _ _ (s2 _ _ (h1)))))))))))) (by show 1 ≠ 2; decide)⟩
      · exact ⟨.tup (s12 _ _ (s11 _ _ (s10 _ _ (s9 _ _ (s8 _ _ (s7 _ _ (s6 _ _ (s5 _ _ (s4 _ _ (s3 _ _ (h2))))))))))) (by show 3 ≤ 60; decide) (fun x hx => by
              simp only [List.mem_cons, List.not_mem_nil, or_false] at hx
              rcases hx with rfl | rfl | rfl <;> exact .inl rfl), .len (s12 _ _ (s11 _ _ (s10 _ _ (s9 _ _ (s8 _ _ (s7 _ _ (s6 _ _ (s5 _ _ (s4 _ _ (s3 _ _ (h2))))))))))) (by show 3 ≠ 2; decide)⟩
      · exact ⟨.tup (s12 _ _ (s11 _ _ (s10 _ _ (s9 _ _ (s8 _ _ (s7 _ _ (s6 _ _ (s5 _ _ (s4 _ _ (h3)))))))))) (by show 0 ≤ 60; decide) (fun x hx => nomatch hx), .len (s12 _ _ (s11 _ _ (s10 _ _ (s9 _ _ (s8 _ _ (s7 _ _ (s6 _ _ (s5 _ _ (s4 _ _ (h3)))))))))) (by show 0 ≠ 2; decide)⟩
      · exact ⟨.lst (s12 _ _ (s11 _ _ (s10 _ _ (s9 _ _ (s8 _ _ (s7 _ _ (s6 _ _ (s5 _ _ (h4))))))))) (by show 0 ≠ 5; decide) (by show 0 ≤ 60; decide) (fun x hx => nomatch hx), .lst (s12 _ _ (s11 _ _ (s10 _ _ (s9 _ _ (s8 _ _ (s7 _ _ (s6 _ _ (s5 _ _ (h4))))))))) (by show 0 ≠ 5; decide)⟩
      · exact ⟨.tup (s12 _ _ (s11 _ _ (s10 _ _ (s9 _ _ (s8 _ _ (s7 _ _ (h6))))))) (by show 2 ≤ 60; decide) (fun x hx => by
              simp only [List.mem_cons, List.not_mem_nil, or_false] at hx
              rcases hx with rfl | rfl
              · exact .inr ⟨_, _, rfl, s12 _ _ (s11 _ _ (s10 _ _ (s9 _ _ (s8 _ _ (s7 _ _ (s6 _ _ (h5))))))), (by show 2 ≤ 60; decide), fun y hy => by
                simp only [List.mem_cons, List.not_mem_nil, or_false] at hy
                rcases hy with rfl | rfl <;> rfl⟩
              · exact .inl rfl), .one (s12 _ _ (s11 _ _ (s10 _ _ (s9 _ _ (s8 _ _ (s7 _ _ (h6))))))) (.inr (.inr (.inr ⟨_, _, rfl, s12 _ _ (s11 _ _ (s10 _ _ (s9 _ _ (s8 _ _ (s7 _ _ (s6 _ _ (h5)))))))⟩))) (.inr ⟨_, rfl⟩)⟩
      · exact ⟨.tup (s12 _ _ (s11 _ _ (s10 _ _ (s9 _ _ (s8 _ _ (h7)))))) (by show 2 ≤ 60; decide) (fun x hx => by
              simp only [List.mem_cons, List.not_mem_nil, or_false] at hx
              rcases hx with rfl | rfl <;> exact .inl rfl), .two (s12 _ _ (s11 _ _ (s10 _ _ (s9 _ _ (s8 _ _ (h7)))))) ⟨_, rfl⟩ (.inl rfl)⟩
      · exact ⟨.tup (s12 _ _ (s11 _ _ (s10 _ _ (s9 _ _ (h8))))) (by show 2 ≤ 60; decide) (fun x hx => by
              simp only [List.mem_cons, List.not_mem_nil, or_false] at hx
              rcases hx with rfl | rfl <;> exact .inl rfl), .one (s12 _ _ (s11 _ _ (s10 _ _ (s9 _ _ (h8))))) (.inr (.inr (.inl ⟨_, rfl⟩))) (.inr ⟨_, rfl⟩)⟩
      · exact ⟨.lst (s12 _ _ (s11 _ _ (h10))) (by show 1 ≠ 5; decide) (by show 1 ≤ 60; decide) (fun x hx => by
              simp only [List.mem_cons, List.not_mem_nil, or_false] at hx
              rcases hx with rfl
              · exact .inr ⟨_, _, rfl, s12 _ _ (s11 _ _ (s10 _ _ (h9))), (by show 2 ≤ 60; decide), fun y hy => by
                simp only [List.mem_cons, List.not_mem_nil, or_false] at hy
                rcases hy with rfl | rfl <;> rfl⟩), .lst (s12 _ _ (s11 _ _ (h10))) (by show 1 ≠ 5; decide)⟩
      · exact ⟨.st ((h11).same s12), .st ((h11).same s12)⟩
  rintro σ H2 ⟨m, ys, rfl, hm, nm, ylen, yod, sm2⟩
  have b2 := hb.same sm2
  have mB : m ≠ B := (hb.at nm).1
  refine ⟨_, rfl, _, rfl, B, p, m, ys, rfl, hm, mB, by omega, by omega, b2, fun H3 x b3 u3 hx => ?_⟩
  exact q H3 x b3 ((But.same sm2).trans u3) ((yod x hx).go b2 (Go.of u3))
end
end Kx
end
section
set_option maxHeartbeats 4000000
namespace Kx
open PySem PySem.Spec PyProof.Rows L2 RZ
/-! ### no order -/
def spNo (K : PySem.W.Frag) (S : Addr) : Sp := fun vs H Q _ => ∃ B p : Addr, vs = [.ref B] ∧ Bag H B p ∧ ∀ H' v, Bag H' B p → But B H H' → Vx K S H' v → (∀ i : Int, v = .int i → i < 2 ∨ 24 < i) → Q v H'
section
variable {P : Program} {w : World} {K : PySem.W.Frag} {mg : Str → Option Value} {base : Heap} {f C S CF CO : Addr} {fd : FuncData}
theorem scNo : FnScope ["_law_bag_here"] ["_law_bag_here"] (defScope L_not_order) := ⟨rfl, rfl, rfl, by decide +kernel, rfl, by decide +kernel, by decide +kernel⟩
theorem ok_no (F : Fun K "_law_not_order" "_law_not_order" L_not_order f fd) (UD : Use P w K mg base CX0 1 "_law_draw" ["_law_bag_here", "_law_limit"] spDraw []) (UO : Use P w K mg base CX0 2 "_law_of" ["_law_bag_here", "_law_things"] spOfL []) : FnOk P w K mg base CX0 3 f fd ["_law_bag_here"] (spNo K S) := by
  refine F.ok scNo (fun vs H Q E h => ?_) (fun cdv A outer s H vs Q E hr h => ?_)
  · obtain ⟨B, p, rfl, _⟩ := h
    rfl
  obtain ⟨B, p, rfl, hb, q⟩ := h
  have hr1 := hr.mono (show 1 ≤ 2 by decide)
  refine ⟨_, pss_one (ps_ret (pe_use UO hr rfl pass0 (pa_cons (pv 0) (pa_cons (pe_lst (pa_cons pe_int (pa_cons pe_int (pa_cons pe_int (pa_cons (pe_un un_neg pe_int) (pa_cons (pe_un un_neg pe_int) (pa_cons pe_int (pa_cons (pe_op op_pow pe_int pe_int) (pa_cons pe_non (pa_cons pe_bl (pa_cons pe_bl (pa_cons pe_str
    (pa_cons (pe_tup (pa_cons pe_int (pa_cons pe_int pa_nil))) (pa_cons (pe_lst (pa_cons pe_int pa_nil)) (pa_cons (pe_op op_add (pe_op op_mul pe_int (pe_use UD hr1 rfl pass0 (pa_cons (pv 0) (pa_cons pe_int pa_nil)))) pe_int) (pa_cons (pe_un un_neg (pe_use UD hr1 rfl pass0 (pa_cons (pv 0) (pa_cons pe_int pa_nil)))) pa_nil)))))))))))))))) pa_nil)))), ?_⟩
  refine ⟨_, rfl, _, rfl, _, rfl, 10, 30, rfl, rfl, ⟨by decide, by decide, by omega⟩, (by show 2 ≤ sizeLine; decide), fun t nt => ⟨(by show 1 ≤ sizeLine; decide), fun u nu => ?_⟩⟩
  have s1 := new_same nt (HO.tup [.int 4, .int 1])
  have h1 : (upd H t (HO.tup [.int 4, .int 1])) t = some (HO.tup [.int 4, .int 1]) := upd_same
  generalize upd H t (HO.tup [.int 4, .int 1]) = G1 at s1 h1 nu ⊢
  have s2 := new_same nu (HO.lst [.int 3])
  have h2 : (upd G1 u (HO.lst [.int 3])) u = some (HO.lst [.int 3]) := upd_same
  generalize upd G1 u (HO.lst [.int 3]) = G2 at s2 h2 ⊢
  have s12 := s1.trans s2
  have b2 := hb.same s12
  refine ⟨_, rfl, B, p, 50, rfl, by decide, by decide, b2, fun H1 k b3 u3 k0 k1 => ⟨2, k, rfl, rfl, .inl ⟨by decide, by decide⟩, 2 * k, 25, rfl, rfl, _, rfl, B, p, 50, rfl, by decide, by decide, b3, fun H2 m b4 u4 m0 m1 => ⟨m, rfl, (by show 15 ≤ sizeLine; decide), fun l nl => ?_⟩⟩⟩
  have u24 : But B G2 H2 := u3.trans u4
  have vt : Vx K S H2 (.ref t) := Vx.go (.tup (s2 _ _ h1) (by show 2 ≤ 60; decide) (fun x hx => by
    simp only [List.mem_cons, List.not_mem_nil, or_false] at hx
    rcases hx with rfl | rfl <;> exact .inl rfl)) b2 (Go.of u24)
  have vl : Vx K S H2 (.ref u) := Vx.go (.lst h2 (by show 1 ≠ 5; decide) (by show 1 ≤ 60; decide) (fun x hx => by
    simp only [List.mem_cons, List.not_mem_nil, or_false] at hx
    rcases hx with rfl
    exact .inl rfl)) b2 (Go.of u24)
  refine ⟨B, p, l, _, rfl, upd_same, (b4.at nl).1, (by show 0 < 15; decide), (by show 15 ≤ 1000; decide), b4.put nl, fun H3 x b5 u5 hx => ?_⟩
  have uu : But B H H3 := (But.same s12).trans (u24.trans ((But.new nl).trans u5))
  have fv : ∀ i : Int, (i < 2 ∨ 24 < i) → Q (.int i) H3 := fun i h => q H3 _ b5 uu (.flat rfl) fun j e => by rw [← V.int.inj e]; exact h
  have ff : ∀ v : V, flatV v = true → (∀ i, v ≠ .int i) → Q v H3 := fun v h n => q H3 _ b5 uu (.flat h) fun j e => absurd e (n j)
  simp only [List.mem_cons, List.not_mem_nil, or_false] at hx
  rcases hx with rfl | rfl | rfl | rfl | rfl | rfl | rfl | rfl | rfl | rfl | rfl | rfl | rfl | rfl | rfl
  · exact fv 0 (by omega)
  · exact fv 1 (by omega)
  · exact fv 25 (by omega)
  · exact fv (-2) (by omega)
  · exact fv (-1) (by omega)
  · exact fv 26 (by omega)
  · exact fv ((10 : Int) ^ (30 : Int).toNat) (.inr (by decide))
  · exact ff .non rfl (fun i e => by cases e)
  · exact ff (.bl true) rfl (fun i e => by cases e)
  · exact ff (.bl false) rfl (fun i e => by cases e)
  · exact ff (.str "4") rfl (fun i e => by cases e)
  · exact q H3 _ b5 uu ((vt.same (new_same nl _)).go (b4.put nl) (Go.of u5)) fun j e => by cases e
  · exact q H3 _ b5 uu ((vl.same (new_same nl _)).go (b4.put nl) (Go.of u5)) fun j e => by cases e
  · exact fv (2 * k + 25) (by omega)
  · exact fv (-m) (by omega)
end
/-! ### like -/
structure KT (K : PySem.W.Frag) (a : Addr) (xs : List V) : Prop where
  ex : ∃ (o : Obj) (its : Array Value) (n : Nat), K.lookup a = some o ∧ o.cls = .type "tuple" ∧ o.data = .seq its n ∧ its.size ≤ sizeLine ∧ Vals xs its.toList
def TupAt (K : PySem.W.Frag) (H : Hp) (a : Addr) (xs : List V) : Prop := H a = some (.tup xs) ∨ KT K a xs
theorem TupAt.t {K : PySem.W.Frag} {H : Hp} {a : Addr} {xs : List V} (h : TupAt K H a xs) : SqT K H a xs := h.elim SqT.of fun k => .inr k.ex
theorem TupAt.ty {K : PySem.W.Frag} {H : Hp} {a : Addr} {xs : List V} (h : TupAt K H a xs) : TyX K H (.ref a) (.type "tuple") := h.elim (fun h => .base (.tup h)) fun k => by
  obtain ⟨o, its, n, h1, h2, _⟩ := k.ex
  exact .kTuple h1 h2
theorem TupAt.same {K : PySem.W.Frag} {H H' : Hp} {a : Addr} {xs : List V} (h : TupAt K H a xs) (s : Same H H') : TupAt K H' a xs := h.imp (s _ _) id
def Lk (K : PySem.W.Frag) (S : Addr) : Nat → Hp → V → V → Prop
  | 0, H, v, u => u = v ∧ (flatV v = true ∨ ∃ qs, StAt K S H v qs)
  | n + 1, H, v, u => (u = v ∧ (flatV v = true ∨ ∃ qs, StAt K S H v qs)) ∨ ∃ (a b : Addr) (xs ys : List V), v = .ref a ∧ u = .ref b ∧ xs.length ≤ 60 ∧ Paired (Lk K S n H) xs ys ∧
      ((H a = some (.lst xs) ∧ H b = some (.lst ys)) ∨ (TupAt K H a xs ∧ TupAt K H b ys))
section
variable {K : PySem.W.Frag} {S : Addr} {H H' : Hp}
theorem Lk.same (s : Same H H') : ∀ {n : Nat} {v u : V}, Lk K S n H v u → Lk K S n H' v u
  | 0, _, _, h => ⟨h.1, h.2.imp id fun ⟨qs, z⟩ => ⟨qs, z.same s⟩⟩
  | n + 1, v, u, h => by
    rcases h with ⟨h1, h2⟩ | ⟨a, b, xs, ys, e1, e2, l, p, q⟩
    · exact .inl ⟨h1, h2.imp id fun ⟨qs, z⟩ => ⟨qs, z.same s⟩⟩
    · exact .inr ⟨a, b, xs, ys, e1, e2, l, L2.Paired.mapP p fun _ _ z => Lk.same s z, q.imp (fun q => ⟨s _ _ q.1, s _ _ q.2⟩) fun q => ⟨q.1.same s, q.2.same s⟩⟩
theorem Lk.flat {v : V} (h : flatV v = true) : ∀ {n : Nat}, Lk K S n H v v
  | 0 => ⟨rfl, .inl h⟩
  | _ + 1 => .inl ⟨rfl, .inl h⟩
theorem Lk.st {v : V} {qs : List Rat} (h : StAt K S H v qs) : ∀ {n : Nat}, Lk K S n H v v
  | 0 => ⟨rfl, .inr ⟨qs, h⟩⟩
  | _ + 1 => .inl ⟨rfl, .inr ⟨qs, h⟩⟩
theorem Lk.succ : ∀ {n : Nat} {v u : V}, Lk K S n H v u → Lk K S (n + 1) H v u
  | 0, _, _, h => .inl h
  | n + 1, _, _, h => by
    rcases h with h | ⟨a, b, xs, ys, e1, e2, l, p, q⟩
    · exact .inl h
    · exact .inr ⟨a, b, xs, ys, e1, e2, l, L2.Paired.mapP p fun _ _ z => Lk.succ z, q⟩
theorem Lk.lst {n : Nat} {a b : Addr} {xs ys : List V} (h1 : H a = some (.lst xs)) (h2 : H b = some (.lst ys)) (l : xs.length ≤ 60) (p : Paired (Lk K S n H) xs ys) : Lk K S (n + 1) H (.ref a) (.ref b) := .inr ⟨a, b, xs, ys, rfl, rfl, l, p, .inl ⟨h1, h2⟩⟩
theorem paired_flat {n : Nat} : ∀ {xs : List V}, (∀ x ∈ xs, flatV x = true) → Paired (Lk K S n H) xs xs
  | [], _ => .nil
  | x :: xs, h => .cons (Lk.flat (h x List.mem_cons_self)) (paired_flat fun y hy => h y (List.mem_cons_of_mem _ hy))
theorem V2.lk {n : Nat} {x : V} (h : V2 H x) : Lk K S (n + 1) H x x := by
  rcases h with h | ⟨a, ys, rfl, h1, l, fl⟩
  · exact Lk.flat h
  · exact .inr ⟨a, a, ys, ys, rfl, rfl, l, paired_flat fl, .inr ⟨.inl h1, .inl h1⟩⟩
theorem paired_v2 {n : Nat} : ∀ {xs : List V}, (∀ x ∈ xs, V2 H x) → Paired (Lk K S (n + 1) H) xs xs
  | [], _ => .nil
  | x :: xs, h => .cons (h x List.mem_cons_self).lk (paired_v2 fun y hy => h y (List.mem_cons_of_mem _ hy))
theorem Vx.lk {n : Nat} {v : V} (h : Vx K S H v) : Lk K S (n + 2) H v v := by
  cases h with
  | flat h => exact Lk.flat h
  | lst h _ l i => exact .inr ⟨_, _, _, _, rfl, rfl, l, paired_v2 i, .inl ⟨h, h⟩⟩
  | tup h l i => exact .inr ⟨_, _, _, _, rfl, rfl, l, paired_v2 i, .inr ⟨.inl h, .inl h⟩⟩
  | st h => exact Lk.st h
theorem Nq.tup {v : V} {q : Rat} (h : Nq K H v q) : ∃ a, v = .ref a ∧ TupAt K H a [.int q.num, .int (q.den : Nat)] := by
  obtain ⟨a, e, h⟩ := h
  exact ⟨a, e, h.imp id fun k => ⟨k.ex⟩⟩
theorem Nq.lk {n : Nat} {v u : V} {q : Rat} (h : Nq K H v q) (h' : Nq K H u q) : Lk K S (n + 1) H v u := by
  obtain ⟨a, rfl, h1⟩ := h.tup
  obtain ⟨b, rfl, h2⟩ := h'.tup
  exact .inr ⟨a, b, _, _, rfl, rfl, (by show 2 ≤ 60; decide), .cons (Lk.flat rfl) (.cons (Lk.flat rfl) .nil), .inr ⟨h1, h2⟩⟩
theorem Nl.pair {n : Nat} : ∀ {xs ys : List V} {qs : List Rat}, Nl K H xs qs → Nl K H ys qs → Paired (Lk K S (n + 1) H) xs ys
  | [], [], [], _, _ => .nil
  | x :: xs, y :: ys, q :: qs, h, h' => .cons ((h.2 0 x q rfl rfl).lk (h'.2 0 y q rfl rfl)) (Nl.pair h.tail h'.tail)
  | [], _ :: _, [], _, h' => by cases h'.1
  | _ :: _, [], _, h, h' => by have e := h.1.trans h'.1.symm; cases e
  | [], _, _ :: _, h, _ => by cases h.1
  | _ :: _, _, [], h, _ => by cases h.1
theorem Ls.lk {n : Nat} {v u : V} {qs : List Rat} (h : Ls K H v qs) (h' : Ls K H u qs) (l : qs.length ≤ 60) : Lk K S (n + 2) H v u := by
  obtain ⟨a, xs, rfl, h1, n1⟩ := h
  obtain ⟨b, ys, rfl, h2, n2⟩ := h'
  exact Lk.lst h1 h2 (by rw [n1.1]; exact l) (n1.pair n2)
end
theorem Pr_get {α β : Type} {F : α → β → Prop} : ∀ {l1 : List α} {l2 : List β} {i : Nat} {x : α}, Paired F l1 l2 → l1[i]? = some x → ∃ y, l2[i]? = some y ∧ F x y
  | _, _, _, _, .nil, h => by simp at h
  | _, _, 0, x, .cons (b := b) r _, h => ⟨b, rfl, by
    have e := Option.some.inj (show some _ = some x from by simpa using h)
    rw [← e]
    exact r⟩
  | _, _, i + 1, x, .cons _ t, h => by
    obtain ⟨y, h1, h2⟩ := Pr_get (i := i) (x := x) t (by simpa using h)
    exact ⟨y, by simpa using h1, h2⟩
theorem walk_zipT {K : PySem.W.Frag} {a b : Addr} {xs ys : List V} {n : Nat} (hn : n = min xs.length ys.length) : Walk (ItzT K a b) n (fun H => SqT K H a xs ∧ SqT K H b ys) (YPair (fun i => xs[i]?) (fun i => ys[i]?)) := by
  subst hn
  refine ⟨fun i H hi q => ⟨xs, ys, xs[i]'(by omega), ys[i]'(by omega), q.1, q.2, by simp [show i < xs.length by omega], by simp [show i < ys.length by omega]⟩, fun H q => ⟨xs, ys, q.1, q.2, by omega⟩, fun i H v H' hi q y => ?_⟩
  obtain ⟨T, x, z, h1, h2, h3, h4, h5⟩ := y
  exact ⟨T, x, z, h1, h2, h3, h4 xs q.1, h5 ys q.2⟩
def tyS : V → String
  | .non => "NoneType"
  | .bl _ => "bool"
  | .int _ => "int"
  | _ => "str"
theorem ty_flat {K : PySem.W.Frag} {H : Hp} {v : V} (h : flatV v = true) : TyX K H v (.type (tyS v)) := by
  cases v with
  | non => exact .base .non
  | bl b => exact .base (.bl b)
  | int i => exact .base (.int i)
  | str x => exact .base (.str x)
  | _ => cases h
theorem tyS_in : ∀ {v : V}, flatV v = true → tyS v ∈ ["NoneType", "bool", "int", "str"]
  | .non, _ => by simp [tyS]
  | .bl _, _ => by simp [tyS]
  | .int _, _ => by simp [tyS]
  | .str _, _ => by simp [tyS]
  | .byt _, h => by cases h
  | .flt _, h => by cases h
  | .ref _, h => by cases h
  | .ty _, h => by cases h
theorem kb_seq : ∀ s ∈ ["NoneType", "bool", "int", "str"], kitB s "list" = some false ∧ kitB s "tuple" = some false := by decide +kernel
theorem kb_flat : ∀ s ∈ ["NoneType", "bool", "int", "str"], (kitB s "bool").isSome ∧ (kitB s "str").isSome ∧ (kitB s "int").isSome := by decide +kernel
def spLike (K : PySem.W.Frag) (S : Addr) (n : Nat) : Sp := fun vs H Q _ => ∃ (v u : V), vs = [v, u] ∧ Lk K S n H v u ∧ ∀ H', Same H H' → Q (.bl true) H'
/-- the == of the steps: a step and itself -/
def spEqS (K : PySem.W.Frag) (S : Addr) : Sp := fun vs H Q _ => ∃ (x y : V) (qs : List Rat), vs = [x, y] ∧ StAt K S H x qs ∧ ((y = x ∧ Q (.bl true) H) ∨ (∃ T, TyX K H y T ∧ PySem.W.kitOne K T (.ref S) = some false ∧ Q (.bl false) H))
abbrev nLike : List Str := ["_law_told", "_law_due", "_law_a", "_law_b"]
section
variable {P : Program} {w : World} {K : PySem.W.Frag} {mg : Str → Option Value} {base : Heap} {f C S CF CO : Addr} {fd : FuncData}
theorem scSE : FnScope ["self", "other"] ["self", "other"] (defScope C_Step_eq) := ⟨rfl, rfl, rfl, by decide +kernel, rfl, by decide +kernel, by decide +kernel⟩
theorem ok_seq (G : Fun K "__eq__" "Step.__eq__" C_Step_eq f fd) (k : StepK P w K mg base C S CF CO) (mI : mg "isinstance" = none) : FnOk P w K mg base CX0 1 f fd ["self", "other"] (spEqS K S) := by
  refine G.ok scSE (fun vs H Q E h => ?_) (fun cdv A outer s H vs Q E hr h => ?_)
  · obtain ⟨x, y, qs, rfl, _⟩ := h
    rfl
  obtain ⟨v, u, qs, rfl, hS, hh⟩ := h
  obtain ⟨x, dx, b, xs, x0, fv, sv, rfl, hx, hb, nx, _⟩ := hS
  refine ⟨_, pss_one (ps_ret (pe_and (pe_callB call_isi rfl mI (by decide +kernel) (pa_cons (pv 1) (pa_cons (C8.pe_gc (v := .ref S) rfl ⟨_, k.m, rfl⟩) pa_nil))) (pe_one (pe_cmpR (op_eqD hr.units) (pe_fld (pv 0) rfl) (pe_fld (pv 1) rfl) (nomark _))))), ?_⟩
  rcases hh with ⟨rfl, q⟩ | ⟨T, ty, kt, q⟩
  · refine ⟨_, rfl, .ref x, .ref S, .ref S, .ref S, true, rfl, .own S, k.ty _ _ _ _ hx, k.kit, _, rfl, iteT ?_⟩
    refine ⟨_, rfl, x, S, dx, _, _, rfl, hx, k.c, k.nA _ (by simp [stN]), rfl, _, rfl, x, S, dx, _, _, rfl, hx, k.c, k.nA _ (by simp [stN]), rfl, datL qs, datL qs, nx.dp hb, nx.dp hb, shaped_list _, shaped_list _, ?_⟩
    rw [eqv_list, decide_eq_true rfl]
    exact q
  · exact ⟨_, rfl, u, .ref S, T, .ref S, false, rfl, .own S, ty, kt, _, rfl, iteF q⟩
theorem scLike : FnScope nLike ["_law_told", "_law_due"] (defScope L_like) := ⟨rfl, rfl, rfl, by decide +kernel, rfl, by decide +kernel, by decide +kernel⟩
theorem ok_like {n : Nat} (F : Fun K "_law_like" "_law_like" L_like f fd) (k : StepK P w K mg base C S CF CO) (OE : OpM P w K mg base CX0 1 S "__eq__" (spEqS K S)) (bL : Binds K fd ["_law_told", "_law_due"] []) (mL : mg "_law_like" = some (.ref f)) (G : ∀ n', n = n' + 1 → FnOk P w K mg base CX0 (n + 1) f fd ["_law_told", "_law_due"] (spLike K S n'))
    (mI : mg "isinstance" = none) (ml : mg "list" = none) (mt : mg "tuple" = none) (mb : mg "bool" = none) (ms : mg "str" = none) (mi : mg "int" = none) (mn : mg "len" = none) (mz : mg "zip" = none) (ma : mg "all" = none) :
    FnOk P w K mg base CX0 (n + 2) f fd ["_law_told", "_law_due"] (spLike K S n) := by
  refine F.ok scLike (fun vs H Q E h => ?_) (fun cdv A outer s H vs Q E hr h => ?_)
  · obtain ⟨v, u, rfl, _⟩ := h
    rfl
  obtain ⟨v, u, rfl, tv, q⟩ := h
  have flat : flatV v = true → u = v → ∃ t, PSs (cxOf CX0 P w K mg base nLike "_law_like" (defScope L_like) f cdv A outer s H E).nox (defBody L_like) t ∧ t { nx := fun _ H' => Q .non H', rt := Q } (L2.start nLike [v, u]) H := fun hv hu => by
    subst hu
    obtain ⟨k1, k2⟩ := kb_seq _ (tyS_in hv)
    obtain ⟨k3, k4, k5⟩ := kb_flat _ (tyS_in hv)
    obtain ⟨x3, k3⟩ := Option.isSome_iff_exists.mp k3
    obtain ⟨x4, k4⟩ := Option.isSome_iff_exists.mp k4
    obtain ⟨x5, k5⟩ := Option.isSome_iff_exists.mp k5
    refine ⟨_, pss_cons (ps_if (pt_val (pe_callB call_isiT rfl mI (by decide +kernel) (pa_cons (pv 1) (pa_cons (pe_tup (pa_cons (pe_bltn rfl ml boot_list (rel_ty _)) (pa_cons (pe_bltn rfl mt boot_tuple (rel_ty _)) pa_nil))) pa_nil)))) (pss_cons ps_never (pss_one ps_never)) pss_nil)
      (pss_cons (ps_if (PW.pt (pw_or (pt_cmpR op_isN (pv 1) pe_non (nomark _)) (pw_or1 (pt_cmpR op_isN (pv 0) pe_non (nomark _))))) (pss_one (ps_ret (pe_and (pe_cmpR op_isN (pv 1) pe_non (nomark _)) (pe_one (pe_cmpR op_isN (pv 0) pe_non (nomark _)))))) pss_nil)
      (pss_cons (ps_if (PW.pt (pw_or (pt_val (pe_callB call_isiT rfl mI (by decide +kernel) (pa_cons (pv 0) (pa_cons (pe_tup (pa_cons (pe_bltn rfl ml boot_list (rel_ty _)) (pa_cons (pe_bltn rfl mt boot_tuple (rel_ty _)) pa_nil))) pa_nil)))) (pw_or1 (pt_cmpR op_ne (pe_callB call_isi rfl mI (by decide +kernel) (pa_cons (pv 0) (pa_cons (pe_bltn rfl mb boot_bool (rel_ty _)) pa_nil))) (pe_callB call_isi rfl mI (by decide +kernel) (pa_cons (pv 1) (pa_cons (pe_bltn rfl mb boot_bool (rel_ty _)) pa_nil))) (nomark _))))) (pss_one ps_never) pss_nil)
      (pss_cons (ps_if (PW.pt (pw_or (pt_cmpR op_ne (pe_callB call_isi rfl mI (by decide +kernel) (pa_cons (pv 0) (pa_cons (pe_bltn rfl ms boot_str (rel_ty _)) pa_nil))) (pe_callB call_isi rfl mI (by decide +kernel) (pa_cons (pv 1) (pa_cons (pe_bltn rfl ms boot_str (rel_ty _)) pa_nil))) (nomark _)) (pw_or1 (pt_cmpR op_ne (pe_callB call_isi rfl mI (by decide +kernel) (pa_cons (pv 0) (pa_cons (pe_bltn rfl mi boot_int (rel_ty _)) pa_nil))) (pe_callB call_isi rfl mI (by decide +kernel) (pa_cons (pv 1) (pa_cons (pe_bltn rfl mi boot_int (rel_ty _)) pa_nil))) (nomark _))))) (pss_one ps_never) pss_nil)
      (pss_one (ps_ret (pe_cmpR op_eq (pv 0) (pv 1) (nomark _))))))), ?_⟩
    refine ⟨_, rfl, (by show 2 ≤ sizeLine; decide), fun p np => ?_⟩
    have g1 := new_same np (.tup [.ty "list", .ty "tuple"])
    refine ⟨u, p, _, .type (tyS u), _, false, rfl, upd_same, .cons (.ty _) (.cons (.ty _) .nil), ty_flat hv, kit2 k1 k2 rfl, _, rfl, iteF ?_⟩
    generalize upd H p (.tup [.ty "list", .ty "tuple"]) = H1 at g1
    by_cases e : u = .non
    · subst e
      refine ⟨_, rfl, rfl, _, rfl, iteT ?_⟩
      refine iteT ⟨_, rfl, rfl, _, rfl, iteT ⟨_, rfl, rfl, q H1 g1⟩⟩
    · refine ⟨_, rfl, rfl, _, rfl, ?_⟩
      rw [decide_eq_false e]
      refine iteF ⟨_, rfl, rfl, _, rfl, ?_⟩
      rw [decide_eq_false e]
      refine iteF ?_
      refine ⟨_, rfl, (by show 2 ≤ sizeLine; decide), fun p2 np2 => ?_⟩
      have g2 := g1.trans (new_same np2 (.tup [.ty "list", .ty "tuple"]))
      refine ⟨u, p2, _, .type (tyS u), _, false, rfl, upd_same, .cons (.ty _) (.cons (.ty _) .nil), ty_flat hv, kit2 k1 k2 rfl, _, rfl, iteF ?_⟩
      generalize upd H1 p2 (.tup [.ty "list", .ty "tuple"]) = H2 at g2
      refine ⟨_, rfl, u, _, _, _, x3, rfl, .ty _, ty_flat hv, kit_ty k3, _, rfl, u, _, _, _, x3, rfl, .ty _, ty_flat hv, kit_ty k3, rfl, _, rfl, ?_⟩
      refine iteNS rfl ?_
      refine ⟨_, rfl, u, _, _, _, x4, rfl, .ty _, ty_flat hv, kit_ty k4, _, rfl, u, _, _, _, x4, rfl, .ty _, ty_flat hv, kit_ty k4, rfl, _, rfl, ?_⟩
      refine iteNS rfl ?_
      refine ⟨_, rfl, u, _, _, _, x5, rfl, .ty _, ty_flat hv, kit_ty k5, _, rfl, u, _, _, _, x5, rfl, .ty _, ty_flat hv, kit_ty k5, rfl, _, rfl, ?_⟩
      refine iteNS rfl ?_
      have hs : scal u u = true := by
        cases u <;> first | rfl | cases hv
      refine ⟨_, rfl, _, rfl, hs, ?_⟩
      rw [decide_eq_true rfl]
      exact q H2 g2
  have step : (∃ qs, StAt K S H v qs) → u = v → ∃ t, PSs (cxOf CX0 P w K mg base nLike "_law_like" (defScope L_like) f cdv A outer s H E).nox (defBody L_like) t ∧ t { nx := fun _ H' => Q .non H', rt := Q } (L2.start nLike [v, u]) H := fun hv hu => by
    subst hu
    obtain ⟨qs, hv⟩ := hv
    obtain ⟨a, ea⟩ : ∃ a, u = .ref a := by
      obtain ⟨x, dx, b, xs, x0, fv, sv, e, _⟩ := hv
      exact ⟨x, e⟩
    have nn : u ≠ .non := by rw [ea]; intro z; cases z
    have kA : PySem.W.kitAny K (.ref S) [.type "list", .type "tuple"] = some false := kitAny_cons (k.kB "list" (by simp)) (fun _ => kitAny_cons (k.kB "tuple" (by simp)) (fun _ => kitAny_nil) (fun z => Bool.noConfusion z)) (fun z => Bool.noConfusion z)
    refine ⟨_, pss_cons (ps_if (pt_val (pe_callB call_isiT rfl mI (by decide +kernel) (pa_cons (pv 1) (pa_cons (pe_tup (pa_cons (pe_bltn rfl ml boot_list (rel_ty _)) (pa_cons (pe_bltn rfl mt boot_tuple (rel_ty _)) pa_nil))) pa_nil)))) (pss_cons ps_never (pss_one ps_never)) pss_nil)
      (pss_cons (ps_if (PW.pt (pw_or (pt_cmpR op_isN (pv 1) pe_non (nomark _)) (pw_or1 (pt_cmpR op_isN (pv 0) pe_non (nomark _))))) (pss_one (ps_ret (pe_and (pe_cmpR op_isN (pv 1) pe_non (nomark _)) (pe_one (pe_cmpR op_isN (pv 0) pe_non (nomark _)))))) pss_nil)
      (pss_cons (ps_if (PW.pt (pw_or (pt_val (pe_callB call_isiT rfl mI (by decide +kernel) (pa_cons (pv 0) (pa_cons (pe_tup (pa_cons (pe_bltn rfl ml boot_list (rel_ty _)) (pa_cons (pe_bltn rfl mt boot_tuple (rel_ty _)) pa_nil))) pa_nil)))) (pw_or1 (pt_cmpR op_ne (pe_callB call_isi rfl mI (by decide +kernel) (pa_cons (pv 0) (pa_cons (pe_bltn rfl mb boot_bool (rel_ty _)) pa_nil))) (pe_callB call_isi rfl mI (by decide +kernel) (pa_cons (pv 1) (pa_cons (pe_bltn rfl mb boot_bool (rel_ty _)) pa_nil))) (nomark _))))) (pss_one ps_never) pss_nil)
      (pss_cons (ps_if (PW.pt (pw_or (pt_cmpR op_ne (pe_callB call_isi rfl mI (by decide +kernel) (pa_cons (pv 0) (pa_cons (pe_bltn rfl ms boot_str (rel_ty _)) pa_nil))) (pe_callB call_isi rfl mI (by decide +kernel) (pa_cons (pv 1) (pa_cons (pe_bltn rfl ms boot_str (rel_ty _)) pa_nil))) (nomark _)) (pw_or1 (pt_cmpR op_ne (pe_callB call_isi rfl mI (by decide +kernel) (pa_cons (pv 0) (pa_cons (pe_bltn rfl mi boot_int (rel_ty _)) pa_nil))) (pe_callB call_isi rfl mI (by decide +kernel) (pa_cons (pv 1) (pa_cons (pe_bltn rfl mi boot_int (rel_ty _)) pa_nil))) (nomark _))))) (pss_one ps_never) pss_nil)
      (pss_one (ps_ret (pe_cmpR (op_eqO OE (hr.mono (by omega)) pass0) (pv 0) (pv 1) (nomark _))))))), ?_⟩
    refine ⟨_, rfl, (by show 2 ≤ sizeLine; decide), fun p np => ?_⟩
    have g1 := new_same np (.tup [.ty "list", .ty "tuple"])
    have st1 := hv.same g1
    refine ⟨u, p, _, .ref S, _, false, rfl, upd_same, .cons (.ty _) (.cons (.ty _) .nil), st1.ty k, kA, _, rfl, iteF ?_⟩
    generalize upd H p (.tup [.ty "list", .ty "tuple"]) = H1 at g1 st1
    refine ⟨_, rfl, rfl, _, rfl, ?_⟩
    rw [decide_eq_false nn]
    refine iteF ⟨_, rfl, rfl, _, rfl, ?_⟩
    rw [decide_eq_false nn]
    refine iteF ?_
    refine ⟨_, rfl, (by show 2 ≤ sizeLine; decide), fun p2 np2 => ?_⟩
    have g2' := new_same np2 (.tup [.ty "list", .ty "tuple"])
    have g2 := g1.trans g2'
    have st2 := st1.same g2'
    refine ⟨u, p2, _, .ref S, _, false, rfl, upd_same, .cons (.ty _) (.cons (.ty _) .nil), st2.ty k, kA, _, rfl, iteF ?_⟩
    generalize upd H1 p2 (.tup [.ty "list", .ty "tuple"]) = H2 at g2 st2
    have ty := st2.ty k
    refine ⟨_, rfl, u, _, _, _, false, rfl, .ty _, ty, k.kB "bool" (by simp), _, rfl, u, _, _, _, false, rfl, .ty _, ty, k.kB "bool" (by simp), rfl, _, rfl, ?_⟩
    refine iteNS rfl ?_
    refine ⟨_, rfl, u, _, _, _, false, rfl, .ty _, ty, k.kB "str" (by simp), _, rfl, u, _, _, _, false, rfl, .ty _, ty, k.kB "str" (by simp), rfl, _, rfl, ?_⟩
    refine iteNS rfl ?_
    refine ⟨_, rfl, u, _, _, _, false, rfl, .ty _, ty, k.kB "int" (by simp), _, rfl, u, _, _, _, false, rfl, .ty _, ty, k.kB "int" (by simp), rfl, _, rfl, ?_⟩
    refine iteNS rfl ?_
    have st3 := st2
    obtain ⟨x, dx, b, xs, x0, fv, sv, rfl, hx, _⟩ := st2
    have nf : PySem.W.notFirst K S (.ref S) = true := by
      unfold PySem.W.notFirst
      rw [beq_self_eq_true]
      rfl
    exact ⟨_, rfl, _, rfl, x, dx, _, .ref S, rfl, hx, ty, nf, _, _, qs, rfl, st3, .inl ⟨rfl, q H2 g2⟩⟩
  have base0 : (u = v ∧ (flatV v = true ∨ ∃ qs, StAt K S H v qs)) → ∃ t, PSs (cxOf CX0 P w K mg base nLike "_law_like" (defScope L_like) f cdv A outer s H E).nox (defBody L_like) t ∧ t { nx := fun _ H' => Q .non H', rt := Q } (L2.start nLike [v, u]) H := fun h => h.2.elim (fun z => flat z h.1) fun z => step z h.1
  cases n with
  | zero => exact base0 tv
  | succ n =>
    rcases tv with h0 | ⟨a, b, xs, ys, rfl, rfl, l, pr, hh⟩
    · exact base0 h0
    have GL := G n rfl
    have le : xs.length = ys.length := pr.length
    have el : ∀ (i : Nat) (y z : V), xs[i]? = some y → ys[i]? = some z → ∀ H', Same H H' → Lk K S n H' y z := fun i y z hy hz H' g => by
      obtain ⟨z', h1, h2⟩ := Pr_get pr hy
      rw [hz] at h1
      rw [← Option.some.inj h1] at h2
      exact Lk.same g h2
    rcases hh with ⟨h1, h2⟩ | ⟨h1, h2⟩
    · refine ⟨_, pss_cons (ps_if (pt_val (pe_callB call_isiT rfl mI (by decide +kernel) (pa_cons (pv 1) (pa_cons (pe_tup (pa_cons (pe_bltn rfl ml boot_list (rel_ty _)) (pa_cons (pe_bltn rfl mt boot_tuple (rel_ty _)) pa_nil))) pa_nil))))
          (pss_cons (ps_if (PW.pt (pw_or (pt_cmpR op_ne (pe_callB call_isi rfl mI (by decide +kernel) (pa_cons (pv 0) (pa_cons (pe_bltn rfl ml boot_list (rel_ty _)) pa_nil))) (pe_callB call_isi rfl mI (by decide +kernel) (pa_cons (pv 1) (pa_cons (pe_bltn rfl ml boot_list (rel_ty _)) pa_nil))) (nomark _)) (pw_or1 (pt_cmpR op_ne (pe_callB call_isi rfl mI (by decide +kernel) (pa_cons (pv 0) (pa_cons (pe_bltn rfl mt boot_tuple (rel_ty _)) pa_nil))) (pe_callB call_isi rfl mI (by decide +kernel) (pa_cons (pv 1) (pa_cons (pe_bltn rfl mt boot_tuple (rel_ty _)) pa_nil))) (nomark _))))) (pss_one ps_never) pss_nil)
          (pss_one (ps_ret (pe_and (pe_cmpR op_eq (pe_callB call_len_seq rfl mn PySem.boot_len (pa_cons (pv 0) pa_nil)) (pe_callB call_len_seq rfl mn PySem.boot_len (pa_cons (pv 1) pa_nil)) (nomark _))
            (pe_one (pe_callB (cr_all rfl) rfl ma (by decide +kernel) (pa_cons (pe_lc (own := [("_law_a", 2), ("_law_b", 3)]) (g := gTup K 2 (gCons (gName 2) (gCons (gName 3) gNil))) (tt := tYes) rfl scLike.nd (pi_zipA rfl mz (pa_cons (pv 0) (pa_cons (pv 1) pa_nil))) (blkOk_by (N := nLike) (sc := defScope L_like) (by decide +kernel))
              (fun _ _ _ _ _ => pg_tup rfl (pgs_cons (pg_name (i := 2) scLike.nd rfl (Or.inl rfl)) (pgs_cons (pg_name (i := 3) scLike.nd rfl (Or.inl rfl)) pgs_nil))) (fun _ _ _ _ _ => pts_nil) (fun _ _ _ _ _ => pe_call GL hr rfl mL F.kp bL .nil pass0 (pa_cons (pv 2) (pa_cons (pv 3) pa_nil)))) pa_nil))))))) pss_nil)
        (pss_cons ps_never (pss_cons ps_never (pss_cons ps_never (pss_one ps_never)))), ?_⟩
      refine ⟨_, rfl, (by show 2 ≤ sizeLine; decide), fun p np => ?_⟩
      have g1 := new_same np (.tup [.ty "list", .ty "tuple"])
      refine ⟨.ref b, p, _, .type "list", _, true, rfl, upd_same, .cons (.ty _) (.cons (.ty _) .nil), .base (.lst (g1 _ _ h2)), kit2 kb_l.1 kb_l.2.1 rfl, _, rfl, ?_⟩
      refine iteT ?_
      generalize upd H p (.tup [.ty "list", .ty "tuple"]) = H1 at g1
      have ta : TyX K H1 (.ref a) (.type "list") := .base (.lst (g1 _ _ h1))
      have tb : TyX K H1 (.ref b) (.type "list") := .base (.lst (g1 _ _ h2))
      refine ⟨_, rfl, .ref a, _, _, _, _, rfl, .ty _, ta, kit_ty kb_l.1, _, rfl, .ref b, _, _, _, _, rfl, .ty _, tb, kit_ty kb_l.1, rfl, _, rfl, iteNS rfl ?_⟩
      refine ⟨_, rfl, .ref a, _, _, _, _, rfl, .ty _, ta, kit_ty kb_l.2.1, _, rfl, .ref b, _, _, _, _, rfl, .ty _, tb, kit_ty kb_l.2.1, rfl, _, rfl, iteNS rfl ?_⟩
      refine ⟨_, rfl, a, xs, rfl, .inl (SqL.of (g1 _ _ h1)), _, rfl, b, ys, rfl, .inl (SqL.of (g1 _ _ h2)), rfl, _, rfl, ?_⟩
      rw [decide_eq_true (show V.int (xs.length : Nat) = V.int (ys.length : Nat) by rw [le])]
      refine iteT ⟨_, rfl, _, rfl, a, b, xs, ys, rfl, .inl ⟨SqL.of (g1 _ _ h1), SqL.of (g1 _ _ h2), fun D nD => ?_⟩⟩
      refine lc_it (walk_zip (K := K) (a := a) (b := b) (xs := xs) (ys := ys) (n := xs.length) (by omega)) (fun i H' => Same H1 H' ∧ H' D = some (.lst ((List.replicate i true).map V.bl))) ⟨new_same nD _, upd_same⟩ (fun i H' _ h => ⟨SqL.of (h.1 _ _ (g1 _ _ h1)), SqL.of (h.1 _ _ (g1 _ _ h2))⟩) ?_ ?_
      · rintro i x H' H5 hi ⟨g, hD⟩ ⟨T, y, z, rfl, hT, rfl, hy, hz⟩
        refine ⟨T, [y, z], rfl, SqT.of upd_same, rfl, y, [z], rfl, z, [], rfl, rfl, ?_⟩
        refine ⟨rfl, ?_⟩
        refine yesT ?_
        have g5 : Same H1 (upd H' T (.tup [y, z])) := g.trans (new_same hT _)
        have tyz := el i y z hy hz _ (g1.trans g5)
        refine ⟨_, rfl, _, rfl, y, z, rfl, tyz, fun H6 g6 => ⟨(List.replicate i true).map V.bl, ?_, ?_, ?_, ?_⟩⟩
        · refine g6 _ _ ?_
          rw [upd_ne (ne_of_none hD hT)]
          exact hD
        · rw [List.length_map, List.length_replicate]
          exact small1000 (by omega)
        · exact fun c o h => by rw [upd_ne (ne_of_none h nD)]; exact g6 _ _ (g5 _ _ h)
        · rw [upd_same, List.replicate_succ', List.map_append]
          rfl
      · rintro H' ⟨g, hD⟩
        refine ⟨D, List.replicate xs.length true, rfl, SqL.of hD, ?_⟩
        have e : (List.replicate xs.length true).all id = true := by simp
        rw [e]
        exact q H' (g1.trans g)
    · refine ⟨_, pss_cons (ps_if (pt_val (pe_callB call_isiT rfl mI (by decide +kernel) (pa_cons (pv 1) (pa_cons (pe_tup (pa_cons (pe_bltn rfl ml boot_list (rel_ty _)) (pa_cons (pe_bltn rfl mt boot_tuple (rel_ty _)) pa_nil))) pa_nil))))
          (pss_cons (ps_if (PW.pt (pw_or (pt_cmpR op_ne (pe_callB call_isi rfl mI (by decide +kernel) (pa_cons (pv 0) (pa_cons (pe_bltn rfl ml boot_list (rel_ty _)) pa_nil))) (pe_callB call_isi rfl mI (by decide +kernel) (pa_cons (pv 1) (pa_cons (pe_bltn rfl ml boot_list (rel_ty _)) pa_nil))) (nomark _)) (pw_or1 (pt_cmpR op_ne (pe_callB call_isi rfl mI (by decide +kernel) (pa_cons (pv 0) (pa_cons (pe_bltn rfl mt boot_tuple (rel_ty _)) pa_nil))) (pe_callB call_isi rfl mI (by decide +kernel) (pa_cons (pv 1) (pa_cons (pe_bltn rfl mt boot_tuple (rel_ty _)) pa_nil))) (nomark _))))) (pss_one ps_never) pss_nil)
          (pss_one (ps_ret (pe_and (pe_cmpR op_eq (pe_callB call_len_seq rfl mn PySem.boot_len (pa_cons (pv 0) pa_nil)) (pe_callB call_len_seq rfl mn PySem.boot_len (pa_cons (pv 1) pa_nil)) (nomark _))
            (pe_one (pe_callB (cr_all rfl) rfl ma (by decide +kernel) (pa_cons (pe_lc (own := [("_law_a", 2), ("_law_b", 3)]) (g := gTup K 2 (gCons (gName 2) (gCons (gName 3) gNil))) (tt := tYes) rfl scLike.nd (pi_zipA rfl mz (pa_cons (pv 0) (pa_cons (pv 1) pa_nil))) (blkOk_by (N := nLike) (sc := defScope L_like) (by decide +kernel))
              (fun _ _ _ _ _ => pg_tup rfl (pgs_cons (pg_name (i := 2) scLike.nd rfl (Or.inl rfl)) (pgs_cons (pg_name (i := 3) scLike.nd rfl (Or.inl rfl)) pgs_nil))) (fun _ _ _ _ _ => pts_nil) (fun _ _ _ _ _ => pe_call GL hr rfl mL F.kp bL .nil pass0 (pa_cons (pv 2) (pa_cons (pv 3) pa_nil)))) pa_nil))))))) pss_nil)
        (pss_cons ps_never (pss_cons ps_never (pss_cons ps_never (pss_one ps_never)))), ?_⟩
      refine ⟨_, rfl, (by show 2 ≤ sizeLine; decide), fun p np => ?_⟩
      have g1 := new_same np (.tup [.ty "list", .ty "tuple"])
      refine ⟨.ref b, p, _, .type "tuple", _, true, rfl, upd_same, .cons (.ty _) (.cons (.ty _) .nil), (h2.same g1).ty, kit2 kb_l.2.2.1 kb_l.2.2.2 rfl, _, rfl, ?_⟩
      refine iteT ?_
      generalize upd H p (.tup [.ty "list", .ty "tuple"]) = H1 at g1
      have ta : TyX K H1 (.ref a) (.type "tuple") := (h1.same g1).ty
      have tb : TyX K H1 (.ref b) (.type "tuple") := (h2.same g1).ty
      refine ⟨_, rfl, .ref a, _, _, _, _, rfl, .ty _, ta, kit_ty kb_l.2.2.1, _, rfl, .ref b, _, _, _, _, rfl, .ty _, tb, kit_ty kb_l.2.2.1, rfl, _, rfl, iteNS rfl ?_⟩
      refine ⟨_, rfl, .ref a, _, _, _, _, rfl, .ty _, ta, kit_ty kb_l.2.2.2, _, rfl, .ref b, _, _, _, _, rfl, .ty _, tb, kit_ty kb_l.2.2.2, rfl, _, rfl, iteNS rfl ?_⟩
      refine ⟨_, rfl, a, xs, rfl, .inr ((h1.same g1).t), _, rfl, b, ys, rfl, .inr ((h2.same g1).t), rfl, _, rfl, ?_⟩
      rw [decide_eq_true (show V.int (xs.length : Nat) = V.int (ys.length : Nat) by rw [le])]
      refine iteT ⟨_, rfl, _, rfl, a, b, xs, ys, rfl, .inr ⟨(h1.same g1).t, (h2.same g1).t, fun D nD => ?_⟩⟩
      refine lc_it (walk_zipT (K := K) (a := a) (b := b) (xs := xs) (ys := ys) (n := xs.length) (by omega)) (fun i H' => Same H1 H' ∧ H' D = some (.lst ((List.replicate i true).map V.bl))) ⟨new_same nD _, upd_same⟩ (fun i H' _ h => ⟨((h1.same g1).same h.1).t, ((h2.same g1).same h.1).t⟩) ?_ ?_
      · rintro i x H' H5 hi ⟨g, hD⟩ ⟨T, y, z, rfl, hT, rfl, hy, hz⟩
        refine ⟨T, [y, z], rfl, SqT.of upd_same, rfl, y, [z], rfl, z, [], rfl, rfl, ?_⟩
        refine ⟨rfl, ?_⟩
        refine yesT ?_
        have g5 : Same H1 (upd H' T (.tup [y, z])) := g.trans (new_same hT _)
        have tyz := el i y z hy hz _ (g1.trans g5)
        refine ⟨_, rfl, _, rfl, y, z, rfl, tyz, fun H6 g6 => ⟨(List.replicate i true).map V.bl, ?_, ?_, ?_, ?_⟩⟩
        · refine g6 _ _ ?_
          rw [upd_ne (ne_of_none hD hT)]
          exact hD
        · rw [List.length_map, List.length_replicate]
          exact small1000 (by omega)
        · exact fun c o h => by rw [upd_ne (ne_of_none h nD)]; exact g6 _ _ (g5 _ _ h)
        · rw [upd_same, List.replicate_succ', List.map_append]
          rfl
      · rintro H' ⟨g, hD⟩
        refine ⟨D, List.replicate xs.length true, rfl, SqL.of hD, ?_⟩
        have e : (List.replicate xs.length true).all id = true := by simp
        rw [e]
        exact q H' (g1.trans g)
end
end Kx
end
section
set_option maxHeartbeats 4000000
namespace Kx
open PySem PySem.Spec PyProof.Rows L2 RZ
theorem low_fix {u l : Int} (hl : 1 ≤ l) : (decide ((Rat.divInt u l).num = u) && decide ((((Rat.divInt u l).den : Nat) : Int) = l)) = decide (Nat.gcd u.natAbs l.natAbs = 1) := by
  have l0 : l ≠ 0 := by omega
  by_cases g : Nat.gcd u.natAbs l.natAbs = 1
  · have e : Rat.divInt u l = ⟨u, l.toNat, by omega, by
      show Nat.gcd _ _ = 1
      rw [show l.toNat = l.natAbs by omega]
      exact g⟩ := by
      rw [Rat.mk_eq_divInt]
      congr 1
      omega
    rw [e, decide_eq_true g, Bool.and_eq_true]
    exact ⟨decide_eq_true rfl, decide_eq_true (by show ((l.toNat : Nat) : Int) = l; omega)⟩
  · rw [decide_eq_false g, Bool.and_eq_false_iff]
    by_cases e1 : (Rat.divInt u l).num = u
    · by_cases e2 : (((Rat.divInt u l).den : Nat) : Int) = l
      · have r := (Rat.divInt u l).reduced
        rw [e1] at r
        have e3 : (Rat.divInt u l).den = l.natAbs := by omega
        rw [e3] at r
        exact absurd r g
      · exact .inr (decide_eq_false e2)
    · exact .inl (decide_eq_false e1)
theorem sqt_same {K : PySem.W.Frag} {H H' : Hp} {a : Addr} {xs : List V} (h : SqT K H a xs) (s : Same H H') : SqT K H' a xs := by
  rcases h with (h | ⟨o, h⟩) | h
  · exact .inl (.inl (s _ _ h))
  · exact .inl (.inr ⟨o, s _ _ h⟩)
  · exact .inr h
/-- is v a fraction: r; what stands below is no great number -/
def IsB (K : PySem.W.Frag) (H : Hp) (v : V) (r : Bool) : Prop :=
  (∃ T, TyX K H v T ∧ PySem.W.kitOne K T (.type "tuple") = some false ∧ r = false) ∨
  (∃ a xs, v = .ref a ∧ SqT K H a xs ∧ TyX K H (.ref a) (.type "tuple") ∧ xs.length ≠ 2 ∧ r = false) ∨
  (∃ a x y b1 b2, v = .ref a ∧ SqT K H a [x, y] ∧ TyX K H (.ref a) (.type "tuple") ∧ WhV K H x b1 ∧ WhV K H y b2 ∧ (((b1 && b2) = false ∧ r = false) ∨ ∃ u l : Int, b1 = true ∧ b2 = true ∧ x = .int u ∧ y = .int l ∧ r = (decide (1 ≤ l) && decide (Nat.gcd u.natAbs l.natAbs = 1)) ∧ l.natAbs.log2 < 9000))
theorem IsB.isG {K : PySem.W.Frag} {H : Hp} {v : V} {r : Bool} (h : IsB K H v r) : IsG K H v r := by
  rcases h with h | h | ⟨a, x, y, b1, b2, e, h1, h2, h3, h4, h5 | ⟨u, l, h5, h6, h7, h8, h9, _⟩⟩
  · exact .inl h
  · exact .inr (.inl h)
  · exact .inr (.inr ⟨a, x, y, b1, b2, e, h1, h2, h3, h4, .inl h5⟩)
  · exact .inr (.inr ⟨a, x, y, b1, b2, e, h1, h2, h3, h4, .inr ⟨u, l, h5, h6, h7, h8, h9⟩⟩)
def spIs (K : PySem.W.Frag) : Sp := fun vs H Q _ => ∃ (v : V) (r : Bool), vs = [v] ∧ IsB K H v r ∧ ∀ H', Same H H' → Q (.bl r) H'
/-- what law_is takes -/
def LwI (K : PySem.W.Frag) (H : Hp) (v : V) (r : Bool) : Prop := ∀ H', Same H H' → IsB K H' v r
/-- the indexes of the false ones -/
def badL : List Bool → Nat → List Nat
  | [], _ => []
  | r :: rs, i => if r = true then badL rs (i + 1) else i :: badL rs (i + 1)
theorem bad_head : ∀ (rs : List Bool) (i : Nat), badAt rs i = (badL rs i).head?
  | [], _ => rfl
  | true :: rs, i => bad_head rs (i + 1)
  | false :: _, _ => rfl
theorem badL_snoc : ∀ (rs : List Bool) (i : Nat) (r : Bool), badL (rs ++ [r]) i = if r = true then badL rs i else badL rs i ++ [i + rs.length]
  | [], i, r => by cases r <;> rfl
  | true :: rs, i, r => by
    show badL (rs ++ [r]) (i + 1) = if r = true then badL rs (i + 1) else badL rs (i + 1) ++ [i + (rs.length + 1)]
    rw [badL_snoc rs (i + 1) r, show i + 1 + rs.length = i + (rs.length + 1) by omega]
  | false :: rs, i, r => by
    show i :: badL (rs ++ [r]) (i + 1) = if r = true then i :: badL rs (i + 1) else i :: badL rs (i + 1) ++ [i + (rs.length + 1)]
    rw [badL_snoc rs (i + 1) r, show i + 1 + rs.length = i + (rs.length + 1) by omega]
    cases r <;> rfl
theorem badL_len : ∀ (rs : List Bool) (i : Nat), (badL rs i).length ≤ rs.length
  | [], _ => Nat.le_refl _
  | true :: rs, i => Nat.le_succ_of_le (badL_len rs (i + 1))
  | false :: rs, i => Nat.succ_le_succ (badL_len rs (i + 1))
def datI (ns : List Nat) : PyData := .list (ns.map fun n => .int (n : Nat))
theorem lay_int : ∀ ns : List Nat, PyData.canLayAll0 (ns.map fun n => .int (n : Nat)) = true ∧ PyData.depthAll (ns.map fun n => .int (n : Nat)) = 0
  | [] => ⟨rfl, rfl⟩
  | n :: ns => by
    obtain ⟨h1, h2⟩ := lay_int ns
    refine ⟨?_, ?_⟩
    · show (true && _) = true
      rw [h1]
      rfl
    · show max 0 _ = 0
      rw [h2]
      rfl
theorem shaped_int (ns : List Nat) : SeqAt.shaped (datI ns) = true := by
  obtain ⟨h1, h2⟩ := lay_int ns
  unfold SeqAt.shaped
  rw [Bool.and_eq_true]
  refine ⟨h1, decide_eq_true ?_⟩
  show PyData.depthAll _ + 1 ≤ 64
  rw [h2]
  decide
theorem dp_int {K : PySem.W.Frag} {H : Hp} : ∀ ns : List Nat, DpAll K H (ns.map fun n => V.int (n : Nat)) (ns.map fun n => .int (n : Nat))
  | [] => .nil
  | n :: ns => .cons (.int _) (dp_int ns)
/-- what refused tells -/
def spRf (K : PySem.W.Frag) : Sp := fun vs H Q _ => ∃ (v : V) (le : Int), vs = [v, .int le] ∧
  ((LsV K H v false ∧ ∀ H' t, Same H H' → H' t = some (.lst [.str "InvalidFraction", .int (-1)]) → Q (.ref t) H') ∨
   ∃ (a : Addr) (xs : List V), v = .ref a ∧ SqH H a xs ∧ xs.length ≤ 60 ∧
     (((xs.length : Int) - le < 2 ∨ 24 < (xs.length : Int) - le) ∧ (∀ H' t, Same H H' → H' t = some (.lst [.str "InvalidOrder", .int ((xs.length : Int) - le)]) → Q (.ref t) H') ∨
      2 ≤ (xs.length : Int) - le ∧ (xs.length : Int) - le ≤ 24 ∧ ∃ rs : List Bool, xs.length = rs.length ∧ (∀ (i : Nat) (x : V) (r : Bool), xs[i]? = some x → rs[i]? = some r → LwI K H x r) ∧
        (badAt rs 0 = none → ∀ H', Same H H' → Q .non H') ∧ (∀ k : Nat, badAt rs 0 = some k → ∀ H' t, Same H H' → H' t = some (.lst [.str "InvalidFraction", .int (k : Nat)]) → Q (.ref t) H')))
abbrev nIs : List Str := ["_law_thing", "_law_part"]
abbrev nRf : List Str := ["_law_some", "_law_less", "_law_bad", "_law_k"]
section
variable {P : Program} {w : World} {K : PySem.W.Frag} {mg : Str → Option Value} {base : Heap} {f fL : Addr} {fd fdL : FuncData}
theorem scIs : FnScope nIs ["_law_thing"] (defScope L_is) := ⟨rfl, rfl, rfl, by decide +kernel, rfl, by decide +kernel, by decide +kernel⟩
theorem ok_is (F : Fun K "_law_is" "_law_is" L_is f fd) (mI : mg "isinstance" = none) (mt : mg "tuple" = none) (mn : mg "len" = none) (mi : mg "int" = none) (mb : mg "bool" = none) (ma : mg "all" = none)
    (UL : Use P w K mg base CX0 1 "_law_low" ["_law_p", "_law_q"] spLowQ []) : FnOk P w K mg base CX0 2 f fd ["_law_thing"] (spIs K) := by
  refine F.ok scIs (fun vs H Q E h => ?_) (fun cdv A outer s H vs Q E hr h => ?_)
  · obtain ⟨v, r, rfl, _⟩ := h
    rfl
  obtain ⟨v, r, rfl, hf, q⟩ := h
  refine ⟨_, pss_cons (ps_if (PW.pt (pw_or (pt_not (pt_val (pe_callB call_isi rfl mI (by decide +kernel) (pa_cons (pv 0) (pa_cons (pe_bltn rfl mt boot_tuple (rel_ty _)) pa_nil))))) (pw_or1 (pt_cmpR op_ne (pe_callB call_len_seq rfl mn PySem.boot_len (pa_cons (pv 0) pa_nil)) pe_int (nomark _))))) (pss_one (ps_ret pe_bl)) pss_nil)
    (pss_cons (ps_if (pt_not (pt_val (pe_callB (cr_all rfl) rfl ma (by decide +kernel) (pa_cons (pe_lc (own := [("_law_part", 1)]) (g := gName 1) (tt := tYes) rfl scIs.nd (pi_tup (pv 0)) (blkOk_by (N := nIs) (sc := defScope L_is) (by decide +kernel)) (fun _ _ _ _ _ => pg_name (i := 1) scIs.nd rfl (Or.inl rfl)) (fun _ _ _ _ _ => pts_nil)
        (fun _ _ _ _ _ => pe_and (pe_callB (isi_at K rfl) rfl mI (by decide +kernel) (pa_cons (pv 1) (pa_cons (pe_bltn rfl mi boot_int (rel_ty _)) pa_nil))) (pe_one (pe_not (pe_callB (isi_at K rfl) rfl mI (by decide +kernel) (pa_cons (pv 1) (pa_cons (pe_bltn rfl mb boot_bool (rel_ty _)) pa_nil))))))) pa_nil)))) (pss_one (ps_ret pe_bl)) pss_nil)
    (pss_one (ps_ret (pe_and (pe_cmpR op_ge (pe_ix ix_tup (pv 0) pe_int (fun _ _ => rfl)) pe_int (nomark _)) (pe_one (pe_cmpR (op_eqD hr.units) (pe_use UL hr rfl pass0 (pa_cons (pe_ix ix_tup (pv 0) pe_int (fun _ _ => rfl)) (pa_cons (pe_ix ix_tup (pv 0) pe_int (fun _ _ => rfl)) pa_nil))) (pv 0) (nomark _))))))), ?_⟩
  have tk : PySem.W.kitOne K (.type "tuple") (.type "tuple") = some true := kit_ty kb_l.2.2.2
  rcases hf with ⟨T, ty, k, rfl⟩ | ⟨a, xs, rfl, ha, ht, hl, rfl⟩ | ⟨a, x, y, b1, b2, rfl, ha, ht, hx, hy, hh⟩
  · exact ⟨_, rfl, v, _, T, _, false, rfl, .ty _, ty, k, _, rfl, iteT (q H (Same.refl H))⟩
  · refine ⟨_, rfl, _, _, _, _, true, rfl, .ty _, ht, tk, _, rfl, iteF ?_⟩
    refine ⟨_, rfl, a, xs, rfl, .inr ha, rfl, _, rfl, ?_⟩
    rw [decide_eq_false (fun e => hl (by have := V.int.inj e; omega))]
    exact iteT (q H (Same.refl H))
  refine ⟨_, rfl, _, _, _, _, true, rfl, .ty _, ht, tk, _, rfl, iteF ?_⟩
  refine ⟨_, rfl, a, _, rfl, .inr ha, rfl, _, rfl, iteF ?_⟩
  refine ⟨_, rfl, a, rfl, ⟨_, ha⟩, fun D nD => ?_⟩
  refine lc_tup (K := K) (a := a) (xs := [x, y]) (fun i H' => Same H H' ∧ H' D = some (.lst (([b1, b2].take i).map V.bl))) ⟨new_same nD _, upd_same⟩ (fun i H' _ h => sqt_same ha h.1) ?_ ?_
  · rintro i z H' hz ⟨g, hD⟩
    obtain ⟨b, hb, hw⟩ : ∃ b, [b1, b2][i]? = some b ∧ WhV K H z b := by
      match i, hz with
      | 0, hz => exact ⟨b1, rfl, by rw [← Option.some.inj hz]; exact hx⟩
      | 1, hz => exact ⟨b2, rfl, by rw [← Option.some.inj hz]; exact hy⟩
      | _ + 2, hz => cases hz
    obtain ⟨T, x1, y1, ty, k1, k2, rfl⟩ := hw H' g
    refine ⟨rfl, ?_⟩
    refine yesT ?_
    refine ⟨_, rfl, z, _, T, _, x1, rfl, .ty _, ty, k1, _, rfl, ?_⟩
    have fin : ∀ c : Bool, c = (x1 && !y1) → ∃ acc, H' D = some (.lst acc) ∧ acc.length < sizeLine ∧ Same H (upd H' D (.lst (acc ++ [V.bl c]))) ∧ (upd H' D (.lst (acc ++ [V.bl c]))) D = some (.lst (([b1, b2].take (i + 1)).map V.bl)) := by
      rintro c rfl
      refine ⟨_, hD, small1000 ?_, fun e o h => by rw [upd_ne (ne_of_none h nD)]; exact g _ _ h, ?_⟩
      · rw [List.length_map, List.length_take]
        show min _ 2 ≤ 1000
        omega
      · rw [upd_same, List.take_add_one, hb, List.map_append]
        rfl
    cases x1 with
    | false => exact iteF (fin false rfl)
    | true => exact iteT ⟨_, rfl, z, _, T, _, y1, rfl, .ty _, ty, k2, _, rfl, fin _ (by rw [Bool.true_and])⟩
  rintro H' ⟨g, hD⟩
  refine ⟨D, [b1, b2], rfl, SqL.of hD, _, rfl, ?_⟩
  rcases hh with ⟨hb, rfl⟩ | ⟨u, l, rfl, rfl, rfl, rfl, rfl, bl⟩
  · rw [show ([b1, b2].all id) = false by simpa using hb]
    exact iteT (q H' g)
  have sa := sqt_same ha g
  refine iteF ⟨_, rfl, a, _, 1, _, rfl, rfl, sa, rfl, l, 1, rfl, rfl, _, rfl, ?_⟩
  by_cases c : (1 : Int) ≤ l
  · rw [decide_eq_true c] at q ⊢
    refine iteT ⟨_, rfl, a, _, 0, _, rfl, rfl, sa, rfl, _, rfl, a, _, 1, _, rfl, rfl, sa, rfl, u, l, rfl, by omega, bl, fun t H2 s2 n2 e2 => ⟨_, rfl, ?_⟩⟩
    refine ⟨tupQ (Rat.divInt u l), .tuple [.int u, .int l], (Nq.at (K := K) e2).dp, .tup (sqt_same sa s2) (.cons (.int _) (.cons (.int _) .nil)), rfl, rfl, ?_⟩
    have e : PyData.eqv (tupQ (Rat.divInt u l)) (.tuple [.int u, .int l]) = (true && decide (Nat.gcd u.natAbs l.natAbs = 1)) := by
      rw [Bool.true_and, ← low_fix c]
      simp only [tupQ, PyData.eqv, PyData.eqvAll, Bool.and_true]
      rw [Bool.beq_eq_decide_eq, Bool.beq_eq_decide_eq]
    rw [e]
    exact q _ (g.trans s2)
  · rw [decide_eq_false c] at q ⊢
    exact iteF (q H' g)
theorem scRf : FnScope nRf ["_law_some", "_law_less"] (defScope L_refused) := ⟨rfl, rfl, rfl, by decide +kernel, rfl, by decide +kernel, by decide +kernel⟩
theorem ok_refused (F : Fun K "_law_refused" "_law_refused" L_refused f fd) (mI : mg "isinstance" = none) (ml : mg "list" = none) (mt : mg "tuple" = none) (mn : mg "len" = none) (mr : mg "range" = none) (UI : Use P w K mg base CX0 2 "_law_is" ["_law_thing"] (spIs K) []) :
    FnOk P w K mg base CX0 3 f fd ["_law_some", "_law_less"] (spRf K) := by
  refine F.ok scRf (fun vs H Q E h => ?_) (fun cdv A outer s H vs Q E hr h => ?_)
  · obtain ⟨v, le, rfl, _⟩ := h
    rfl
  obtain ⟨v, le, rfl, hh⟩ := h
  rcases hh with ⟨hv, q⟩ | ⟨a, xs, rfl, ha, l60, hh⟩
  · refine ⟨_, pss_cons (ps_if (pt_not (pt_val (pe_callB call_isiT rfl mI (by decide +kernel) (pa_cons (pv 0) (pa_cons (pe_tup (pa_cons (pe_bltn rfl ml boot_list (rel_ty _)) (pa_cons (pe_bltn rfl mt boot_tuple (rel_ty _)) pa_nil))) pa_nil))))) (pss_one (ps_ret (pe_lst (pa_cons pe_str (pa_cons (pe_un un_neg pe_int) pa_nil))))) pss_nil)
      (pss_cons (ps_if (pt_not (pt_chain op_le op_le pe_int (pe_op op_sub (pe_callB call_len_seq rfl mn PySem.boot_len (pa_cons (pv 0) pa_nil)) (pv 1)) pe_int)) (pss_one (ps_ret (pe_lst (pa_cons pe_str (pa_cons (pe_op op_sub (pe_callB call_len_seq rfl mn PySem.boot_len (pa_cons (pv 0) pa_nil)) (pv 1)) pa_nil))))) pss_nil)
      (pss_cons (ps_setLc (i := 2) (own := [("_law_k", 3)]) (g := gName 3) rfl scRf.nd rfl rfl (sw_true rfl rfl rfl (by decide +kernel)) (pi_range1 rfl mr (pa_cons (pe_callB call_len_seq rfl mn PySem.boot_len (pa_cons (pv 0) pa_nil)) pa_nil)) (blkOk_by (N := nRf) (sc := defScope L_refused) (by decide +kernel)) (fun _ _ _ _ _ => pg_name (i := 3) scRf.nd rfl (Or.inl rfl))
        (fun _ _ _ _ _ => pts_one (pt_not (pt_val (pe_use UI hr rfl pass0 (pa_cons (pe_ix (ixl_at K rfl) (pv 0) (pv 3) (fun _ _ => rfl)) pa_nil))))) (fun _ _ _ _ _ => pv 3))
      (pss_one (ps_ret (pe_ifExp (pt_cmpR (op_eqD hr.units) (pv 2) (pe_lst pa_nil) (nomark _)) pe_non (pe_lst (pa_cons pe_str (pa_cons (pe_ix ix_list (pv 2) pe_int (fun _ _ => rfl)) pa_nil)))))))), ?_⟩
    refine ⟨_, rfl, (by show 2 ≤ sizeLine; decide), fun p np => ?_⟩
    have g1 := new_same np (.tup [.ty "list", .ty "tuple"])
    obtain ⟨T, ty, kA⟩ := hv _ g1
    refine ⟨v, p, _, T, _, false, rfl, upd_same, .cons (.ty _) (.cons (.ty _) .nil), ty, kA, _, rfl, iteT ⟨1, rfl, (by show 2 ≤ sizeLine; decide), fun t nt => q _ t (g1.trans (new_same nt _)) upd_same⟩⟩
  rcases ha with ha | ha
  · refine ⟨_, pss_cons (ps_if (pt_not (pt_val (pe_callB call_isiT rfl mI (by decide +kernel) (pa_cons (pv 0) (pa_cons (pe_tup (pa_cons (pe_bltn rfl ml boot_list (rel_ty _)) (pa_cons (pe_bltn rfl mt boot_tuple (rel_ty _)) pa_nil))) pa_nil))))) (pss_one (ps_ret (pe_lst (pa_cons pe_str (pa_cons (pe_un un_neg pe_int) pa_nil))))) pss_nil)
      (pss_cons (ps_if (pt_not (pt_chain op_le op_le pe_int (pe_op op_sub (pe_callB call_len_seq rfl mn PySem.boot_len (pa_cons (pv 0) pa_nil)) (pv 1)) pe_int)) (pss_one (ps_ret (pe_lst (pa_cons pe_str (pa_cons (pe_op op_sub (pe_callB call_len_seq rfl mn PySem.boot_len (pa_cons (pv 0) pa_nil)) (pv 1)) pa_nil))))) pss_nil)
      (pss_cons (ps_setLc (i := 2) (own := [("_law_k", 3)]) (g := gName 3) rfl scRf.nd rfl rfl (sw_true rfl rfl rfl (by decide +kernel)) (pi_range1 rfl mr (pa_cons (pe_callB call_len_seq rfl mn PySem.boot_len (pa_cons (pv 0) pa_nil)) pa_nil)) (blkOk_by (N := nRf) (sc := defScope L_refused) (by decide +kernel)) (fun _ _ _ _ _ => pg_name (i := 3) scRf.nd rfl (Or.inl rfl))
        (fun _ _ _ _ _ => pts_one (pt_not (pt_val (pe_use UI hr rfl pass0 (pa_cons (pe_ix (ixl_at K rfl) (pv 0) (pv 3) (fun _ _ => rfl)) pa_nil))))) (fun _ _ _ _ _ => pv 3))
      (pss_one (ps_ret (pe_ifExp (pt_cmpR (op_eqD hr.units) (pv 2) (pe_lst pa_nil) (nomark _)) pe_non (pe_lst (pa_cons pe_str (pa_cons (pe_ix ix_list (pv 2) pe_int (fun _ _ => rfl)) pa_nil)))))))), ?_⟩
    refine ⟨_, rfl, (by show 2 ≤ sizeLine; decide), fun p np => ?_⟩
    have g1 := new_same np (.tup [.ty "list", .ty "tuple"])
    refine ⟨.ref a, p, _, .type "list", _, true, rfl, upd_same, .cons (.ty _) (.cons (.ty _) .nil), .base (.lst (g1 _ _ ha)), kit2 kb_l.1 kb_l.2.1 rfl, _, rfl, iteF ?_⟩
    generalize upd H p (.tup [.ty "list", .ty "tuple"]) = H1 at g1
    refine ⟨_, rfl, a, xs, rfl, .inl (SqL.of (g1 _ _ ha)), _, rfl, (xs.length : Nat), le, rfl, rfl, 2, (xs.length : Nat) - le, rfl, rfl, _, rfl, ?_⟩
    rcases hh with ⟨ho, q⟩ | ⟨l1, l2, rs, hl, hI, q1, q2⟩
    · have out : ∃ t, t = (∀ t, H1 t = none → Q (.ref t) (upd H1 t (.lst [.str "InvalidOrder", .int ((xs.length : Int) - le)]))) ∧ t := ⟨_, rfl, fun t nt => q _ t (g1.trans (new_same nt _)) upd_same⟩
      obtain ⟨_, rfl, out⟩ := out
      by_cases c : (2 : Int) ≤ (xs.length : Nat) - le
      · rw [decide_eq_true c]
        refine iteT ⟨_, _, rfl, rfl, _, rfl, ?_⟩
        rw [decide_eq_false (show ¬ ((xs.length : Nat) : Int) - le ≤ 24 by omega)]
        exact iteT ⟨_, rfl, a, xs, rfl, .inl (SqL.of (g1 _ _ ha)), _, rfl, (xs.length : Nat), le, rfl, rfl, (by show 2 ≤ sizeLine; decide), out⟩
      · rw [decide_eq_false c]
        exact iteF ⟨_, rfl, iteT ⟨_, rfl, a, xs, rfl, .inl (SqL.of (g1 _ _ ha)), _, rfl, (xs.length : Nat), le, rfl, rfl, (by show 2 ≤ sizeLine; decide), out⟩⟩
    · rw [decide_eq_true l1]
      refine iteT ⟨_, _, rfl, rfl, _, rfl, ?_⟩
      rw [decide_eq_true l2]
      refine iteF ?_
      refine ⟨_, rfl, a, xs, rfl, .inl (SqL.of (g1 _ _ ha)), ?_⟩
      refine ⟨_, rfl, by omega, by omega, fun D nD => ?_⟩
      refine lc_range (lo := 0) (n := (((xs.length : Nat) : Int)).toNat) (fun i H' => Same H1 H' ∧ H' D = some (.lst ((badL (rs.take i) 0).map fun n => V.int (n : Nat)))) ⟨new_same nD _, upd_same⟩ ?_ ?_
      · rintro i H2 hi ⟨s2, hD⟩
        rw [Int.toNat_natCast] at hi
        have ex := List.getElem?_eq_getElem (l := xs) (i := i) hi
        have er := List.getElem?_eq_getElem (l := rs) (i := i) (by omega)
        have hs := g1.trans s2
        have ig := hI i _ _ ex er _ hs
        refine ⟨rfl, _, rfl, _, rfl, a, xs, _, _, rfl, rfl, (SqL.of (hs _ _ ha)), at_of (j := i) (by omega) ex, xs[i], rs[i], rfl, ig, fun H3 s3 => ⟨_, rfl, ?_⟩⟩
        have hD3 := s3 _ _ hD
        have key : ∀ r, rs[i]? = some r → badL (rs.take (i + 1)) 0 = if r = true then badL (rs.take i) 0 else badL (rs.take i) 0 ++ [i] := fun r hr => by
          rw [List.take_add_one, hr]
          show badL (rs.take i ++ [r]) 0 = _
          rw [badL_snoc, List.length_take, Nat.min_eq_left (by omega), Nat.zero_add]
        generalize rs[i] = r at er ig
        have kr := key r er
        cases r with
        | true =>
          refine iteF ⟨s2.trans s3, ?_⟩
          rw [kr]
          exact hD3
        | false =>
          refine iteT ⟨_, rfl, _, hD3, small1000 (by rw [List.length_map]; have := badL_len (rs.take i) 0; rw [List.length_take] at this; omega), fun e o h => by rw [upd_ne (ne_of_none h nD)]; exact s3 _ _ (s2 _ _ h), ?_⟩
          rw [upd_same, kr]
          show _ = some (HO.lst ((badL (rs.take i) 0 ++ [i]).map _))
          rw [List.map_append, Int.zero_add]
          rfl
      · rintro H2 ⟨s2, hD⟩
        rw [Int.toNat_natCast, hl, List.take_length] at hD
        refine ⟨_, rfl, (by show 0 ≤ sizeLine; decide), fun e ne => ?_⟩
        have s3 := s2.trans (new_same ne (.lst []))
        have hD3 := new_same ne (.lst []) _ _ hD
        refine ⟨datI (badL rs 0), .list [], .lst (SqL.of hD3) (dp_int _), .lst (SqL.of upd_same) .nil, shaped_int _, rfl, _, rfl, ?_⟩
        have bh := bad_head rs 0
        generalize upd H2 e (.lst []) = H3 at s3 hD3
        cases hb : badL rs 0 with
        | nil =>
          rw [hb] at bh
          exact iteT (q1 bh _ (g1.trans s3))
        | cons k ks =>
          rw [hb] at bh hD3
          exact iteF ⟨_, rfl, D, _, 0, _, rfl, rfl, SqL.of hD3, at_of (j := 0) rfl rfl, (by show 2 ≤ sizeLine; decide), fun t nt => q2 k bh _ t (g1.trans (s3.trans (new_same nt _))) upd_same⟩
  · refine ⟨_, pss_cons (ps_if (pt_not (pt_val (pe_callB call_isiT rfl mI (by decide +kernel) (pa_cons (pv 0) (pa_cons (pe_tup (pa_cons (pe_bltn rfl ml boot_list (rel_ty _)) (pa_cons (pe_bltn rfl mt boot_tuple (rel_ty _)) pa_nil))) pa_nil))))) (pss_one (ps_ret (pe_lst (pa_cons pe_str (pa_cons (pe_un un_neg pe_int) pa_nil))))) pss_nil)
      (pss_cons (ps_if (pt_not (pt_chain op_le op_le pe_int (pe_op op_sub (pe_callB call_len_seq rfl mn PySem.boot_len (pa_cons (pv 0) pa_nil)) (pv 1)) pe_int)) (pss_one (ps_ret (pe_lst (pa_cons pe_str (pa_cons (pe_op op_sub (pe_callB call_len_seq rfl mn PySem.boot_len (pa_cons (pv 0) pa_nil)) (pv 1)) pa_nil))))) pss_nil)
      (pss_cons (ps_setLc (i := 2) (own := [("_law_k", 3)]) (g := gName 3) rfl scRf.nd rfl rfl (sw_true rfl rfl rfl (by decide +kernel)) (pi_range1 rfl mr (pa_cons (pe_callB call_len_seq rfl mn PySem.boot_len (pa_cons (pv 0) pa_nil)) pa_nil)) (blkOk_by (N := nRf) (sc := defScope L_refused) (by decide +kernel)) (fun _ _ _ _ _ => pg_name (i := 3) scRf.nd rfl (Or.inl rfl))
        (fun _ _ _ _ _ => pts_one (pt_not (pt_val (pe_use UI hr rfl pass0 (pa_cons (pe_ix (ixt_at K rfl) (pv 0) (pv 3) (fun _ _ => rfl)) pa_nil))))) (fun _ _ _ _ _ => pv 3))
      (pss_one (ps_ret (pe_ifExp (pt_cmpR (op_eqD hr.units) (pv 2) (pe_lst pa_nil) (nomark _)) pe_non (pe_lst (pa_cons pe_str (pa_cons (pe_ix ix_list (pv 2) pe_int (fun _ _ => rfl)) pa_nil)))))))), ?_⟩
    refine ⟨_, rfl, (by show 2 ≤ sizeLine; decide), fun p np => ?_⟩
    have g1 := new_same np (.tup [.ty "list", .ty "tuple"])
    refine ⟨.ref a, p, _, .type "tuple", _, true, rfl, upd_same, .cons (.ty _) (.cons (.ty _) .nil), .base (.tup (g1 _ _ ha)), kit2 kb_l.2.2.1 kb_l.2.2.2 rfl, _, rfl, iteF ?_⟩
    generalize upd H p (.tup [.ty "list", .ty "tuple"]) = H1 at g1
    refine ⟨_, rfl, a, xs, rfl, .inr (SqT.of (g1 _ _ ha)), _, rfl, (xs.length : Nat), le, rfl, rfl, 2, (xs.length : Nat) - le, rfl, rfl, _, rfl, ?_⟩
    rcases hh with ⟨ho, q⟩ | ⟨l1, l2, rs, hl, hI, q1, q2⟩
    · have out : ∃ t, t = (∀ t, H1 t = none → Q (.ref t) (upd H1 t (.lst [.str "InvalidOrder", .int ((xs.length : Int) - le)]))) ∧ t := ⟨_, rfl, fun t nt => q _ t (g1.trans (new_same nt _)) upd_same⟩
      obtain ⟨_, rfl, out⟩ := out
      by_cases c : (2 : Int) ≤ (xs.length : Nat) - le
      · rw [decide_eq_true c]
        refine iteT ⟨_, _, rfl, rfl, _, rfl, ?_⟩
        rw [decide_eq_false (show ¬ ((xs.length : Nat) : Int) - le ≤ 24 by omega)]
        exact iteT ⟨_, rfl, a, xs, rfl, .inr (SqT.of (g1 _ _ ha)), _, rfl, (xs.length : Nat), le, rfl, rfl, (by show 2 ≤ sizeLine; decide), out⟩
      · rw [decide_eq_false c]
        exact iteF ⟨_, rfl, iteT ⟨_, rfl, a, xs, rfl, .inr (SqT.of (g1 _ _ ha)), _, rfl, (xs.length : Nat), le, rfl, rfl, (by show 2 ≤ sizeLine; decide), out⟩⟩
    · rw [decide_eq_true l1]
      refine iteT ⟨_, _, rfl, rfl, _, rfl, ?_⟩
      rw [decide_eq_true l2]
      refine iteF ?_
      refine ⟨_, rfl, a, xs, rfl, .inr (SqT.of (g1 _ _ ha)), ?_⟩
      refine ⟨_, rfl, by omega, by omega, fun D nD => ?_⟩
      refine lc_range (lo := 0) (n := (((xs.length : Nat) : Int)).toNat) (fun i H' => Same H1 H' ∧ H' D = some (.lst ((badL (rs.take i) 0).map fun n => V.int (n : Nat)))) ⟨new_same nD _, upd_same⟩ ?_ ?_
      · rintro i H2 hi ⟨s2, hD⟩
        rw [Int.toNat_natCast] at hi
        have ex := List.getElem?_eq_getElem (l := xs) (i := i) hi
        have er := List.getElem?_eq_getElem (l := rs) (i := i) (by omega)
        have hs := g1.trans s2
        have ig := hI i _ _ ex er _ hs
        refine ⟨rfl, _, rfl, _, rfl, a, xs, _, _, rfl, rfl, (SqT.of (hs _ _ ha)), at_of (j := i) (by omega) ex, xs[i], rs[i], rfl, ig, fun H3 s3 => ⟨_, rfl, ?_⟩⟩
        have hD3 := s3 _ _ hD
        have key : ∀ r, rs[i]? = some r → badL (rs.take (i + 1)) 0 = if r = true then badL (rs.take i) 0 else badL (rs.take i) 0 ++ [i] := fun r hr => by
          rw [List.take_add_one, hr]
          show badL (rs.take i ++ [r]) 0 = _
          rw [badL_snoc, List.length_take, Nat.min_eq_left (by omega), Nat.zero_add]
        generalize rs[i] = r at er ig
        have kr := key r er
        cases r with
        | true =>
          refine iteF ⟨s2.trans s3, ?_⟩
          rw [kr]
          exact hD3
        | false =>
          refine iteT ⟨_, rfl, _, hD3, small1000 (by rw [List.length_map]; have := badL_len (rs.take i) 0; rw [List.length_take] at this; omega), fun e o h => by rw [upd_ne (ne_of_none h nD)]; exact s3 _ _ (s2 _ _ h), ?_⟩
          rw [upd_same, kr]
          show _ = some (HO.lst ((badL (rs.take i) 0 ++ [i]).map _))
          rw [List.map_append, Int.zero_add]
          rfl
      · rintro H2 ⟨s2, hD⟩
        rw [Int.toNat_natCast, hl, List.take_length] at hD
        refine ⟨_, rfl, (by show 0 ≤ sizeLine; decide), fun e ne => ?_⟩
        have s3 := s2.trans (new_same ne (.lst []))
        have hD3 := new_same ne (.lst []) _ _ hD
        refine ⟨datI (badL rs 0), .list [], .lst (SqL.of hD3) (dp_int _), .lst (SqL.of upd_same) .nil, shaped_int _, rfl, _, rfl, ?_⟩
        have bh := bad_head rs 0
        generalize upd H2 e (.lst []) = H3 at s3 hD3
        cases hb : badL rs 0 with
        | nil =>
          rw [hb] at bh
          exact iteT (q1 bh _ (g1.trans s3))
        | cons k ks =>
          rw [hb] at bh hD3
          exact iteF ⟨_, rfl, D, _, 0, _, rfl, rfl, SqL.of hD3, at_of (j := 0) rfl rfl, (by show 2 ≤ sizeLine; decide), fun t nt => q2 k bh _ t (g1.trans (s3.trans (new_same nt _))) upd_same⟩
end
end Kx
end
section
set_option maxHeartbeats 4000000
namespace Kx
open PySem PySem.Spec PyProof.Rows L2
/-- the six errors' classes -/
structure Errs (P : Program) (w : World) (K : PySem.W.Frag) (mg : Str → Option Value) (base : Heap) (cs : Fin 6 → Addr) : Prop where
  e0 : ErrC P w K mg base "InvalidNumber" 1 (fs1 "InvalidNumber" "value") (cs 0)
  e1 : ErrC P w K mg base "InvalidFraction" 1 (fs1 "InvalidFraction" "at") (cs 1)
  e2 : ErrC P w K mg base "InvalidOrder" 1 (fs1 "InvalidOrder" "value") (cs 2)
  e3 : ErrC P w K mg base "OrderTooLow" 2 (fs2 "OrderTooLow" "have" "wanted") (cs 3)
  e4 : ErrC P w K mg base "UnlikeOrders" 2 (fs2 "UnlikeOrders" "one" "other") (cs 4)
  e5 : ErrC P w K mg base "InvalidPlace" 1 (fs1 "InvalidPlace" "value") (cs 5)
  co : ∀ i, PySem.W.findIn K (.ref (cs i)) "code" = some none
  f00 : PySem.W.findIn K (.ref (cs 0)) "value" = some none
  f10 : PySem.W.findIn K (.ref (cs 1)) "at" = some none
  f20 : PySem.W.findIn K (.ref (cs 2)) "value" = some none
  f30 : PySem.W.findIn K (.ref (cs 3)) "have" = some none
  f31 : PySem.W.findIn K (.ref (cs 3)) "wanted" = some none
  f40 : PySem.W.findIn K (.ref (cs 4)) "one" = some none
  f41 : PySem.W.findIn K (.ref (cs 4)) "other" = some none
  f50 : PySem.W.findIn K (.ref (cs 5)) "value" = some none
  kt : ∀ i j : Fin 6, PySem.W.kitOne K (.ref (cs i)) (.ref (cs j)) = some (decide (i = j))
/-- which of the errors is caught, and what fault makes of it -/
def Flt (H : Hp) (cs : Fin 6 → Addr) (cls : Value) (d : Option Addr) (Q : VK) : Prop :=
  (cls = .ref (cs 0) ∧ ∃ (dd : Addr) (v : V), d = some dd ∧ H dd = some (.xd (fs1 "InvalidNumber" "value" [v])) ∧ ∀ t H', Same H H' → H t = none → H' t = some (.lst [.str "InvalidNumber", v]) → Q (.ref t) H') ∨
  (cls = .ref (cs 1) ∧ ∃ (dd : Addr) (v : V), d = some dd ∧ H dd = some (.xd (fs1 "InvalidFraction" "at" [v])) ∧ ∀ t H', Same H H' → H t = none → H' t = some (.lst [.str "InvalidFraction", v]) → Q (.ref t) H') ∨
  (cls = .ref (cs 2) ∧ ∃ (dd : Addr) (v : V), d = some dd ∧ H dd = some (.xd (fs1 "InvalidOrder" "value" [v])) ∧ ∀ t H', Same H H' → H t = none → H' t = some (.lst [.str "InvalidOrder", v]) → Q (.ref t) H') ∨
  (cls = .ref (cs 3) ∧ ∃ (dd : Addr) (v u : V), d = some dd ∧ H dd = some (.xd (fs2 "OrderTooLow" "have" "wanted" [v, u])) ∧ ∀ t H', Same H H' → H t = none → H' t = some (.lst [.str "OrderTooLow", v, u]) → Q (.ref t) H') ∨
  (cls = .ref (cs 4) ∧ ∃ (dd : Addr) (v u : V), d = some dd ∧ H dd = some (.xd (fs2 "UnlikeOrders" "one" "other" [v, u])) ∧ ∀ t H', Same H H' → H t = none → H' t = some (.lst [.str "UnlikeOrders", v, u]) → Q (.ref t) H') ∨
  (cls = .ref (cs 5) ∧ ∃ (dd : Addr) (v : V), d = some dd ∧ H dd = some (.xd (fs1 "InvalidPlace" "value" [v])) ∧ ∀ t H', Same H H' → H t = none → H' t = some (.lst [.str "InvalidPlace", v]) → Q (.ref t) H')
def spFlt (cs : Fin 6 → Addr) : Addr → Value → Option Addr → Sp := fun a cls d vs H Q _ => vs = [.ref a] ∧ Flt H cs cls d Q
section
variable {P : Program} {w : World} {K : PySem.W.Frag} {mg : Str → Option Value} {base : Heap} {f : Addr} {cs : Fin 6 → Addr} {fd : FuncData}
theorem scFlt : FnScope ["_law_error"] ["_law_error"] (defScope L_fault) := ⟨rfl, rfl, rfl, by decide +kernel, rfl, by decide +kernel, by decide +kernel⟩
theorem ok_fault (F : Fun K "_law_fault" "_law_fault" L_fault f fd) (mI : mg "isinstance" = none) (Z : Errs P w K mg base cs) : FnP P w K mg base C8.CX0 1 f fd ["_law_error"] (spFlt cs) := by
  refine fn_ofP F scFlt (fun a cls d vs H Q E h => ?_) (fun cdv A outer s H vs Q E a oe cls d hz hf hr h => ?_)
  · obtain ⟨rfl, _⟩ := h
    rfl
  obtain ⟨rfl, h⟩ := h
  have hp : (a, oe) ∈ (L2H.cxH C8.CX0 P w K mg base ["_law_error"] "_law_fault" (defScope L_fault) f cdv A outer s H E (a, oe)).pn := List.mem_cons_self
  have hrC : ∀ i u, RelV (.ref (cs i)) u → u = .ref (cs i) := fun i u e => e
  rcases h with ⟨rfl, dd, v, rfl, hd, q⟩ | ⟨rfl, dd, v, rfl, hd, q⟩ | ⟨rfl, dd, v, rfl, hd, q⟩ | ⟨rfl, dd, v, u, rfl, hd, q⟩ | ⟨rfl, dd, v, u, rfl, hd, q⟩ | ⟨rfl, dd, v, rfl, hd, q⟩
  · refine ⟨_, pss_cons (ps_if (pt_val (pe_callB (call_isP (dd := dd) hp Z.e0.T hz hf) rfl mI (by decide +kernel) (pa_cons (pv 0) (pa_cons (C8.pe_gc (v := .ref (cs 0)) rfl ⟨_, Z.e0.m, rfl⟩) pa_nil)))) (pss_one (ps_ret (pe_lst (pa_cons (pe_xfP hp Z.e0.T (Z.co 0) hz hf (pv 0)) (pa_cons (pe_xfP hp Z.e0.T Z.f00 hz hf (pv 0)) pa_nil))))) pss_nil) (pss_cons ps_never (pss_cons ps_never (pss_cons ps_never (pss_cons ps_never (pss_cons ps_never (pss_one ps_never)))))), ?_⟩
    refine ⟨_, rfl, .ref (cs 0), .ref (cs 0), true, _, rfl, hd, hrC 0, Z.kt 0 0, _, rfl, iteT ?_⟩
    refine ⟨_, rfl, rfl, rfl, dd, _, _, rfl, hd, rfl, _, rfl, rfl, rfl, dd, _, _, rfl, hd, rfl, (by show 2 ≤ sizeLine; decide), fun t nt => q t _ (new_same nt _) nt upd_same⟩
  · refine ⟨_, pss_cons (ps_if (pt_val (pe_callB (call_isP (dd := dd) hp Z.e1.T hz hf) rfl mI (by decide +kernel) (pa_cons (pv 0) (pa_cons (C8.pe_gc (v := .ref (cs 0)) rfl ⟨_, Z.e0.m, rfl⟩) pa_nil)))) (pss_one ps_never) pss_nil) (pss_cons (ps_if (pt_val (pe_callB (call_isP (dd := dd) hp Z.e1.T hz hf) rfl mI (by decide +kernel) (pa_cons (pv 0) (pa_cons (C8.pe_gc (v := .ref (cs 1)) rfl ⟨_, Z.e1.m, rfl⟩) pa_nil)))) (pss_one (ps_ret (pe_lst (pa_cons (pe_xfP hp Z.e1.T (Z.co 1) hz hf (pv 0)) (pa_cons (pe_xfP hp Z.e1.T Z.f10 hz hf (pv 0)) pa_nil))))) pss_nil) (pss_cons ps_never (pss_cons ps_never (pss_cons ps_never (pss_cons ps_never (pss_one ps_never)))))), ?_⟩
    refine ⟨_, rfl, .ref (cs 0), .ref (cs 0), false, _, rfl, hd, hrC 0, Z.kt 1 0, _, rfl, iteF ?_⟩
    refine ⟨_, rfl, .ref (cs 1), .ref (cs 1), true, _, rfl, hd, hrC 1, Z.kt 1 1, _, rfl, iteT ?_⟩
    refine ⟨_, rfl, rfl, rfl, dd, _, _, rfl, hd, rfl, _, rfl, rfl, rfl, dd, _, _, rfl, hd, rfl, (by show 2 ≤ sizeLine; decide), fun t nt => q t _ (new_same nt _) nt upd_same⟩
  · refine ⟨_, pss_cons (ps_if (pt_val (pe_callB (call_isP (dd := dd) hp Z.e2.T hz hf) rfl mI (by decide +kernel) (pa_cons (pv 0) (pa_cons (C8.pe_gc (v := .ref (cs 0)) rfl ⟨_, Z.e0.m, rfl⟩) pa_nil)))) (pss_one ps_never) pss_nil) (pss_cons (ps_if (pt_val (pe_callB (call_isP (dd := dd) hp Z.e2.T hz hf) rfl mI (by decide +kernel) (pa_cons (pv 0) (pa_cons (C8.pe_gc (v := .ref (cs 1)) rfl ⟨_, Z.e1.m, rfl⟩) pa_nil)))) (pss_one ps_never) pss_nil) (pss_cons (ps_if (pt_val (pe_callB (call_isP (dd := dd) hp Z.e2.T hz hf) rfl mI (by decide +kernel) (pa_cons (pv 0) (pa_cons (C8.pe_gc (v := .ref (cs 2)) rfl ⟨_, Z.e2.m, rfl⟩) pa_nil)))) (pss_one (ps_ret (pe_lst (pa_cons (pe_xfP hp Z.e2.T (Z.co 2) hz hf (pv 0)) (pa_cons (pe_xfP hp Z.e2.T Z.f20 hz hf (pv 0)) pa_nil))))) pss_nil) (pss_cons ps_never (pss_cons ps_never (pss_cons ps_never (pss_one ps_never)))))), ?_⟩
    refine ⟨_, rfl, .ref (cs 0), .ref (cs 0), false, _, rfl, hd, hrC 0, Z.kt 2 0, _, rfl, iteF ?_⟩
    refine ⟨_, rfl, .ref (cs 1), .ref (cs 1), false, _, rfl, hd, hrC 1, Z.kt 2 1, _, rfl, iteF ?_⟩
    refine ⟨_, rfl, .ref (cs 2), .ref (cs 2), true, _, rfl, hd, hrC 2, Z.kt 2 2, _, rfl, iteT ?_⟩
    refine ⟨_, rfl, rfl, rfl, dd, _, _, rfl, hd, rfl, _, rfl, rfl, rfl, dd, _, _, rfl, hd, rfl, (by show 2 ≤ sizeLine; decide), fun t nt => q t _ (new_same nt _) nt upd_same⟩
  · refine ⟨_, pss_cons (ps_if (pt_val (pe_callB (call_isP (dd := dd) hp Z.e3.T hz hf) rfl mI (by decide +kernel) (pa_cons (pv 0) (pa_cons (C8.pe_gc (v := .ref (cs 0)) rfl ⟨_, Z.e0.m, rfl⟩) pa_nil)))) (pss_one ps_never) pss_nil) (pss_cons (ps_if (pt_val (pe_callB (call_isP (dd := dd) hp Z.e3.T hz hf) rfl mI (by decide +kernel) (pa_cons (pv 0) (pa_cons (C8.pe_gc (v := .ref (cs 1)) rfl ⟨_, Z.e1.m, rfl⟩) pa_nil)))) (pss_one ps_never) pss_nil) (pss_cons (ps_if (pt_val (pe_callB (call_isP (dd := dd) hp Z.e3.T hz hf) rfl mI (by decide +kernel) (pa_cons (pv 0) (pa_cons (C8.pe_gc (v := .ref (cs 2)) rfl ⟨_, Z.e2.m, rfl⟩) pa_nil)))) (pss_one ps_never) pss_nil) (pss_cons (ps_if (pt_val (pe_callB (call_isP (dd := dd) hp Z.e3.T hz hf) rfl mI (by decide +kernel) (pa_cons (pv 0) (pa_cons (C8.pe_gc (v := .ref (cs 3)) rfl ⟨_, Z.e3.m, rfl⟩) pa_nil)))) (pss_one (ps_ret (pe_lst (pa_cons (pe_xfP hp Z.e3.T (Z.co 3) hz hf (pv 0)) (pa_cons (pe_xfP hp Z.e3.T Z.f30 hz hf (pv 0)) (pa_cons (pe_xfP hp Z.e3.T Z.f31 hz hf (pv 0)) pa_nil)))))) pss_nil) (pss_cons ps_never (pss_cons ps_never (pss_one ps_never)))))), ?_⟩
    refine ⟨_, rfl, .ref (cs 0), .ref (cs 0), false, _, rfl, hd, hrC 0, Z.kt 3 0, _, rfl, iteF ?_⟩
    refine ⟨_, rfl, .ref (cs 1), .ref (cs 1), false, _, rfl, hd, hrC 1, Z.kt 3 1, _, rfl, iteF ?_⟩
    refine ⟨_, rfl, .ref (cs 2), .ref (cs 2), false, _, rfl, hd, hrC 2, Z.kt 3 2, _, rfl, iteF ?_⟩
    refine ⟨_, rfl, .ref (cs 3), .ref (cs 3), true, _, rfl, hd, hrC 3, Z.kt 3 3, _, rfl, iteT ?_⟩
    refine ⟨_, rfl, rfl, rfl, dd, _, _, rfl, hd, rfl, _, rfl, rfl, rfl, dd, _, _, rfl, hd, rfl, _, rfl, rfl, rfl, dd, _, _, rfl, hd, rfl, (by show 3 ≤ sizeLine; decide), fun t nt => q t _ (new_same nt _) nt upd_same⟩
  · refine ⟨_, pss_cons (ps_if (pt_val (pe_callB (call_isP (dd := dd) hp Z.e4.T hz hf) rfl mI (by decide +kernel) (pa_cons (pv 0) (pa_cons (C8.pe_gc (v := .ref (cs 0)) rfl ⟨_, Z.e0.m, rfl⟩) pa_nil)))) (pss_one ps_never) pss_nil) (pss_cons (ps_if (pt_val (pe_callB (call_isP (dd := dd) hp Z.e4.T hz hf) rfl mI (by decide +kernel) (pa_cons (pv 0) (pa_cons (C8.pe_gc (v := .ref (cs 1)) rfl ⟨_, Z.e1.m, rfl⟩) pa_nil)))) (pss_one ps_never) pss_nil) (pss_cons (ps_if (pt_val (pe_callB (call_isP (dd := dd) hp Z.e4.T hz hf) rfl mI (by decide +kernel) (pa_cons (pv 0) (pa_cons (C8.pe_gc (v := .ref (cs 2)) rfl ⟨_, Z.e2.m, rfl⟩) pa_nil)))) (pss_one ps_never) pss_nil) (pss_cons (ps_if (pt_val (pe_callB (call_isP (dd := dd) hp Z.e4.T hz hf) rfl mI (by decide +kernel) (pa_cons (pv 0) (pa_cons (C8.pe_gc (v := .ref (cs 3)) rfl ⟨_, Z.e3.m, rfl⟩) pa_nil)))) (pss_one ps_never) pss_nil) (pss_cons (ps_if (pt_val (pe_callB (call_isP (dd := dd) hp Z.e4.T hz hf) rfl mI (by decide +kernel) (pa_cons (pv 0) (pa_cons (C8.pe_gc (v := .ref (cs 4)) rfl ⟨_, Z.e4.m, rfl⟩) pa_nil)))) (pss_one (ps_ret (pe_lst (pa_cons (pe_xfP hp Z.e4.T (Z.co 4) hz hf (pv 0)) (pa_cons (pe_xfP hp Z.e4.T Z.f40 hz hf (pv 0)) (pa_cons (pe_xfP hp Z.e4.T Z.f41 hz hf (pv 0)) pa_nil)))))) pss_nil) (pss_cons ps_never (pss_one ps_never)))))), ?_⟩
    refine ⟨_, rfl, .ref (cs 0), .ref (cs 0), false, _, rfl, hd, hrC 0, Z.kt 4 0, _, rfl, iteF ?_⟩
    refine ⟨_, rfl, .ref (cs 1), .ref (cs 1), false, _, rfl, hd, hrC 1, Z.kt 4 1, _, rfl, iteF ?_⟩
    refine ⟨_, rfl, .ref (cs 2), .ref (cs 2), false, _, rfl, hd, hrC 2, Z.kt 4 2, _, rfl, iteF ?_⟩
    refine ⟨_, rfl, .ref (cs 3), .ref (cs 3), false, _, rfl, hd, hrC 3, Z.kt 4 3, _, rfl, iteF ?_⟩
    refine ⟨_, rfl, .ref (cs 4), .ref (cs 4), true, _, rfl, hd, hrC 4, Z.kt 4 4, _, rfl, iteT ?_⟩
    refine ⟨_, rfl, rfl, rfl, dd, _, _, rfl, hd, rfl, _, rfl, rfl, rfl, dd, _, _, rfl, hd, rfl, _, rfl, rfl, rfl, dd, _, _, rfl, hd, rfl, (by show 3 ≤ sizeLine; decide), fun t nt => q t _ (new_same nt _) nt upd_same⟩
  · refine ⟨_, pss_cons (ps_if (pt_val (pe_callB (call_isP (dd := dd) hp Z.e5.T hz hf) rfl mI (by decide +kernel) (pa_cons (pv 0) (pa_cons (C8.pe_gc (v := .ref (cs 0)) rfl ⟨_, Z.e0.m, rfl⟩) pa_nil)))) (pss_one ps_never) pss_nil) (pss_cons (ps_if (pt_val (pe_callB (call_isP (dd := dd) hp Z.e5.T hz hf) rfl mI (by decide +kernel) (pa_cons (pv 0) (pa_cons (C8.pe_gc (v := .ref (cs 1)) rfl ⟨_, Z.e1.m, rfl⟩) pa_nil)))) (pss_one ps_never) pss_nil) (pss_cons (ps_if (pt_val (pe_callB (call_isP (dd := dd) hp Z.e5.T hz hf) rfl mI (by decide +kernel) (pa_cons (pv 0) (pa_cons (C8.pe_gc (v := .ref (cs 2)) rfl ⟨_, Z.e2.m, rfl⟩) pa_nil)))) (pss_one ps_never) pss_nil) (pss_cons (ps_if (pt_val (pe_callB (call_isP (dd := dd) hp Z.e5.T hz hf) rfl mI (by decide +kernel) (pa_cons (pv 0) (pa_cons (C8.pe_gc (v := .ref (cs 3)) rfl ⟨_, Z.e3.m, rfl⟩) pa_nil)))) (pss_one ps_never) pss_nil) (pss_cons (ps_if (pt_val (pe_callB (call_isP (dd := dd) hp Z.e5.T hz hf) rfl mI (by decide +kernel) (pa_cons (pv 0) (pa_cons (C8.pe_gc (v := .ref (cs 4)) rfl ⟨_, Z.e4.m, rfl⟩) pa_nil)))) (pss_one ps_never) pss_nil) (pss_cons (ps_if (pt_val (pe_callB (call_isP (dd := dd) hp Z.e5.T hz hf) rfl mI (by decide +kernel) (pa_cons (pv 0) (pa_cons (C8.pe_gc (v := .ref (cs 5)) rfl ⟨_, Z.e5.m, rfl⟩) pa_nil)))) (pss_one (ps_ret (pe_lst (pa_cons (pe_xfP hp Z.e5.T (Z.co 5) hz hf (pv 0)) (pa_cons (pe_xfP hp Z.e5.T Z.f50 hz hf (pv 0)) pa_nil))))) pss_nil) (pss_one ps_never)))))), ?_⟩
    refine ⟨_, rfl, .ref (cs 0), .ref (cs 0), false, _, rfl, hd, hrC 0, Z.kt 5 0, _, rfl, iteF ?_⟩
    refine ⟨_, rfl, .ref (cs 1), .ref (cs 1), false, _, rfl, hd, hrC 1, Z.kt 5 1, _, rfl, iteF ?_⟩
    refine ⟨_, rfl, .ref (cs 2), .ref (cs 2), false, _, rfl, hd, hrC 2, Z.kt 5 2, _, rfl, iteF ?_⟩
    refine ⟨_, rfl, .ref (cs 3), .ref (cs 3), false, _, rfl, hd, hrC 3, Z.kt 5 3, _, rfl, iteF ?_⟩
    refine ⟨_, rfl, .ref (cs 4), .ref (cs 4), false, _, rfl, hd, hrC 4, Z.kt 5 4, _, rfl, iteF ?_⟩
    refine ⟨_, rfl, .ref (cs 5), .ref (cs 5), true, _, rfl, hd, hrC 5, Z.kt 5 5, _, rfl, iteT ?_⟩
    refine ⟨_, rfl, rfl, rfl, dd, _, _, rfl, hd, rfl, _, rfl, rfl, rfl, dd, _, _, rfl, hd, rfl, (by show 2 ≤ sizeLine; decide), fun t nt => q t _ (new_same nt _) nt upd_same⟩
end
theorem takes_len {X : Cx} {W : WX} (tk : Takes X W) : Takes X (fun cls d σ H => σ.length = X.N.length → W cls d σ H) := fun u s' ⟨a, B, sI, pins, σ, H, cls, d, e, I, nb, up, sky, na, os, ag, w⟩ =>
  tk u s' ⟨a, B, sI, pins, σ, H, cls, d, e, I, nb, up, sky, na, os, ag, w I.len⟩
abbrev nAsk : List Str := ["_law_deed", "_law_error"]
/-- what ask makes of the lambda's reading -/
def TAsk (cs : Fin 6 → Addr) : (XK → Hp → VK → Prop) → Hp → VK → Prop := fun tl H Q =>
  tl (fun cls d H' => Flt H' cs cls d Q) H (fun v H1 => 2 ≤ sizeLine ∧ ∀ t, H1 t = none → Q (.ref t) (upd H1 t (.lst [.str "told", v])))
def askT (cs : Fin 6 → Addr) : Addr → Value → Option Addr → TS := fun a cls d => tRet (tCallP a cls d (spFlt cs) (tCons (tVar 1) tNil))
def askL (CE : Addr) (cs : Fin 6 → Addr) : List Hd3 := [(.ref CE, 1, askT cs)]
section
variable {X : Cx} {q : Str} {g fF CE : Addr} {cs : Fin 6 → Addr} {cdg : Value} {fdF : FuncData}
theorem scAsk : FnScope nAsk ["_law_deed"] (defScope L_ask) := ⟨rfl, rfl, rfl, by decide +kernel, rfl, by decide +kernel, by decide +kernel⟩
theorem ask_gives (hr : Room 2 X.A) (F : FnP X.prog X.w X.K X.mg X.base C8.CX0 1 fF fdF ["_law_error"] (spFlt cs)) (bF : Binds X.K fdF ["_law_error"] []) (kF : PySem.W.keepIn X.K (.ref fF) = true) (mF : X.mg "_law_fault" = some (.ref fF))
    (mC : X.mg "CreepError" = some (.ref CE)) (e1 : ∀ i, PySem.W.exmOne X.K (.ref (cs i)) (.ref CE) = some true) :
    LamX.GivesTo X nAsk "_law_ask" (defScope L_ask) g cdg (defBody L_ask) "_law_deed" q (TAsk cs) := by
  intro f c' s H Q tl act hc h
  let XX := (cxOf C8.CX0 X.prog X.w X.K X.mg X.base nAsk "_law_ask" (defScope L_ask) g cdg X.A X.stack s H C8.E0).nox
  refine ⟨_, pss_one (ps_try_manyAs (X := XX) (l := askL CE cs) (tb := fun W D σ H => ∃ Ech : XK, (∀ cls d σ' H', Ech cls d H' → σ'.length = 2 → W cls d σ' H') ∧ σ[0]? = some (some (.ref f)) ∧ H c' = some (LamX.CodeO c' q) ∧
      tl Ech H (fun v H1 => 2 ≤ sizeLine ∧ ∀ t, H1 t = none → D.rt (.ref t) (upd H1 t (.lst [.str "told", v]))))
      rfl rfl scAsk.nd LamX.takes0 (fun W pn xe tk _ => ?_) ?_), ?_⟩
  · refine ⟨fun pins s' σ H' D I h' => ?_⟩
    obtain ⟨Ech, hW, h1, h2, h3⟩ := h'
    have hp := act (fun cls d σ H => σ.length = 2 → W cls d σ H) pn xe Ech
    have hq : ∀ (j : Nat) (p1 p2 p3 p4 p5 : Pos), PSs (XX.tr pn xe) [.Return (some (.List [.Constant (.str "told") j p3, .Call (.Name "_law_deed" p1) [] [] p2] p4)) p5] (tRet (tLst (tCons (tC (.str "told")) (tCons (fun σZ HZ Q => σZ[0]? = some (some (V.ref f)) ∧ HZ c' = some (LamX.CodeO c' q) ∧ tl Ech HZ Q) tNil)))) :=
      fun j p1 p2 p3 p4 p5 => pss_one (ps_ret (pe_lst (pa_cons pe_str (pa_cons (hp p1 p2 (takes_len tk) hW) pa_nil))))
    exact (hq _ _ _ _ _ _).run pins s' σ H' D I ⟨h1, h2, h3⟩
  · have cl : ∀ (a : Addr) (oe : Obj) (cls : Value) (d : Option Addr) (pn : List (Addr × Obj)) (p1 p2 p3 p4 : Pos), Zc cls d oe → (∃ vs, oe.data = .fields vs) → PSs (XX.suite a ((a, oe) :: pn)) [.Return (some (.Call (.Name "_law_fault" p1) [.Name "_law_error" p2] [] p3)) p4] (askT cs a cls d) :=
      fun a oe cls d pn p1 p2 p3 p4 hz hf => pss_one (ps_ret (pe_callP List.mem_cons_self hz hf F (L2H.roomH_mark (hr.deeper _) _) rfl mF kF bF (pa_cons (pv 1) pa_nil)))
    exact .cons rfl rfl ⟨rfl, by decide, .inl mC⟩ (fun a oe cls d pn hz hf => cl a oe cls d pn _ _ _ _ hz hf) .nil
  · refine ⟨fun cls d H' => Flt H' cs cls d Q, fun cls d σ' H' hf hl => ?_, rfl, hc, ?_⟩
    · have g1 : ∀ a : Addr, (σ'.set 1 (some (V.ref a)))[1]? = some (some (V.ref a)) := fun a => List.getElem?_set_self (by omega)
      rcases hf with ⟨rfl, r⟩ | ⟨rfl, r⟩ | ⟨rfl, r⟩ | ⟨rfl, r⟩ | ⟨rfl, r⟩ | ⟨rfl, r⟩
      · exact ⟨true, e1 0, fun _ a na => ⟨_, g1 a, rfl, .inl ⟨rfl, r⟩⟩, fun z => Bool.noConfusion z⟩
      · exact ⟨true, e1 1, fun _ a na => ⟨_, g1 a, rfl, .inr (.inl ⟨rfl, r⟩)⟩, fun z => Bool.noConfusion z⟩
      · exact ⟨true, e1 2, fun _ a na => ⟨_, g1 a, rfl, .inr (.inr (.inl ⟨rfl, r⟩))⟩, fun z => Bool.noConfusion z⟩
      · exact ⟨true, e1 3, fun _ a na => ⟨_, g1 a, rfl, .inr (.inr (.inr (.inl ⟨rfl, r⟩)))⟩, fun z => Bool.noConfusion z⟩
      · exact ⟨true, e1 4, fun _ a na => ⟨_, g1 a, rfl, .inr (.inr (.inr (.inr (.inl ⟨rfl, r⟩))))⟩, fun z => Bool.noConfusion z⟩
      · exact ⟨true, e1 5, fun _ a na => ⟨_, g1 a, rfl, .inr (.inr (.inr (.inr (.inr (⟨rfl, r⟩)))))⟩, fun z => Bool.noConfusion z⟩
    · exact h
end
end Kx
end
section
set_option maxHeartbeats 4000000
namespace Kx
open PySem PySem.Spec PyProof.Rows L2 RZ
theorem passF {P : Program} {w : World} {X : Cx} : Passes (L2.CX P w) X (fun _ _ _ => False) := fun _ _ _ _ _ _ _ h => by
  obtain ⟨_, _, _, _, _, _, _, _, _, _, _, _, z⟩ := h
  exact z.elim
/-- what the law's later defs stand on -/
structure Kit (P : Program) (w : World) (K : PySem.W.Frag) (mg : Str → Option Value) (base : Heap) (C S : Addr) (cs : Fin 6 → Addr) (CE : Addr) : Prop where
  rk : RowK P w K mg base C (cs 1) (cs 2)
  sk : StepK P w K mg base C S (cs 1) (cs 2)
  sR : PySem.W.kitOne K (.ref C) (.ref S) = some false
  numbers : MUse P w K mg base CX0 1 C "numbers" ["self"] (spNu K C) []
  number : MUse P w K mg base (L2.CX P w) 4 C "number" ["self", "place"] (spNm K C (cs 5)) [["place"]]
  scaled : MUse P w K mg base (L2.CX P w) 8 C "scaled" ["self", "t"] (spSc K C (cs 0)) [["t"]]
  cut : MUse P w K mg base (L2.CX P w) 8 C "cut" ["self", "order"] (spCu K C (cs 2) (cs 3)) [["order"]]
  oadd : OpM P w K mg base (L2.CX P w) 8 C "__add__" (spOp K C (cs 4) 4000 (List.zipWith (· + ·)))
  osub : OpM P w K mg base (L2.CX P w) 8 C "__sub__" (spOp K C (cs 4) 4000 (List.zipWith (· - ·)))
  omul : OpM P w K mg base (L2.CX P w) 8 C "__mul__" (spOp K C (cs 4) 140 mulL)
  oneg : OpM P w K mg base (L2.CX P w) 8 C "__neg__" (spNe K C)
  oeq : OpM P w K mg base CX0 1 C "__eq__" (spEqR K C)
  olen : OpM P w K mg base CX0 1 C "__len__" (spLe K C)
  seq : OpM P w K mg base CX0 1 S "__eq__" (spEqS K S)
  const : ∃ (mc : Value) (p g : Addr) (fd : FuncData), ClX.CRead K C mc ∧ CSta K C mc "constant" p g ∧ FnOk P w K mg base (L2.CX P w) 8 g fd ["value", "order"] (spCt K C (cs 0) (cs 2)) ∧ Binds K fd ["value", "order"] [] ∧ KBn K fd ["value", "order"] 0 ["order", "value"] revB revA
  bag : Use P w K mg base CX0 1 "_law_bag" ["_law_script"] (spBag K) []
  draw : Use P w K mg base CX0 1 "_law_draw" ["_law_bag_here", "_law_limit"] spDraw []
  ofL : Use P w K mg base CX0 2 "_law_of" ["_law_bag_here", "_law_things"] spOfL []
  neg : Use P w K mg base CX0 1 "_law_neg" ["_law_a"] (spNegQ K) []
  times : Use P w K mg base CX0 3 "_law_times" ["_law_u", "_law_w"] (spTimes K) []
  plus : Use P w K mg base CX0 3 "_law_plus" ["_law_u", "_law_w"] (spPlus K) []
  scale : Use P w K mg base CX0 3 "_law_scale" ["_law_u", "_law_c"] (spScale K) []
  num : Use P w K mg base CX0 3 "_law_number" ["_law_bag_here"] (spNum K) []
  full : Use P w K mg base CX0 4 "_law_full" ["_law_bag_here"] (spNum K) []
  odd : Use P w K mg base CX0 9 "_law_odd" ["_law_bag_here"] (spOdd K S) []
  spoilt : Use P w K mg base CX0 6 "_law_spoilt" ["_law_bag_here", "_law_a"] (spSpoilt K) []
  lis : Use P w K mg base CX0 2 "_law_is" ["_law_thing"] (spIs K) []
  size : Use P w K mg base CX0 3 "_law_any_size" ["_law_bag_here"] spSize []
  no : Use P w K mg base CX0 3 "_law_not_order" ["_law_bag_here"] (spNo K S) []
  refused : Use P w K mg base CX0 3 "_law_refused" ["_law_some", "_law_less"] (spRf K) []
  row : Use P w K mg base CX0 4 "_law_row" ["_law_bag_here", "_law_size"] (spRow K) []
  lik : Use P w K mg base CX0 6 "_law_like" ["_law_told", "_law_due"] (spLike K S 4) []
  flt : ∃ (fF : Addr) (fdF : FuncData), FnP P w K mg base C8.CX0 1 fF fdF ["_law_error"] (spFlt cs) ∧ Binds K fdF ["_law_error"] [] ∧ PySem.W.keepIn K (.ref fF) = true ∧ mg "_law_fault" = some (.ref fF)
  ask : ∃ (g : Addr) (fd : FuncData), Fun K "_law_ask" "_law_ask" L_ask g fd ∧ Binds K fd ["_law_deed"] [] ∧ mg "_law_ask" = some (.ref g)
  mC : mg "CreepError" = some (.ref CE)
  e1 : ∀ i, PySem.W.exmOne K (.ref (cs i)) (.ref CE) = some true
  mn : mg "len" = none
  mI : mg "isinstance" = none
  ml : mg "list" = none
  mt : mg "tuple" = none
  mi : mg "int" = none
  mb : mg "bool" = none
  mr : mg "range" = none
def spRs (K : PySem.W.Frag) (C : Addr) : Sp := fun vs H Q _ => ∃ (x y : V) (qs : List Rat), vs = [x, y] ∧ RwAt K C H x qs ∧ Ls K H y qs ∧ ∀ H', Same H H' → Q (.bl true) H'
def zrs (qs : List Rat) : List Bool := qs.map fun q => decide (q = 0)
theorem hgt_bad : ∀ (qs : List Rat) (f : Nat), hgtN qs f = badAt (zrs qs) f
  | [], _ => rfl
  | q :: qs, f => by
    show (if q = 0 then hgtN qs (f + 1) else some f) = if decide (q = 0) = true then badAt (zrs qs) (f + 1) else some f
    by_cases c : q = 0
    · rw [if_pos c, if_pos (decide_eq_true c), hgt_bad qs (f + 1)]
    · rw [if_neg c, if_neg (by rw [decide_eq_false c]; decide)]
theorem hgt_opt (qs : List Rat) : hgtV qs 0 = optV (badAt (zrs qs) 0) := by
  unfold hgtV
  rw [← hgt_bad]
  cases hgtN qs 0 with
  | none => rfl
  | some k => exact congrArg V.int (by omega)
theorem ixN0 {n : Nat} (h : 0 < n) : ixN n 0 = some 0 := by
  unfold ixN
  rw [if_pos (by decide), if_pos (by omega)]
  rfl
abbrev nRs : List Str := ["_law_u", "_law_a", "_law_spots", "_law_told", "_law_k"]
section
variable {P : Program} {w : World} {K : PySem.W.Frag} {mg : Str → Option Value} {base : Heap} {f C S CE : Addr} {cs : Fin 6 → Addr} {fd : FuncData}
end
end Kx
end
section
set_option maxHeartbeats 4000000
namespace Kx
open PySem PySem.Spec PyProof.Rows L2 RZ
/-- all stands but what lists hold, and the tables -/
def Wk (H H' : Hp) : Prop := ∀ b o, H b = some o → H' b = some o ∨ (∃ xs ys, o = .lst xs ∧ H' b = some (.lst ys)) ∨ ∃ ps, o = .tbl ps
theorem Wk.of {H H' : Hp} (s : Same H H') : Wk H H' := fun b o h => .inl (s b o h)
theorem Wk.trans {H H1 H2 : Hp} (a : Wk H H1) (c : Wk H1 H2) : Wk H H2 := fun b o h => by
  rcases a b o h with h1 | ⟨xs, ys, rfl, h1⟩ | h1
  · exact c b o h1
  · rcases c b _ h1 with h2 | ⟨zs, us, e, h2⟩ | ⟨ps, e⟩
    · exact .inr (.inl ⟨xs, ys, rfl, h2⟩)
    · exact .inr (.inl ⟨xs, us, rfl, h2⟩)
    · cases e
  · exact .inr (.inr h1)
theorem Wk.but {H H' : Hp} {B p : Addr} (b : Bag H B p) (b' : Bag H' B p) (u : But B H H') : Wk H H' := fun c o h => by
  by_cases e : c = B
  · subst e
    obtain ⟨_, _, _, _, _, h1, _⟩ := b.ex
    obtain ⟨_, _, _, _, _, h2, _⟩ := b'.ex
    rw [h1] at h
    exact .inr (.inl ⟨_, _, (Option.some.inj h).symm, h2⟩)
  · exact .inl (u c o e h)
theorem Wk.set {H : Hp} {a : Addr} {xs ys : List V} (h : H a = some (.lst xs)) : Wk H (upd H a (.lst ys)) := fun c o hc => by
  by_cases e : c = a
  · subst e
    rw [h] at hc
    exact .inr (.inl ⟨_, _, (Option.some.inj hc).symm, upd_same⟩)
  · exact .inl (by rw [upd_ne e]; exact hc)
theorem Wk.ext {H H' : Hp} (s : LamX.ExtN H H') : Wk H H' := fun c o h => by
  by_cases e : ∃ ps, o = .tbl ps
  · exact .inr (.inr e)
  · exact .inl (s c o h fun ps z => e ⟨ps, z⟩)
section
variable {K : PySem.W.Frag} {S : Addr} {H H' : Hp}
theorem Wk.tup {a : Addr} {xs : List V} (h : H a = some (.tup xs)) (s : Wk H H') : H' a = some (.tup xs) := by
  rcases s _ _ h with h1 | ⟨_, _, e, _⟩ | ⟨_, e⟩
  · exact h1
  · cases e
  · cases e
theorem Wk.ins {a C dx : Addr} {fs : List (Str × V)} (h : H a = some (.ins C dx fs)) (s : Wk H H') : H' a = some (.ins C dx fs) := by
  rcases s _ _ h with h1 | ⟨_, _, e, _⟩ | ⟨_, e⟩
  · exact h1
  · cases e
  · cases e
theorem Wk.lst {a : Addr} {xs : List V} (h : H a = some (.lst xs)) (s : Wk H H') : ∃ ys, H' a = some (.lst ys) := by
  rcases s _ _ h with h1 | ⟨_, _, e, h1⟩ | ⟨_, e⟩
  · exact ⟨_, h1⟩
  · exact ⟨_, h1⟩
  · cases e
theorem Nq.wk {v : V} {q : Rat} (h : Nq K H v q) (s : Wk H H') : Nq K H' v q := by
  obtain ⟨a, e, h⟩ := h
  exact ⟨a, e, h.imp (fun h => s.tup h) id⟩
theorem Nl.wk {xs : List V} {qs : List Rat} (h : Nl K H xs qs) (s : Wk H H') : Nl K H' xs qs := ⟨h.1, fun i x q h1 h2 => (h.2 i x q h1 h2).wk s⟩
theorem NI.wk {x : V} (h : NI H x) (s : Wk H H') : NI H' x := h.imp id (Or.imp id (Or.imp id fun ⟨a, ys, e, h1⟩ => ⟨a, ys, e, s.tup h1⟩))
/-- no fraction: what is seen of it whatever lists hold -/
inductive Fx (K : PySem.W.Frag) (S : Addr) (H : Hp) : V → Prop where
  | flat {v : V} (h : flatV v = true) : Fx K S H v
  | lst {a : Addr} {xs : List V} (h : H a = some (.lst xs)) : Fx K S H (.ref a)
  | len {a : Addr} {xs : List V} (h : H a = some (.tup xs)) (n : xs.length ≠ 2) : Fx K S H (.ref a)
  | one {a : Addr} {x y : V} (h : H a = some (.tup [x, y])) (n : NI H x) (m : NI H y ∨ ∃ i, y = .int i) : Fx K S H (.ref a)
  | two {a : Addr} {x y : V} (h : H a = some (.tup [x, y])) (n : ∃ i, x = .int i) (m : NI H y) : Fx K S H (.ref a)
  | bad {a : Addr} {u l : Int} (h : H a = some (.tup [.int u, .int l])) (n : (decide (1 ≤ l) && decide (Nat.gcd u.natAbs l.natAbs = 1)) = false) (m : l.natAbs < 100) : Fx K S H (.ref a)
  | st {x dx : Addr} {fs : List (Str × V)} (h : H x = some (.ins S dx fs)) : Fx K S H (.ref x)
theorem Fx.wk {v : V} (h : Fx K S H v) (s : Wk H H') : Fx K S H' v := by
  cases h with
  | flat h => exact .flat h
  | lst h => exact .lst (s.lst h).choose_spec
  | len h n => exact .len (s.tup h) n
  | one h n m => exact .one (s.tup h) (n.wk s) (m.imp (fun m => m.wk s) id)
  | two h n m => exact .two (s.tup h) n (m.wk s)
  | bad h n m => exact .bad (s.tup h) n m
  | st h => exact .st (s.ins h)
theorem NF.fx {v : V} (h : NF K S H v) : Fx K S H v := by
  cases h with
  | flat h => exact .flat h
  | lst h _ => exact .lst h
  | len h n => exact .len h n
  | one h n m => exact .one h n m
  | two h n m => exact .two h n m
  | bad h n m => exact .bad h n m
  | st h =>
    obtain ⟨x, dx, b, xs, x0, fv, sv, rfl, h1, _⟩ := h
    exact .st h1
theorem Nq.isB {v : V} {q : Rat} (h : Nq K H v q) (b : Bq 8000 q) : IsB K H v true := by
  obtain ⟨a, rfl, s, t⟩ := h.sq
  refine .inr (.inr ⟨a, _, _, true, true, rfl, s, t, wh_int _, wh_int _, .inr ⟨_, _, rfl, rfl, rfl, rfl, ?_, Nat.lt_trans (log_bd (n := 8000) b.2 (by decide)) (by decide)⟩⟩)
  have h1 : (1 : Int) ≤ ((q.den : Nat) : Int) := by have := q.den_nz; omega
  rw [decide_eq_true h1, Bool.true_and]
  symm
  exact decide_eq_true q.reduced
end
section
variable {P : Program} {w : World} {K : PySem.W.Frag} {mg : Str → Option Value} {base : Heap} {C S CF CO : Addr} {H H' : Hp}
theorem Fx.isB {v : V} (h : Fx K S H v) (k : StepK P w K mg base C S CF CO) : IsB K H v false := by
  cases h with
  | flat h =>
    obtain ⟨T, t, k1, _⟩ := flat_ty (K := K) (H := H) h
    exact .inl ⟨T, t, k1, rfl⟩
  | lst h => exact .inl ⟨_, .base (.lst h), kit_ty kb_l.2.1, rfl⟩
  | len h n => exact .inr (.inl ⟨_, _, rfl, SqT.of h, .base (.tup h), n, rfl⟩)
  | one h n m =>
    rcases m with m | ⟨i, rfl⟩
    · exact .inr (.inr ⟨_, _, _, false, false, rfl, SqT.of h, .base (.tup h), n.wh, m.wh, .inl ⟨rfl, rfl⟩⟩)
    · exact .inr (.inr ⟨_, _, _, false, true, rfl, SqT.of h, .base (.tup h), n.wh, wh_int i, .inl ⟨rfl, rfl⟩⟩)
  | two h n m =>
    obtain ⟨i, rfl⟩ := n
    exact .inr (.inr ⟨_, _, _, true, false, rfl, SqT.of h, .base (.tup h), wh_int i, m.wh, .inl ⟨rfl, rfl⟩⟩)
  | bad h n m => exact .inr (.inr ⟨_, _, _, true, true, rfl, SqT.of h, .base (.tup h), wh_int _, wh_int _, .inr ⟨_, _, rfl, rfl, rfl, rfl, n.symm, Nat.lt_trans (log_bd (n := 7) (by omega) (by decide)) (by decide)⟩⟩)
  | st h => exact .inl ⟨_, k.ty _ _ _ _ h, k.kB _ (by simp), rfl⟩
/-- an item of a drawn list: a fraction or not -/
def Im (K : PySem.W.Frag) (S : Addr) (H : Hp) (v : V) (r : Bool) : Prop := (r = true ∧ ∃ q, Nq K H v q ∧ Bq 21 q) ∨ (r = false ∧ Fx K S H v)
theorem Im.wk {v : V} {r : Bool} (h : Im K S H v r) (s : Wk H H') : Im K S H' v r := h.imp (fun ⟨e, q, n, b⟩ => ⟨e, q, n.wk s, b⟩) fun ⟨e, n⟩ => ⟨e, n.wk s⟩
theorem Im.isB {v : V} {r : Bool} (h : Im K S H v r) (k : StepK P w K mg base C S CF CO) : IsB K H v r := by
  rcases h with ⟨rfl, q, n, b⟩ | ⟨rfl, n⟩
  · exact n.isB (b.mono (by decide))
  · exact n.isB k
theorem Im.lw {v : V} {r : Bool} (h : Im K S H v r) (k : StepK P w K mg base C S CF CO) : LwI K H v r := fun H' s => (h.wk (.of s)).isB k
theorem Im.gs {v : V} {r : Bool} (h : Im K S H v r) (k : StepK P w K mg base C S CF CO) : IsGs K H v r := fun H' s => ((h.wk (.of s)).isB k).isG
/-- the items of a list -/
def Ims (K : PySem.W.Frag) (S : Addr) (H : Hp) (xs : List V) (rs : List Bool) : Prop := xs.length = rs.length ∧ ∀ (i : Nat) (x : V) (r : Bool), xs[i]? = some x → rs[i]? = some r → Im K S H x r
theorem Ims.wk {xs : List V} {rs : List Bool} (h : Ims K S H xs rs) (s : Wk H H') : Ims K S H' xs rs := ⟨h.1, fun i x r h1 h2 => (h.2 i x r h1 h2).wk s⟩
theorem Ims.its {xs : List V} {rs : List Bool} (h : Ims K S H xs rs) (k : StepK P w K mg base C S CF CO) : Its K H xs rs := ⟨h.1, fun i x r h1 h2 => (h.2 i x r h1 h2).gs k⟩
theorem Ims.set {xs : List V} {rs : List Bool} {v : V} {r : Bool} {j : Nat} (h : Ims K S H xs rs) (hv : Im K S H v r) : Ims K S H (xs.set j v) (rs.set j r) := by
  refine ⟨by rw [List.length_set, List.length_set]; exact h.1, fun i x b h1 h2 => ?_⟩
  by_cases e : j = i
  · subst e
    by_cases l : j < xs.length
    · rw [List.getElem?_set_self l] at h1
      rw [List.getElem?_set_self (by have := h.1; omega)] at h2
      rw [← Option.some.inj h1, ← Option.some.inj h2]
      exact hv
    · rw [List.getElem?_eq_none (by rw [List.length_set]; omega)] at h1
      cases h1
  · rw [List.getElem?_set_ne e] at h1 h2
    exact h.2 i x b h1 h2
theorem Nl.ims {xs : List V} {qs : List Rat} (h : Nl K H xs qs) (b : AllB 21 qs) : Ims K S H xs (List.replicate qs.length true) := by
  refine ⟨by rw [h.1, List.length_replicate], fun i x r h1 h2 => ?_⟩
  obtain ⟨q, hq, n⟩ := h.get h1
  rw [List.getElem?_replicate] at h2
  split at h2
  · rw [← Option.some.inj h2]
    exact .inl ⟨rfl, q, n, b q (List.mem_of_getElem? hq)⟩
  · cases h2
theorem Ims.nl : ∀ {xs : List V} {rs : List Bool} {i : Nat}, Ims K S H xs rs → badAt rs i = none → ∃ qs, Nl K H xs qs
  | [], _, _, _, _ => ⟨[], Nl.nil⟩
  | x :: xs, [], _, h, _ => by cases h.1
  | x :: xs, false :: rs, i, _, hb => by cases hb
  | x :: xs, true :: rs, i, h, hb => by
    obtain ⟨qs, n⟩ := Ims.nl (xs := xs) (rs := rs) (i := i + 1) ⟨Nat.succ.inj h.1, fun j y r h1 h2 => h.2 (j + 1) y r h1 h2⟩ hb
    rcases h.2 0 x true rfl rfl with ⟨_, q, nq, _⟩ | ⟨e, _⟩
    · exact ⟨q :: qs, Nl.cons nq n⟩
    · cases e
/-- what list gives -/
def LiD (K : PySem.W.Frag) (S : Addr) (H0 H : Hp) (v : V) : Prop := (flatV v = true ∨ ∃ x dx fs, v = .ref x ∧ H x = some (.ins S dx fs)) ∨
  ∃ (a : Addr) (xs : List V), v = .ref a ∧ SqH H a xs ∧ xs.length ≤ 60 ∧ ((xs.length < 3 ∨ 25 < xs.length) ∨ (3 ≤ xs.length ∧ xs.length ≤ 25 ∧ H0 a = none ∧ ∃ rs, Ims K S H xs rs))
def spLi (K : PySem.W.Frag) (S : Addr) : Sp := fun vs H Q _ => ∃ B p : Addr, vs = [.ref B] ∧ Bag H B p ∧ ∀ H' v, Bag H' B p → But B H H' → LiD K S H H' v → Q v H'
end
end Kx
end
section
set_option maxHeartbeats 4000000
namespace Kx
open PySem PySem.Spec PyProof.Rows L2 RZ
theorem Bag.upd {H : Hp} {B p a : Addr} {o : HO} (b : Bag H B p) (h1 : a ≠ B) (h2 : a ≠ p) : Bag (upd H a o) B p := by
  obtain ⟨ns, i, r, sd, c, e1, e2, e3⟩ := b.ex
  exact ⟨ns, i, r, sd, c, by rw [upd_ne (Ne.symm h1)]; exact e1, by rw [upd_ne (Ne.symm h2)]; exact e2, e3⟩
/-- a short value -/
def Sm (K : PySem.W.Frag) (S : Addr) (H : Hp) (v : V) : Prop := flatV v = true ∨ (∃ qs, StAt K S H v qs) ∨ (∃ a xs, v = .ref a ∧ H a = some (.lst xs) ∧ xs.length ≤ 2) ∨ ∃ a xs, v = .ref a ∧ H a = some (.tup xs) ∧ xs.length ≤ 2
theorem Sm.go {K : PySem.W.Frag} {S B p : Addr} {H H' : Hp} {v : V} (h : Sm K S H v) (b : Bag H B p) (s : Go B H H') : Sm K S H' v := by
  rcases h with h | ⟨qs, h⟩ | ⟨a, xs, e, h, l⟩ | ⟨a, xs, e, h, l⟩
  · exact .inl h
  · exact .inr (.inl ⟨qs, h.go b s⟩)
  · exact .inr (.inr (.inl ⟨a, xs, e, lst_go h (by omega) b s, l⟩))
  · exact .inr (.inr (.inr ⟨a, xs, e, tup_go h b s, l⟩))
theorem Sm.same {K : PySem.W.Frag} {S : Addr} {H H' : Hp} {v : V} (h : Sm K S H v) (s : Same H H') : Sm K S H' v := by
  rcases h with h | ⟨qs, h⟩ | ⟨a, xs, e, h, l⟩ | ⟨a, xs, e, h, l⟩
  · exact .inl h
  · exact .inr (.inl ⟨qs, h.same s⟩)
  · exact .inr (.inr (.inl ⟨a, xs, e, s _ _ h, l⟩))
  · exact .inr (.inr (.inr ⟨a, xs, e, s _ _ h, l⟩))
theorem Sm.li {K : PySem.W.Frag} {S : Addr} {H0 H : Hp} {v : V} (h : Sm K S H v) : LiD K S H0 H v := by
  rcases h with h | ⟨qs, x, dx, b, xs, x0, fv, sv, e, h, _⟩ | ⟨a, xs, e, h, l⟩ | ⟨a, xs, e, h, l⟩
  · exact .inl (.inl h)
  · exact .inl (.inr ⟨x, dx, _, e, h⟩)
  · exact .inr ⟨a, xs, e, .inl h, by omega, .inl (.inl (by omega))⟩
  · exact .inr ⟨a, xs, e, .inr h, by omega, .inl (.inl (by omega))⟩
abbrev nLi : List Str := ["_law_bag_here", "_law_pick", "_law_size", "_law_some", "_law_k"]
section
variable {P : Program} {w : World} {K : PySem.W.Frag} {mg : Str → Option Value} {base : Heap} {f C S CF CO pS gS : Addr} {mc : Value} {fd fdS : FuncData}
theorem scLi : FnScope nLi ["_law_bag_here"] (defScope L_list) := ⟨rfl, rfl, rfl, by decide +kernel, rfl, by decide +kernel, by decide +kernel⟩
theorem ok_list (F : Fun K "_law_list" "_law_list" L_list f fd) (k : StepK P w K mg base C S CF CO) (rS : ClX.CRead K S mc) (cS : CSta K S mc "still" pS gS) (FS : FnOk P w K mg base CX0 8 gS fdS ["order"] (spStil K S)) (bS : Binds K fdS ["order"] [])
    (UD : Use P w K mg base CX0 1 "_law_draw" ["_law_bag_here", "_law_limit"] spDraw []) (UO : Use P w K mg base CX0 2 "_law_of" ["_law_bag_here", "_law_things"] spOfL []) (UZ : Use P w K mg base CX0 3 "_law_any_size" ["_law_bag_here"] spSize [])
    (UN : Use P w K mg base CX0 3 "_law_number" ["_law_bag_here"] (spNum K) []) (UX : Use P w K mg base CX0 9 "_law_odd" ["_law_bag_here"] (spOdd K S) []) (mr : mg "range" = none) (mt : mg "tuple" = none) : FnOk P w K mg base CX0 10 f fd ["_law_bag_here"] (spLi K S) := by
  refine F.ok scLi (fun vs H Q E h => ?_) (fun cdv A outer s H vs Q E hr h => ?_)
  · obtain ⟨B, p, rfl, _⟩ := h
    rfl
  obtain ⟨B, p, rfl, hb, q⟩ := h
  have hr1 := hr.mono (show 1 ≤ 9 by decide)
  have hr2 := hr.mono (show 2 ≤ 9 by decide)
  have hr3 := hr.mono (show 3 ≤ 9 by decide)
  have hr8 := hr.mono (show 8 ≤ 9 by decide)
  refine ⟨_, C8.pss_cut (ps_set (i := 1) scLi.nd rfl (Or.inl rfl) (pe_use UD hr1 rfl pass0 (pa_cons (pv 0) (pa_cons pe_int pa_nil))))
    (C8.pss_cut (ps_if (pt_cmpR op_eq (pv 1) pe_int (nomark _)) (pss_one (ps_ret (pe_use UO hr2 rfl pass0 (pa_cons (pv 0) (pa_cons (pe_lst (pa_cons pe_non (pa_cons pe_bl (pa_cons pe_int (pa_cons pe_str (pa_cons pe_str (pa_cons pe_str (pa_cons (pe_static (C8.pe_gc (v := .ref S) rfl ⟨_, k.m, rfl⟩) rS cS FS hr8 bS pass0 (pa_cons pe_int pa_nil))
        (pa_cons (pe_tup (pa_cons pe_int (pa_cons pe_int pa_nil))) (pa_cons (pe_tup (pa_cons pe_int (pa_cons pe_int pa_nil))) (pa_cons (pe_lst pa_nil) (pa_cons (pe_tup pa_nil) (pa_cons (pe_lst (pa_cons (pe_lst pa_nil) pa_nil)) (pa_cons (pe_tup (pa_cons (pe_tup (pa_cons pe_int (pa_cons pe_int pa_nil))) (pa_cons (pe_tup (pa_cons pe_int (pa_cons pe_int pa_nil))) pa_nil))) pa_nil)))))))))))))) pa_nil))))) pss_nil)
    (C8.pss_cut (ps_set (i := 2) scLi.nd rfl (Or.inl rfl) (pe_ifExp (pt_cmpR op_lt (pv 1) pe_int (nomark _)) (pe_use UZ hr3 rfl pass0 (pa_cons (pv 0) pa_nil)) (pe_use UO hr2 rfl pass0 (pa_cons (pv 0) (pa_cons (pe_lst (pa_cons pe_int (pa_cons pe_int (pa_cons pe_int (pa_cons pe_int (pa_cons pe_int (pa_cons pe_int (pa_cons pe_int (pa_cons pe_int pa_nil))))))))) pa_nil)))))
    (C8.pss_cut (ps_setLc (i := 3) (own := [("_law_k", 4)]) (g := gName 4) (tt := tYes) rfl scLi.nd rfl rfl (sw_true rfl rfl rfl (by decide +kernel)) (pi_range1 rfl mr (pa_cons (pv 2) pa_nil)) (blkOk_by (N := nLi) (sc := defScope L_list) (by decide +kernel)) (fun _ _ _ _ _ => pg_name (i := 4) scLi.nd rfl (Or.inl rfl)) (fun _ _ _ _ _ => pts_nil) (fun _ _ _ _ _ => pe_use UN hr3 rfl pass0 (pa_cons (pv 0) pa_nil)))
    (C8.pss_cut (ps_if (PW.pt (pw_and (pt_cmpR (op_neD hr.units) (pv 3) (pe_lst pa_nil) (nomark _)) (pw_and1 (pt_cmpR op_gt (pe_use UD hr1 rfl pass0 (pa_cons (pv 0) (pa_cons pe_int pa_nil))) pe_int (nomark _)))))
        (pss_one (ps_for PassesOwn.never rfl (pi_range1 rfl mr (pa_cons (pe_op op_add pe_int (pe_use UD hr1 rfl pass0 (pa_cons (pv 0) (pa_cons pe_int pa_nil)))) pa_nil)) (pg_name (i := 4) scLi.nd rfl (Or.inl rfl))
          (pss_one (ps_asg (pe_use UX hr rfl pass0 (pa_cons (pv 0) pa_nil)) (pg_sub (pv 3) (pe_use UD hr1 rfl pass0 (pa_cons (pv 0) (pa_cons (pv 2) pa_nil))) set_list))))) pss_nil)
    (pss_one (ps_ret (pe_ifExp (pt_cmpR op_eq (pe_use UD hr1 rfl pass0 (pa_cons (pv 0) (pa_cons pe_int pa_nil))) pe_int (nomark _)) (pe_callTy call_tuple_of rfl mt (by decide +kernel) (pa_cons (pv 3) pa_nil)) (pv 3)))))))), ?_⟩
  refine ⟨fun σ H1 => ∃ kk : Int, σ = [some (.ref B), some (.int kk), none, none, none] ∧ Bag H1 B p ∧ But B H H1, ?_, ?_⟩
  · exact ⟨_, rfl, B, p, 9, rfl, by decide, by decide, hb, fun H1 kk b1 u1 _ _ => ⟨kk, rfl, b1, u1⟩⟩
  rintro σ H1 ⟨kk, rfl, b1, u1⟩
  refine ⟨fun σ H2 => σ = [some (.ref B), some (.int kk), none, none, none] ∧ Bag H2 B p ∧ But B H H2, ?_, ?_⟩
  · refine ⟨_, rfl, rfl, _, rfl, ite2 (fun _ => ?_) (fun _ => ⟨rfl, b1, u1⟩)⟩
    refine ⟨_, rfl, rfl, 3, rfl, by decide, by decide, fun G0 y0 s0 h0 => ?_⟩
    refine ⟨(by show 2 ≤ sizeLine; decide), fun t1 n1 => ?_⟩
    have s1 := new_same n1 (HO.tup [.int 1, .int 2])
    have h1 : (upd G0 t1 (HO.tup [.int 1, .int 2])) t1 = some (HO.tup [.int 1, .int 2]) := upd_same
    generalize upd G0 t1 (HO.tup [.int 1, .int 2]) = G1 at s1 h1 ⊢
    refine ⟨(by show 2 ≤ sizeLine; decide), fun t2 n2 => ?_⟩
    have s2 := new_same n2 (HO.tup [.int 1, .int 1])
    have h2 : (upd G1 t2 (HO.tup [.int 1, .int 1])) t2 = some (HO.tup [.int 1, .int 1]) := upd_same
    generalize upd G1 t2 (HO.tup [.int 1, .int 1]) = G2 at s2 h2 ⊢
    refine ⟨(by show 0 ≤ sizeLine; decide), fun t3 n3 => ?_⟩
    have s3 := new_same n3 (HO.lst [])
    have h3 : (upd G2 t3 (HO.lst [])) t3 = some (HO.lst []) := upd_same
    generalize upd G2 t3 (HO.lst []) = G3 at s3 h3 ⊢
    refine ⟨(by show 0 ≤ sizeLine; decide), fun t4 n4 => ?_⟩
    have s4 := new_same n4 (HO.tup [])
    have h4 : (upd G3 t4 (HO.tup [])) t4 = some (HO.tup []) := upd_same
    generalize upd G3 t4 (HO.tup []) = G4 at s4 h4 ⊢
    refine ⟨(by show 0 ≤ sizeLine; decide), fun t5 n5 => ?_⟩
    have s5 := new_same n5 (HO.lst [])
    generalize upd G4 t5 (HO.lst []) = G5 at s5 ⊢
    refine ⟨(by show 1 ≤ sizeLine; decide), fun t6 n6 => ?_⟩
    have s6 := new_same n6 (HO.lst [V.ref t5])
    have h6 : (upd G5 t6 (HO.lst [V.ref t5])) t6 = some (HO.lst [V.ref t5]) := upd_same
    generalize upd G5 t6 (HO.lst [V.ref t5]) = G6 at s6 h6 ⊢
    refine ⟨(by show 2 ≤ sizeLine; decide), fun t7 n7 => ?_⟩
    have s7 := new_same n7 (HO.tup [.int 1, .int 2])
    generalize upd G6 t7 (HO.tup [.int 1, .int 2]) = G7 at s7 ⊢
    refine ⟨(by show 2 ≤ sizeLine; decide), fun t8 n8 => ?_⟩
    have s8 := new_same n8 (HO.tup [.int 1, .int 3])
    generalize upd G7 t8 (HO.tup [.int 1, .int 3]) = G8 at s8 ⊢
    refine ⟨(by show 2 ≤ sizeLine; decide), fun t9 n9 => ?_⟩
    have s9 := new_same n9 (HO.tup [V.ref t7, V.ref t8])
    have h9 : (upd G8 t9 (HO.tup [V.ref t7, V.ref t8])) t9 = some (HO.tup [V.ref t7, V.ref t8]) := upd_same
    generalize upd G8 t9 (HO.tup [V.ref t7, V.ref t8]) = G9 at s9 h9 ⊢
    refine ⟨(by show 13 ≤ sizeLine; decide), fun L nL => ?_⟩
    have z6 := (s7.trans s8).trans s9
    have z4 := (s5.trans s6).trans z6
    have z3 := s4.trans z4
    have z2 := s3.trans z3
    have z1 := s2.trans z2
    have z0 := s1.trans z1
    have bG := b1.same (s0.trans z0)
    refine ⟨B, p, L, _, rfl, upd_same, (bG.at nL).1, (by show 0 < 13; decide), (by show 13 ≤ 1000; decide), bG.put nL, fun H2 x b2 u2 hx => ?_⟩
    have uu : But B H H2 := u1.trans ((But.same (s0.trans z0)).trans ((But.new nL).trans u2))
    have fin : Sm K S G9 x → Q x H2 := fun h => q H2 x b2 uu (((h.same (new_same nL _)).go (bG.put nL) (Go.of u2)).li)
    simp only [List.mem_cons, List.not_mem_nil, or_false] at hx
    rcases hx with rfl | rfl | rfl | rfl | rfl | rfl | rfl | rfl | rfl | rfl | rfl | rfl | rfl
    · exact fin (.inl rfl)
    · exact fin (.inl rfl)
    · exact fin (.inl rfl)
    · exact fin (.inl rfl)
    · exact fin (.inl rfl)
    · exact fin (.inl rfl)
    · exact fin (.inr (.inl ⟨_, h0.same z0⟩))
    · exact fin (.inr (.inr (.inr ⟨_, _, rfl, z1 _ _ h1, by decide⟩)))
    · exact fin (.inr (.inr (.inr ⟨_, _, rfl, z2 _ _ h2, by decide⟩)))
    · exact fin (.inr (.inr (.inl ⟨_, _, rfl, z3 _ _ h3, by decide⟩)))
    · exact fin (.inr (.inr (.inr ⟨_, _, rfl, z4 _ _ h4, by decide⟩)))
    · exact fin (.inr (.inr (.inl ⟨_, _, rfl, z6 _ _ h6, (by show 1 ≤ 2; decide)⟩)))
    · exact fin (.inr (.inr (.inr ⟨_, _, rfl, h9, (by show 2 ≤ 2; decide)⟩)))
  clear b1 u1
  rintro σ H2 ⟨rfl, b2, u2⟩
  refine ⟨fun σ H3 => ∃ n : Nat, σ = [some (.ref B), some (.int kk), some (.int (n : Nat)), none, none] ∧ n ≤ 27 ∧ Bag H3 B p ∧ But B H H3, ?_, ?_⟩
  · refine ⟨_, rfl, kk, 6, rfl, rfl, _, rfl, ite2 (fun _ => ?_) (fun _ => ?_)⟩
    · exact ⟨_, rfl, B, p, rfl, b2, fun H3 n b3 u3 _ n24 => ⟨n, rfl, by omega, b3, u2.trans u3⟩⟩
    · refine ⟨_, rfl, (by show 8 ≤ sizeLine; decide), fun L nL => ⟨B, p, L, _, rfl, upd_same, (b2.at nL).1, (by show 0 < 8; decide), (by show 8 ≤ 1000; decide), b2.put nL, fun H3 x b3 u3 hx => ?_⟩⟩
      have uu : But B H H3 := u2.trans ((But.new nL).trans u3)
      obtain ⟨n, rfl, hn⟩ : ∃ n : Nat, x = .int (n : Nat) ∧ n ≤ 27 := by
        simp only [List.mem_cons, List.not_mem_nil, or_false] at hx
        rcases hx with rfl | rfl | rfl | rfl | rfl | rfl | rfl | rfl
        · exact ⟨0, rfl, by decide⟩
        · exact ⟨1, rfl, by decide⟩
        · exact ⟨2, rfl, by decide⟩
        · exact ⟨3, rfl, by decide⟩
        · exact ⟨24, rfl, by decide⟩
        · exact ⟨25, rfl, by decide⟩
        · exact ⟨26, rfl, by decide⟩
        · exact ⟨27, rfl, by decide⟩
      exact ⟨n, rfl, hn, b3, uu⟩
  clear b2 u2
  rintro σ H3 ⟨n, rfl, hn, b3, u3⟩
  refine ⟨fun σ H4 => ∃ (D : Addr) (xs : List V) (qs : List Rat), σ = [some (.ref B), some (.int kk), some (.int (n : Nat)), some (.ref D), none] ∧ Bag H4 B p ∧ But B H H4 ∧ H D = none ∧ D ≠ B ∧ D ≠ p ∧ H4 D = some (.lst xs) ∧ Nl K H4 xs qs ∧ qs.length = n ∧ AllB 21 qs, ?_, ?_⟩
  · refine ⟨_, rfl, _, rfl, by omega, by omega, fun D nD => ?_⟩
    have DB := b3.at nD
    have nD0 : H D = none := u3.free b3 nD
    refine lc_range (lo := 0) (n := ((n : Nat) : Int).toNat) (fun i H' => Bag H' B p ∧ But B H3 H' ∧ ∃ xs qs, H' D = some (.lst xs) ∧ Nl K H' xs qs ∧ qs.length = i ∧ AllB 21 qs) ⟨b3.put nD, But.new nD, [], [], upd_same, Nl.nil, rfl, fun _ h => nomatch h⟩ ?_ ?_
    · rintro i H' hi ⟨b', u', xs, qs, hD, nx, ql, bq⟩
      have xl : xs.length = i := by rw [nx.1, ql]
      refine ⟨rfl, yesT ⟨_, rfl, B, p, rfl, b', fun H5 v q b5 u5 nv bv => ?_⟩⟩
      have hD5 := u5 _ _ DB.1 hD
      refine ⟨xs, hD5, small1000 (by omega), b5.upd DB.1 DB.2, ?_, xs ++ [v], qs ++ [q], upd_same, ?_, by rw [List.length_append, ql]; rfl, ?_⟩
      · intro b o hb he
        rw [upd_ne (fun z => by rw [z, nD] at he; cases he)]
        exact u5 _ _ hb (u' _ _ hb he)
      · exact ((nx.go b' (Go.of u5)).snoc nv).wk (.set hD5)
      · intro r hr
        rcases List.mem_append.mp hr with hr | hr
        · exact bq r hr
        · rw [List.mem_singleton.mp hr]
          exact bv
    · rintro H' ⟨b', u', xs, qs, hD, nx, ql, bq⟩
      exact ⟨D, xs, qs, rfl, b', u3.trans u', nD0, DB.1, DB.2, hD, nx, by omega, bq⟩
  clear b3 u3
  rintro σ H4 ⟨D, xs, qs, rfl, b4, u4, nD, DB, Dp, hD, nx, ql, bq⟩
  refine ⟨fun σ H5 => ∃ (xs : List V) (rs : List Bool) (v4 : Option V), σ = [some (.ref B), some (.int kk), some (.int (n : Nat)), some (.ref D), v4] ∧ Bag H5 B p ∧ But B H H5 ∧ H5 D = some (.lst xs) ∧ Ims K S H5 xs rs ∧ xs.length = n, ?_, ?_⟩
  · refine ⟨_, rfl, (by show 0 ≤ sizeLine; decide), fun e ne => ?_⟩
    have s5 := new_same ne (HO.lst [])
    have b5 := b4.same s5
    have u5 := u4.trans (But.same s5)
    have hD5 := s5 _ _ hD
    have I5 := (nx.ims (S := S) bq).wk (.of s5)
    refine ⟨datL qs, .list [], (nx.same s5).dp hD5, .lst (SqL.of upd_same) .nil, shaped_list _, rfl, _, rfl, ?_⟩
    generalize upd H4 e (.lst []) = H5 at b5 u5 hD5 I5
    have xl : xs.length = n := by rw [nx.1, ql]
    refine ite2 (fun hne => ?_) (fun _ => ?_)
    · refine ⟨_, rfl, B, p, 3, rfl, by decide, by decide, b5, fun H6 c b6 u6 _ _ => ⟨c, 0, rfl, rfl, _, rfl, ?_⟩⟩
      have I6 := I5.wk (.but b5 b6 u6)
      have hD6 := u6 _ _ DB hD5
      have u6' := u5.trans u6
      refine ite2 (fun _ => ?_) (fun _ => ⟨xs, _, none, rfl, b6, u6', hD6, I6, xl⟩)
      refine ⟨_, rfl, B, p, 2, rfl, by decide, by decide, b6, fun H7 c2 b7 u7 c0 c1 => ⟨1, c2, rfl, rfl, _, rfl, by omega, by omega, ?_⟩⟩
      have n0 : 0 < n := by
        rcases Nat.eq_zero_or_pos n with e0 | e0
        · exfalso
          have : qs = [] := List.eq_nil_of_length_eq_zero (by rw [ql]; exact e0)
          subst this
          exact absurd hne (by decide)
        · exact e0
      refine for_range (lo := 0) (n := (1 + c2).toNat) (fun i σ H8 => ∃ (xs : List V) (rs : List Bool) (v4 : Option V), σ = [some (.ref B), some (.int kk), some (.int (n : Nat)), some (.ref D), v4] ∧ Bag H8 B p ∧ But B H H8 ∧ H8 D = some (.lst xs) ∧ Ims K S H8 xs rs ∧ xs.length = n)
        ⟨xs, _, none, rfl, b7, u6'.trans u7, u7 _ _ DB hD6, I6.wk (.but b6 b7 u7), xl⟩ ?_ (fun σ H8 h => h)
      rintro i σ H8 hi ⟨ys, rs, v4, rfl, b8, u8, hD8, I8, yl⟩
      refine ⟨_, rfl, B, p, rfl, b8, fun H9 v b9 u9 ov => ?_⟩
      have hD9 := u9 _ _ DB hD8
      refine ⟨_, rfl, _, rfl, _, rfl, B, p, n, rfl, by omega, by omega, b9, fun H10 j b10 u10 j0 j1 => ?_⟩
      have hD10 := u10 _ _ DB hD9
      have w9 := Wk.but b8 b9 u9
      have w10 := Wk.but b9 b10 u10
      have W := (Wk.set (ys := ys.set j.toNat v) hD10)
      refine ⟨D, ys, j, j.toNat, rfl, rfl, hD10, ?_, ?_⟩
      · unfold ixN
        rw [if_pos j0, if_pos (by omega)]
      · refine ⟨ys.set j.toNat v, rs.set j.toNat false, _, rfl, b10.upd DB Dp, fun b o hb he => ?_, upd_same, ?_, by rw [List.length_set]; exact yl⟩
        · rw [upd_ne (fun z => by rw [z, nD] at he; cases he)]
          exact (u8.trans (u9.trans u10)) b o hb he
        · exact ((I8.wk (w9.trans w10)).set (.inr ⟨rfl, ov.2.fx.wk w10⟩)).wk W
    · exact ⟨xs, _, none, rfl, b5, u5, hD5, I5, xl⟩
  clear b4 u4 hD nx ql bq
  rintro σ H5 ⟨ys, rs, v4, rfl, b5, u5, hD5, I5, yl⟩
  refine ⟨_, rfl, B, p, 3, rfl, by decide, by decide, b5, fun H6 c b6 u6 _ _ => ?_⟩
  have I6 := I5.wk (.but b5 b6 u6)
  have hD6 := u6 _ _ DB hD5
  have u6' := u5.trans u6
  refine ⟨rfl, _, rfl, ite2 (fun _ => ?_) (fun _ => ?_)⟩
  · refine ⟨_, rfl, D, ys, rfl, .inl ⟨SqL.of hD6, fun t nt => ?_⟩⟩
    have s7 := new_same nt (HO.tup ys)
    refine q _ _ (b6.put nt) (u6'.trans (But.new nt)) (.inr ⟨t, ys, rfl, .inr upd_same, by omega, ?_⟩)
    by_cases l : ys.length < 3 ∨ 25 < ys.length
    · exact .inl l
    · exact .inr ⟨by omega, by omega, u6'.free b6 nt, rs, I6.wk (.of s7)⟩
  · refine ⟨_, rfl, q _ _ b6 u6' (.inr ⟨D, ys, rfl, .inl hD6, by omega, ?_⟩)⟩
    by_cases l : ys.length < 3 ∨ 25 < ys.length
    · exact .inl l
    · exact .inr ⟨by omega, by omega, nD, rs, I6⟩
end
end Kx
end
section
set_option maxHeartbeats 4000000
namespace Kx
open PySem PySem.Spec PyProof.Rows L2 RZ
section
variable {P : Program} {w : World} {K : PySem.W.Frag} {mg : Str → Option Value} {base : Heap} {f C CF CO CN o0 : Addr} {fd : FuncData}
end
end Kx
end
section
set_option maxHeartbeats 4000000
namespace Kx
open PySem PySem.Spec PyProof.Rows L2 RZ
/-! ### the methods of steps -/
section
variable (K : PySem.W.Frag) (C S : Addr)
/-- a new step comes back -/
def GivesS (H : Hp) (Q : VK) (rs : List Rat) : Prop := ∀ H' y, Same H H' → StAt K S H' y rs → Q y H'
def spNuS : Sp := fun vs H Q _ => ∃ (x : V) (qs : List Rat), vs = [x] ∧ StAt K S H x qs ∧ GivesL K H Q qs
def spNmS (CP : Addr) : Sp := fun vs H Q E => ∃ (x v : V) (qs : List Rat) (r : Bool), vs = [x, v] ∧ StAt K S H x qs ∧ InR K H v 1 (qs.length : Int) r ∧ (r = false → Air H CP (fs1 "InvalidPlace" "value" [v]) E) ∧
  (r = true → ∀ (j : Nat) (y : V) (q : Rat), v = .int ((j : Nat) + 1) → qs[j]? = some q → Nq K H y q → Q y H)
def spCuS (CO CL : Addr) : Sp := fun vs H Q E => ∃ (x v : V) (qs : List Rat) (r : Bool), vs = [x, v] ∧ StAt K S H x qs ∧ InR K H v 2 24 r ∧ (r = false → Air H CO (fs1 "InvalidOrder" "value" [v]) E) ∧
  (r = true → ∀ i : Int, v = .int i → ((qs.length : Int) < i → Air H CL (fs2 "OrderTooLow" "have" "wanted" [.int (qs.length : Int), .int i]) E) ∧ (i ≤ (qs.length : Int) → GivesS K S H Q (qs.take i.toNat)))
def spArS : Sp := fun vs H Q _ => ∃ (x : V) (qs : List Rat), vs = [x] ∧ StAt K S H x qs ∧ GivesR K C H Q (0 :: qs)
def spLeS : Sp := fun vs H Q _ => ∃ (x : V) (qs : List Rat), vs = [x] ∧ StAt K S H x qs ∧ Q (.int (qs.length : Nat)) H
end
section
variable {P : Program} {w : World} {K : PySem.W.Frag} {mg : Str → Option Value} {base : Heap} {f C S CF CO CN CP CL CU o0 : Addr} {fd : FuncData}
theorem StAt.num {H : Hp} {v : V} {qs : List Rat} (h : StAt K S H v qs) : ∃ (x dx b : Addr) (xs : List V) (fs : List (Str × V)), v = .ref x ∧ H x = some (.ins S dx fs) ∧ H b = some (.lst xs) ∧ Nl K H xs qs ∧ fs.lookup ("_numbers" : Str) = some (.ref b) ∧ fs.lookup ("order" : Str) = some (.int (qs.length : Int)) ∧ 2 ≤ qs.length ∧ qs.length ≤ 24 := by
  obtain ⟨x, dx, b, xs, x0, fv, sv, e, h1, h2, h3, _, h5, h6⟩ := h
  exact ⟨x, dx, b, xs, _, e, h1, h2, h3, rfl, rfl, h5, h6⟩
theorem scSNu : FnScope ["self"] ["self"] (defScope C_Step_numbers) := ⟨rfl, rfl, rfl, by decide +kernel, rfl, by decide +kernel, by decide +kernel⟩
theorem ok_snumbers (G : Fun K "numbers" "Step.numbers" C_Step_numbers f fd) (k : StepK P w K mg base C S CF CO) (ml : mg "list" = none) : FnOk P w K mg base CX0 1 f fd ["self"] (spNuS K S) := by
  refine G.ok scSNu (fun vs H Q E h => ?_) (fun cdv A outer s H vs Q E hr h => ?_)
  · obtain ⟨x, qs, rfl, _⟩ := h
    rfl
  obtain ⟨v, qs, rfl, hR, q⟩ := h
  obtain ⟨x, dx, b, xs, fs, rfl, hx, hb, nx, f1, f2, _⟩ := hR.num
  refine ⟨_, pss_one (ps_ret (pe_callTy call_list_of rfl ml (by decide +kernel) (pa_cons (pe_fld (pv 0) rfl) pa_nil))), ?_⟩
  exact ⟨_, rfl, x, S, dx, _, _, rfl, hx, k.c, k.nA _ (by simp [stN]), f1, b, xs, rfl, .inl (SqL.of hb), fun l nl => q l _ xs (new_same nl _) nl upd_same (nx.same (new_same nl _))⟩
theorem scSLe : FnScope ["self"] ["self"] (defScope C_Step_len) := ⟨rfl, rfl, rfl, by decide +kernel, rfl, by decide +kernel, by decide +kernel⟩
theorem ok_slen (G : Fun K "__len__" "Step.__len__" C_Step_len f fd) (k : StepK P w K mg base C S CF CO) (mn : mg "len" = none) : FnOk P w K mg base CX0 1 f fd ["self"] (spLeS K S) := by
  refine G.ok scSLe (fun vs H Q E h => ?_) (fun cdv A outer s H vs Q E hr h => ?_)
  · obtain ⟨x, qs, rfl, _⟩ := h
    rfl
  obtain ⟨v, qs, rfl, hR, q⟩ := h
  obtain ⟨x, dx, b, xs, fs, rfl, hx, hb, nx, f1, f2, _⟩ := hR.num
  refine ⟨_, pss_one (ps_ret (pe_callB call_len_seq rfl mn PySem.boot_len (pa_cons (pe_fld (pv 0) rfl) pa_nil))), ?_⟩
  refine ⟨_, rfl, x, S, dx, _, _, rfl, hx, k.c, k.nA _ (by simp [stN]), f1, b, xs, rfl, .inl (SqL.of hb), ?_⟩
  rw [nx.1]
  exact q
theorem scSNm : FnScope ["self", "place"] ["self", "place"] (defScope C_Step_number) := ⟨rfl, rfl, rfl, by decide +kernel, rfl, by decide +kernel, by decide +kernel⟩
theorem ok_snumber (G : Fun K "number" "Step.number" C_Step_number f fd) (k : StepK P w K mg base C S CF CO) (UP : Use P w K mg base (L2.CX P w) 3 "check_place" ["place", "first", "last"] (spCp K CP) []) : FnOk P w K mg base (L2.CX P w) 4 f fd ["self", "place"] (spNmS K S CP) := by
  refine G.okX scSNm (fun vs H Q E h => ?_) (fun cdv A outer s H vs Q E hr h => ?_)
  · obtain ⟨x, v, qs, r, rfl, _⟩ := h
    rfl
  obtain ⟨y, v, qs, r, rfl, hR, hin, h1, h2⟩ := h
  obtain ⟨x, dx, b, xs, fs, rfl, hx, hb, nx, f1, f2, _⟩ := hR.num
  refine ⟨_, pss_cons (ps_expr (pe_use (E := E) UP hr rfl (passes_call (takes_of rfl rfl rfl rfl) (fun _ _ _ _ h => h)) (pa_cons (pv 1) (pa_cons pe_int (pa_cons (pe_fld (pv 0) rfl) pa_nil)))))
    (pss_one (ps_ret (pe_ix ix_list (pe_fld (pv 0) rfl) (pe_op op_sub (pv 1) pe_int) (fun _ _ => rfl)))), ?_⟩
  refine ⟨_, rfl, _, rfl, x, S, dx, _, _, rfl, hx, k.c, k.nA _ (by simp [stN]), f2, v, 1, (qs.length : Int), r, rfl, hin, fun hr' => ?_, h1⟩
  obtain ⟨b0, hw, hh⟩ := hin
  rcases hh with ⟨_, e⟩ | ⟨i, _, rfl, e⟩
  · rw [hr'] at e; cases e
  rw [hr'] at e
  have e2 := e.symm
  rw [Bool.and_eq_true, decide_eq_true_eq, decide_eq_true_eq] at e2
  obtain ⟨i0, i1⟩ := e2
  have hj : (i - 1).toNat < qs.length := by omega
  obtain ⟨y, ey, ny⟩ := nx.get' hj
  have ei : i = (((i - 1).toNat : Nat) : Int) + 1 := by omega
  exact ⟨_, rfl, x, S, dx, _, _, rfl, hx, k.c, k.nA _ (by simp [stN]), f1, _, rfl, i, 1, rfl, rfl, b, xs, i - 1, y, rfl, rfl, SqL.of hb, at_of (j := (i - 1).toNat) (by omega) ey, h2 hr' (i - 1).toNat y _ (congrArg V.int ei) (List.getElem?_eq_getElem hj) ny⟩
theorem scSCu : FnScope ["self", "order"] ["self", "order"] (defScope C_Step_cut) := ⟨rfl, rfl, rfl, by decide +kernel, rfl, by decide +kernel, by decide +kernel⟩
theorem ok_scut (G : Fun K "cut" "Step.cut" C_Step_cut f fd) (k : StepK P w K mg base C S CF CO) (UC : Use P w K mg base (L2.CX P w) 4 "check_cut" ["have", "wanted"] (spCc K CO CL) []) : FnOk P w K mg base (L2.CX P w) 8 f fd ["self", "order"] (spCuS K S CO CL) := by
  refine G.okX scSCu (fun vs H Q E h => ?_) (fun cdv A outer s H vs Q E hr h => ?_)
  · obtain ⟨x, v, qs, r, rfl, _⟩ := h
    rfl
  obtain ⟨y, v, qs, r, rfl, hR, hin, h1, h2⟩ := h
  obtain ⟨x, dx, b, xs, fs, rfl, hx, hb, nx, f1, f2, l3, l25⟩ := hR.num
  obtain ⟨fI, fdI, M, FI, bI⟩ := k.ini
  refine ⟨_, pss_cons (ps_expr (pe_use (E := E) UC (hr.mono (by decide)) rfl (passes_call (takes_of rfl rfl rfl rfl) (fun _ _ _ _ h => h)) (pa_cons (pe_fld (pv 0) rfl) (pa_cons (pv 1) pa_nil))))
    (pss_one (ps_ret (pe_make (E := E) M FI hr rfl k.m bI .nil (passes_call (takes_of rfl rfl rfl rfl) (fun _ _ _ _ h => h)) (pa_cons (pe_slice sl_list (pe_fld (pv 0) rfl) po_none (po_some (pv 1))) pa_nil)))), ?_⟩
  refine ⟨_, rfl, x, S, dx, _, _, rfl, hx, k.c, k.nA _ (by simp [stN]), f2, _, rfl, (qs.length : Int), v, r, rfl, hin, h1, fun hr' i ev => ⟨fun le => ?_, fun lt => (h2 hr' i ev).1 lt⟩⟩
  subst ev
  obtain ⟨b0, hw, hh⟩ := hin
  have i2 : 2 ≤ i := by
    rcases hh with ⟨_, e⟩ | ⟨j, _, ej, e⟩
    · rw [hr'] at e; cases e
    obtain rfl := V.int.inj ej
    rw [hr'] at e
    have e2 := e.symm
    rw [Bool.and_eq_true, decide_eq_true_eq, decide_eq_true_eq] at e2
    exact e2.1
  have g := (h2 hr' i rfl).2 le
  refine ⟨_, rfl, x, S, dx, _, _, rfl, hx, k.c, k.nA _ (by simp [stN]), f1, _, rfl, i, rfl, b, xs, rfl, SqL.of hb, fun p np => ?_⟩
  have ec : cutV xs none (some i) = xs.take i.toNat := by
    have := cut_take xs i.toNat
    rw [← this]
    congr 2
    omega
  rw [ec]
  have s1 := new_same np (.lst (xs.take i.toNat))
  exact step_new s1 (.inl upd_same) ((nx.take _).same s1) (by rw [List.length_take]; omega) (by rw [List.length_take]; omega) g
end
end Kx
end
section
set_option maxHeartbeats 4000000
namespace Kx
open PySem PySem.Spec PyProof.Rows L2 RZ
/-- the flat of a step -/
def flS (qs : List Rat) : V := if kindS qs = "creep" then hgtV (qs.drop 1) 1 else .non
theorem flS_yes {qs : List Rat} (h : kindS qs = "creep") : flS qs = hgtV (qs.drop 1) 1 := if_pos h
theorem flS_no {qs : List Rat} (h : kindS qs ≠ "creep") : flS qs = .non := if_neg h
/-- where its strength stands -/
def strI (qs : List Rat) : Option Nat := if kindS qs = "creep" then (hgtN (qs.drop 1) 0).map (1 + ·) else if kindS qs = "crush" then hgtN qs 0 else none
theorem strI_creep {qs : List Rat} (h : kindS qs = "creep") : strI qs = (hgtN (qs.drop 1) 0).map (1 + ·) := if_pos h
theorem strI_crush {qs : List Rat} (h : kindS qs = "crush") : strI qs = hgtN qs 0 := by
  unfold strI
  rw [if_neg (by rw [h]; decide), if_pos h]
theorem strI_no {qs : List Rat} (h : kindS qs ≠ "creep") (h2 : kindS qs ≠ "crush") : strI qs = none := by
  unfold strI
  rw [if_neg h, if_neg h2]
def StrV (K : PySem.W.Frag) (H : Hp) (sv : V) (qs : List Rat) : Prop := match strI qs with
  | some i => ∃ r, qs[i]? = some r ∧ Nq K H sv r
  | none => sv = .non
/-- Step.__init__, with flat and strength told -/
def spSIF (K : PySem.W.Frag) (S CF CO : Addr) : Sp := fun vs H Q E => ∃ (x dx : Addr) (v : V), vs = [.ref x, v] ∧ v ≠ .ref x ∧ H x = some (.ins S dx []) ∧
  Giv K CF CO H v 0 E fun xs qs => ∀ H' b x0 fv sv, xs[0]? = some x0 → But x H H' → H b = none → H' x = some (.ins S dx (stF b (qs.length : Int) x0 (kindS qs) (hgtV qs 1) fv sv)) → H' b = some (.lst xs) → fv = flS qs → StrV K H' sv qs → Q .non H'
section
variable {P : Program} {w : World} {K : PySem.W.Frag} {mg : Str → Option Value} {base : Heap} {f fI C S CF CO o1 o0 : Addr} {fd : FuncData}
theorem ok_stinitF (G : Fun K "__init__" "Step.__init__" C_Step_init f fd) (c : Cls K S) (nA : ∀ n ∈ stN, NoAttr K S n) (mn : mg "len" = none)
    (UN : Use P w K mg base (L2.CX P w) 5 "checked_numbers" ["numbers", "further"] (spCn K CF CO) []) (UD : Use P w K mg base CX0 2 "kind_of" ["numbers"] (spKo K) []) (UL : Use P w K mg base CX0 1 "least_place" ["numbers", "first"] (spLp K) []) :
    FnOk P w K mg base (L2.CX P w) 6 f fd ["self", "numbers"] (spSIF K S CF CO) := by
  refine G.okX scSI (fun vs H Q E h => ?_) (fun cdv A outer s H vs Q E hr h => ?_)
  · obtain ⟨x, dx, v, rfl, _⟩ := h
    rfl
  obtain ⟨x, dx, v, rfl, nv, hx, hg⟩ := h
  have hr1 := hr.mono (show 1 ≤ 5 by decide)
  have hr2 := hr.mono (show 2 ≤ 5 by decide)
  have n1 := nA "_numbers" (by simp [stN])
  have n2 := nA "order" (by simp [stN])
  have n3 := nA "lead" (by simp [stN])
  have n4 := nA "kind" (by simp [stN])
  have n5 := nA "height" (by simp [stN])
  have n6 := nA "flat" (by simp [stN])
  have n7 := nA "strength" (by simp [stN])
  refine ⟨_, pss_cons (ps_fld (pv 0) (pe_use (E := E) UN hr rfl (passes_call (takes_of rfl rfl rfl rfl) (fun _ _ _ _ h => h)) (pa_cons (pv 1) (pa_cons pe_int pa_nil))) rfl)
    (pss_cons (ps_fld (pv 0) (pe_callB call_len_seq rfl mn PySem.boot_len (pa_cons (pv 1) pa_nil)) rfl)
    (pss_cons (ps_fld (pv 0) (pe_ix ix_list (pe_fld (pv 0) rfl) pe_int (fun _ _ => rfl)) rfl)
    (pss_cons (ps_fld (pv 0) (pe_use UD hr2 rfl pass0 (pa_cons (pe_fld (pv 0) rfl) pa_nil)) rfl)
    (pss_cons (ps_fld (pv 0) (pe_use UL hr1 rfl pass0 (pa_cons (pe_fld (pv 0) rfl) (pa_cons pe_int pa_nil))) rfl)
    (pss_cons (ps_fld (pv 0) pe_non rfl)
    (pss_cons (ps_fld (pv 0) pe_non rfl)
    (C8.pss_cut (ps_if (pt_cmpR op_eq (pe_fld (pv 0) rfl) pe_str (nomark _)) (pss_cons (ps_fld (pv 0) (pe_use UL hr1 rfl pass0 (pa_cons (pe_slice sl_list (pe_fld (pv 0) rfl) (po_some pe_int) po_none) (pa_cons pe_int pa_nil))) rfl)
        (pss_one (ps_fld (pv 0) (pe_ix ix_list (pe_fld (pv 0) rfl) (pe_fld (pv 0) rfl) (fun _ _ => rfl)) rfl))) pss_nil)
    (pss_one (ps_if (pt_cmpR op_eq (pe_fld (pv 0) rfl) pe_str (nomark _)) (pss_one (ps_fld (pv 0) (pe_ix ix_list (pe_fld (pv 0) rfl) (pe_op op_sub (pe_fld (pv 0) rfl) pe_int) (fun _ _ => rfl)) rfl)) pss_nil))))))))), ?_⟩
  refine ⟨_, rfl, v, 0, rfl, ?_⟩
  refine hg.cn fun a xs qs H1 b ev ha nx g l1 l2 s1 nb hb => ?_
  subst ev
  have xb : b ≠ x := fun e => by rw [e, hx] at nb; cases nb
  have xa : a ≠ x := fun e => nv (by rw [e])
  have lq : xs.length = qs.length := nx.1
  have g1 : Stg K H H1 x S dx [] b xs qs := ⟨But.same s1, s1 _ _ hx, hb, nx.same s1, xb⟩
  have ha1 := ha.same s1
  refine ⟨_, rfl, x, S, dx, _, rfl, g1.hx, c, n1, by decide, ?_⟩
  have g2 := g1.put (putF "_numbers" (.ref b) [])
  have ha2 : SqH (upd H1 x (.ins S dx (putF "_numbers" (.ref b) []))) a xs := by
    unfold SqH
    rw [upd_ne xa]
    exact ha1
  generalize upd H1 x (.ins S dx (putF "_numbers" (.ref b) [])) = H2 at g2 ha2
  refine ⟨_, rfl, a, _, rfl, ha2.imp SqL.of SqT.of, _, rfl, x, S, dx, _, rfl, g2.hx, c, n2, (by show 1 < 1000; decide), ?_⟩
  have g3 := g2.put (putF "order" (.int ((xs.length : Nat) : Int)) (putF "_numbers" (.ref b) []))
  generalize upd H2 x (.ins S dx (putF "order" (.int ((xs.length : Nat) : Int)) (putF "_numbers" (.ref b) []))) = H3 at g3
  obtain ⟨x0, e0, m0⟩ := g3.nx.get' (i := 0) (by omega)
  refine ⟨_, rfl, x, S, dx, _, _, rfl, g3.hx, c, n1, rfl, b, xs, 0, x0, rfl, rfl, SqL.of g3.hb, at_of (j := 0) rfl e0, _, rfl, x, S, dx, _, rfl, g3.hx, c, n3, (by show 2 < 1000; decide), ?_⟩
  rw [lq] at g3 ⊢
  generalize hln : (((qs.length : Nat)) : Int) = ln at g3
  have g4 := g3.put (putF "lead" x0 (putF "order" (.int ln) (putF "_numbers" (.ref b) [])))
  generalize upd H3 x (.ins S dx (putF "lead" x0 (putF "order" (.int ln) (putF "_numbers" (.ref b) [])))) = H4 at g4
  refine ⟨_, rfl, x, S, dx, _, _, rfl, g4.hx, c, n1, rfl, .ref b, qs, rfl, ⟨b, xs, rfl, g4.hb, g4.nx⟩, by omega, by omega, fun H5 s5 => ?_⟩
  have g5 := g4.go s5
  refine ⟨_, rfl, x, S, dx, _, rfl, g5.hx, c, n4, (by show 3 < 1000; decide), ?_⟩
  generalize hkd : kindS qs = kd
  have g6 := g5.put (putF "kind" (.str kd) (putF "lead" x0 (putF "order" (.int ln) (putF "_numbers" (.ref b) []))))
  generalize upd H5 x (.ins S dx (putF "kind" (.str kd) (putF "lead" x0 (putF "order" (.int ln) (putF "_numbers" (.ref b) []))))) = H6 at g6
  refine ⟨_, rfl, x, S, dx, _, _, rfl, g6.hx, c, n1, rfl, .ref b, qs, 1, rfl, ⟨b, xs, rfl, g6.hb, g6.nx⟩, fun H7 s7 => ?_⟩
  have g7 := g6.go s7
  refine ⟨_, rfl, x, S, dx, _, rfl, g7.hx, c, n5, (by show 4 < 1000; decide), ?_⟩
  generalize hhv : hgtV qs 1 = hv
  have g8 := g7.put (putF "height" hv (putF "kind" (.str kd) (putF "lead" x0 (putF "order" (.int ln) (putF "_numbers" (.ref b) [])))))
  generalize upd H7 x (.ins S dx (putF "height" hv (putF "kind" (.str kd) (putF "lead" x0 (putF "order" (.int ln) (putF "_numbers" (.ref b) [])))))) = H8 at g8
  refine ⟨_, rfl, x, S, dx, _, rfl, g8.hx, c, n6, (by show 5 < 1000; decide), ?_⟩
  have g9 := g8.put (putF "flat" .non (putF "height" hv (putF "kind" (.str kd) (putF "lead" x0 (putF "order" (.int ln) (putF "_numbers" (.ref b) []))))))
  generalize upd H8 x (.ins S dx (putF "flat" .non (putF "height" hv (putF "kind" (.str kd) (putF "lead" x0 (putF "order" (.int ln) (putF "_numbers" (.ref b) []))))))) = H9 at g9
  refine ⟨_, rfl, x, S, dx, _, rfl, g9.hx, c, n7, (by show 6 < 1000; decide), ?_⟩
  have g10 : Stg K H (upd H9 x (.ins S dx (stF b ln x0 kd hv .non .non))) x S dx (stF b ln x0 kd hv .non .non) b xs qs := g9.put _
  refine ⟨fun σ H' => σ = [some (.ref x), some (.ref a)] ∧ ∃ fv sv, Stg K H H' x S dx (stF b ln x0 kd hv fv sv) b xs qs ∧ fv = flS qs ∧ (kindS qs = "creep" → StrV K H' sv qs) ∧ (kindS qs ≠ "creep" → sv = .non), ?_, ?_⟩
  · change Stg K H (upd H9 x (.ins S dx (putF "strength" .non (putF "flat" .non (putF "height" hv (putF "kind" (.str kd) (putF "lead" x0 (putF "order" (.int ln) (putF "_numbers" (.ref b) [])))))))))  x S dx (stF b ln x0 kd hv .non .non) b xs qs at g10
    generalize upd H9 x (.ins S dx (putF "strength" .non (putF "flat" .non (putF "height" hv (putF "kind" (.str kd) (putF "lead" x0 (putF "order" (.int ln) (putF "_numbers" (.ref b) [])))))))) = H10 at g10
    refine ⟨_, rfl, x, S, dx, _, _, rfl, g10.hx, c, n4, rfl, rfl, _, rfl, ite2 (fun e => ?_) (fun e => ⟨rfl, _, _, g10, (flS_no (by rw [hkd]; exact fun z => e (by rw [z]; exact decide_eq_true rfl))).symm, fun z => absurd (by rw [← hkd, z]; exact decide_eq_true rfl) e, fun _ => rfl⟩)⟩
    have ek : kindS qs = "creep" := by rw [hkd]; exact V.str.inj (of_decide_eq_true e)
    obtain ⟨k, hk, ek2⟩ := hgtN_ex (qs.drop 1) 0 (kind_creep ek)
    rw [List.length_drop] at hk
    refine ⟨_, rfl, x, S, dx, _, _, rfl, g10.hx, c, n1, rfl, 1, rfl, b, _, rfl, SqL.of g10.hb, fun p np => ?_⟩
    have ec : cutV xs (some 1) none = xs.drop 1 := cut_drop xs 1
    rw [ec]
    have s11 := new_same np (.lst (xs.drop 1))
    have g11 := g10.go s11
    refine ⟨.ref p, qs.drop 1, 1, rfl, ⟨p, _, rfl, upd_same, g11.nx.drop 1⟩, fun H12 s12 => ?_⟩
    have g12 := g11.go s12
    have ev : hgtV (qs.drop 1) 1 = .int (1 + (k : Nat)) := by
      unfold hgtV
      rw [ek2, Nat.zero_add]
    rw [ev]
    refine ⟨_, rfl, x, S, dx, _, rfl, g12.hx, c, n6, (by show 7 < 1000; decide), ?_⟩
    have g13 : Stg K H (upd H12 x (.ins S dx (putF "flat" (.int (1 + (k : Nat))) (stF b ln x0 kd hv .non .non)))) x S dx (stF b ln x0 kd hv (.int (1 + (k : Nat))) .non) b xs qs := g12.put _
    generalize upd H12 x (.ins S dx (putF "flat" (.int (1 + (k : Nat))) (stF b ln x0 kd hv .non .non))) = H13 at g13
    have e3 := List.getElem?_eq_getElem (l := xs) (i := 1 + k) (by omega)
    refine ⟨_, rfl, x, S, dx, _, _, rfl, g13.hx, c, n1, rfl, _, rfl, x, S, dx, _, _, rfl, g13.hx, c, n6, rfl, b, xs, _, _, rfl, rfl, SqL.of g13.hb, at_of (j := 1 + k) (by omega) e3, _, rfl, x, S, dx, _, rfl, g13.hx, c, n7, (by show 7 < 1000; decide), ?_⟩
    obtain ⟨r, hr', nr⟩ := g13.nx.get e3
    refine ⟨rfl, _, _, g13.put _, ?_, fun _ => ?_, fun z => absurd ek z⟩
    · rw [flS_yes ek, ev]
    · unfold StrV
      rw [strI_creep ek, ek2]
      exact ⟨r, by rw [Nat.zero_add]; exact hr', nr.but g13.hx but_put⟩
  · rintro σ H10 ⟨rfl, fv, sv, g10, hfv, hs1, hs2⟩
    have fin : ∀ H' fv sv, Stg K H H' x S dx (stF b ln x0 kd hv fv sv) b xs qs → fv = flS qs → StrV K H' sv qs → Q .non H' := fun H' fv sv z z1 z2 => by
      refine g H' b x0 fv sv e0 z.u nb ?_ z.hb z1 z2
      rw [hln, hkd, hhv]
      exact z.hx
    refine ⟨_, rfl, x, S, dx, _, _, rfl, g10.hx, c, n4, rfl, rfl, _, rfl, ite2 (fun e => ?_) (fun e => fin _ _ _ g10 hfv ?_)⟩
    · have ek : kindS qs = "crush" := by rw [hkd]; exact V.str.inj (of_decide_eq_true e)
      obtain ⟨k, hk, ek2⟩ := hgtN_ex qs 0 (kind_crush ek)
      have ev : hv = .int (1 + (k : Nat)) := by
        rw [← hhv]
        unfold hgtV
        rw [ek2, Nat.zero_add]
      have e3 := List.getElem?_eq_getElem (l := xs) (i := k) (by omega)
      refine ⟨_, rfl, x, S, dx, _, _, rfl, g10.hx, c, n1, rfl, _, rfl, x, S, dx, _, _, rfl, g10.hx, c, n5, rfl, 1 + (k : Nat), 1, ev, rfl, b, xs, _, _, rfl, rfl, SqL.of g10.hb, at_of (j := k) (by omega) e3, _, rfl, x, S, dx, _, rfl, g10.hx, c, n7, (by show 7 < 1000; decide), ?_⟩
      obtain ⟨r, hr', nr⟩ := g10.nx.get e3
      refine fin _ fv _ (g10.put _) hfv ?_
      unfold StrV
      rw [strI_crush ek, ek2, Nat.zero_add]
      exact ⟨r, hr', nr.but g10.hx but_put⟩
    · by_cases ek : kindS qs = "creep"
      · exact hs1 ek
      · rw [hs2 ek]
        unfold StrV
        rw [strI_no ek (by rw [hkd]; exact fun z => e (by rw [z]; exact decide_eq_true rfl))]
end
end Kx
end
section
set_option maxHeartbeats 4000000
namespace Kx
open PySem PySem.Spec PyProof.Rows L2 RZ
theorem StrV.same {K : PySem.W.Frag} {H H' : Hp} {sv : V} {qs : List Rat} (h : StrV K H sv qs) (s : Same H H') : StrV K H' sv qs := by
  unfold StrV at h ⊢
  split at h
  · obtain ⟨r, h1, h2⟩ := h
    exact ⟨r, h1, h2.same s⟩
  · exact h
theorem StrV.go {K : PySem.W.Frag} {H H' : Hp} {B p : Addr} {sv : V} {qs : List Rat} (h : StrV K H sv qs) (b : Bag H B p) (s : Go B H H') : StrV K H' sv qs := by
  unfold StrV at h ⊢
  split at h
  · obtain ⟨r, h1, h2⟩ := h
    exact ⟨r, h1, h2.go b s⟩
  · exact h
theorem StrV.ext {K : PySem.W.Frag} {H H' : Hp} {sv : V} {qs : List Rat} (h : StrV K H sv qs) (s : LamX.ExtN H H') : StrV K H' sv qs := by
  unfold StrV at h ⊢
  split at h
  · obtain ⟨r, h1, h2⟩ := h
    exact ⟨r, h1, h2.ext s⟩
  · exact h
theorem StrV.wk {K : PySem.W.Frag} {H H' : Hp} {sv : V} {qs : List Rat} (h : StrV K H sv qs) (s : Wk H H') : StrV K H' sv qs := by
  unfold StrV at h ⊢
  split at h
  · obtain ⟨r, h1, h2⟩ := h
    exact ⟨r, h1, h2.wk s⟩
  · exact h
/-- a step, its flat and its strength, too -/
def StF (K : PySem.W.Frag) (S : Addr) (H : Hp) (v : V) (qs : List Rat) : Prop := ∃ (x dx b : Addr) (xs : List V) (x0 sv : V), v = .ref x ∧ H x = some (.ins S dx (stF b (qs.length : Int) x0 (kindS qs) (hgtV qs 1) (flS qs) sv)) ∧ H b = some (.lst xs) ∧ Nl K H xs qs ∧ xs[0]? = some x0 ∧ StrV K H sv qs ∧ 2 ≤ qs.length ∧ qs.length ≤ 24
section
variable {K : PySem.W.Frag} {S B p : Addr} {H H' : Hp} {v : V} {qs : List Rat}
theorem StF.st (h : StF K S H v qs) : StAt K S H v qs := by
  obtain ⟨x, dx, b, xs, x0, sv, e, h1, h2, h3, h4, _, h5⟩ := h
  exact ⟨x, dx, b, xs, x0, _, sv, e, h1, h2, h3, h4, h5⟩
theorem StF.same (h : StF K S H v qs) (s : Same H H') : StF K S H' v qs := by
  obtain ⟨x, dx, b, xs, x0, sv, e, h1, h2, h3, h4, h5, h6⟩ := h
  exact ⟨x, dx, b, xs, x0, sv, e, s _ _ h1, s _ _ h2, h3.same s, h4, h5.same s, h6⟩
theorem StF.go (h : StF K S H v qs) (b : Bag H B p) (s : Go B H H') : StF K S H' v qs := by
  obtain ⟨x, dx, c, xs, x0, sv, e, h1, h2, h3, h4, h5, h6⟩ := h
  exact ⟨x, dx, c, xs, x0, sv, e, ins_go h1 b s, s _ _ (h3.ne (by omega) h2 b) (fun ps z => by cases z) h2, h3.go b s, h4, h5.go b s, h6⟩
theorem StF.ext (h : StF K S H v qs) (s : LamX.ExtN H H') : StF K S H' v qs := by
  obtain ⟨x, dx, b, xs, x0, sv, e, h1, h2, h3, h4, h5, h6⟩ := h
  exact ⟨x, dx, b, xs, x0, sv, e, s _ _ h1 (fun ps z => by cases z), s _ _ h2 (fun ps z => by cases z), h3.ext s, h4, h5.ext s, h6⟩
end
/-- a new step comes back, its flat and its strength, too -/
def GivesF (K : PySem.W.Frag) (S : Addr) (H : Hp) (Q : VK) (rs : List Rat) : Prop := ∀ H' y, Same H H' → StF K S H' y rs → Q y H'
section
variable {P : Program} {w : World} {K : PySem.W.Frag} {mg : Str → Option Value} {base : Heap} {f C S CF CO CN CP CL CU o0 o1 : Addr} {fd : FuncData} {H : Hp} {qs : List Rat}
/-- what stands of the steps' __init__, strong -/
structure StepI (P : Program) (w : World) (K : PySem.W.Frag) (mg : Str → Option Value) (base : Heap) (S CF CO : Addr) : Prop where
  m : mg "Step" = some (.ref S)
  ini : ∃ (fI : Addr) (fd : FuncData), Mk K S fI ∧ FnOk P w K mg base (L2.CX P w) 6 fI fd ["self", "numbers"] (spSIF K S CF CO) ∧ Binds K fd ["self", "numbers"] [] ∧ KBn K fd ["self", "numbers"] 1 ["numbers"] appB appA
/-- Step(..) from a list of numbers: the step's own list is new -/
theorem step_newF {a : Addr} {xs : List V} {E : XK} {R : VK} {x dx : Addr} (ha : SqH H a xs) (hn : Nl K H xs qs) (l1 : 2 ≤ qs.length) (l2 : qs.length ≤ 24) (nx : H x = none) (ndx : H dx = none) (ne : dx ≠ x)
    (q : ∀ H', Same H H' → StF K S H' (.ref x) qs → R .non H') :
    spSIF K S CF CO [.ref x, .ref a] (upd (upd H dx (.own x)) x (.ins S dx [])) R E := by
  have hx2 : upd (upd H dx (.own x)) x (.ins S dx []) x = some (.ins S dx []) := upd_same
  have sm : Same H (upd (upd H dx (.own x)) x (.ins S dx [])) := (new_same ndx _).trans (new_same (by rw [upd_ne (Ne.symm ne)]; exact nx) _)
  refine ⟨x, dx, .ref a, rfl, fun e => ?_, hx2, .inr ⟨a, xs, rfl, ha.same sm, .inr ⟨by rw [hn.1]; omega, by rw [hn.1]; omega, .inr ⟨qs, hn.same sm, fun H' b x0 fv sv h0 u nb hx hb e1 e2 => ?_⟩⟩⟩⟩
  · rw [V.ref.inj e] at ha
    rcases ha with h | h <;> rw [nx] at h <;> cases h
  · have s' : Same H H' := fun e o he => u e o (fun z => by rw [z, nx] at he; cases he) (sm e o he)
    subst e1
    exact q H' s' ⟨x, dx, b, xs, x0, sv, rfl, hx, hb, hn.same s', h0, e2, l1, l2⟩
end
end Kx
end
section
set_option maxHeartbeats 4000000
namespace Kx
open PySem PySem.Spec PyProof.Rows L2 RZ
/-! ### the steps' deeds, with errors -/
section
variable (K : PySem.W.Frag) (C S : Addr)
def spStF (CO : Addr) : Sp := fun vs H Q E => ∃ (v : V) (r : Bool), vs = [v] ∧ InR K H v 2 24 r ∧ (r = false → Air H CO (fs1 "InvalidOrder" "value" [v]) E) ∧ (r = true → ∃ n : Nat, v = .int (n : Nat) ∧ 2 ≤ n ∧ n ≤ 24 ∧ GivesF K S H Q (1 :: List.replicate (n - 1) 0))
def spScF (CN CO : Addr) : Sp := fun vs H Q E => ∃ (v u : V) (r1 r2 : Bool), vs = [v, u] ∧ IsG K H v r1 ∧ InR K H u 2 24 r2 ∧ (r1 = false → Air H CN (fs1 "InvalidNumber" "value" [v]) E) ∧ (r1 = true → r2 = false → Air H CO (fs1 "InvalidOrder" "value" [u]) E) ∧
  (r1 = true → r2 = true → ∃ (q : Rat) (n : Nat), Nq K H v q ∧ u = .int (n : Nat) ∧ 2 ≤ n ∧ n ≤ 24 ∧ GivesF K S H Q (q :: List.replicate (n - 1) 0))
def spCuF (CO CL : Addr) : Sp := fun vs H Q E => ∃ (x v : V) (qs : List Rat) (r : Bool), vs = [x, v] ∧ StF K S H x qs ∧ InR K H v 2 24 r ∧ (r = false → Air H CO (fs1 "InvalidOrder" "value" [v]) E) ∧
  (r = true → ∀ i : Int, v = .int i → ((qs.length : Int) < i → Air H CL (fs2 "OrderTooLow" "have" "wanted" [.int (qs.length : Int), .int i]) E) ∧ (i ≤ (qs.length : Int) → GivesF K S H Q (qs.take i.toNat)))
def spGoF (CF CO : Addr) : Sp := fun vs H Q E => ∃ (x v : V) (qs : List Rat), vs = [x, v] ∧ StF K S H x qs ∧ Giv K CF CO H v (qs.length : Int) E fun _ rs => (rs = [] → ∀ H', Same H H' → Q x H') ∧ (rs ≠ [] → GivesF K S H Q (qs ++ rs))
def spArF : Sp := fun vs H Q _ => ∃ (x : V) (qs : List Rat), vs = [x] ∧ StF K S H x qs ∧ GivesR K C H Q (0 :: qs)
end
section
variable {P : Program} {w : World} {K : PySem.W.Frag} {mg : Str → Option Value} {base : Heap} {f C S CF CO CN CP CL CU o0 : Addr} {fd : FuncData}
theorem scFst : FnScope ["order"] ["order"] (defScope C_Step_still) := ⟨rfl, rfl, rfl, by decide +kernel, rfl, by decide +kernel, by decide +kernel⟩
theorem ok_stillF (G : Fun K "still" "Step.still" C_Step_still f fd) (k : StepI P w K mg base S CF CO) (UC : Use P w K mg base (L2.CX P w) 3 "check_order" ["order"] (spCo K CO) []) (UN : Use P w K mg base CX0 1 "still_numbers" ["order"] (spSn K) []) :
    FnOk P w K mg base (L2.CX P w) 8 f fd ["order"] (spStF K S CO) := by
  refine G.okX scFst (fun vs H Q E h => ?_) (fun cdv A outer s H vs Q E hr h => ?_)
  · obtain ⟨v, r, rfl, _⟩ := h
    rfl
  obtain ⟨v, r, rfl, hin, h1, h2⟩ := h
  obtain ⟨fI, fdI, M, FI, bI, _⟩ := k.ini
  refine ⟨_, pss_cons (ps_expr (pe_use (E := E) UC (hr.mono (by decide)) rfl (passes_call (takes_of rfl rfl rfl rfl) (fun _ _ _ _ h => h)) (pa_cons (pv 0) pa_nil)))
    (pss_one (ps_ret (pe_make (E := E) M FI hr rfl k.m bI .nil (passes_call (takes_of rfl rfl rfl rfl) (fun _ _ _ _ h => h)) (pa_cons (pe_use UN (hr.mono (by decide)) rfl pass0 (pa_cons (pv 0) pa_nil)) pa_nil)))), ?_⟩
  refine ⟨_, rfl, v, r, rfl, hin, fun e => ?_, h1⟩
  obtain ⟨n, rfl, n2, n24, q⟩ := h2 e
  refine ⟨_, rfl, n, rfl, n2, n24, fun d H1 xs s1 m1 e1 k1 => fun x dx xn dn en => ?_⟩
  exact step_newF (.inl e1) k1 (by rw [List.length_cons, List.length_replicate]; omega) (by rw [List.length_cons, List.length_replicate]; omega) xn dn en fun H' s' z => ⟨rfl, q _ _ (s1.trans s') z⟩
theorem scFsc : FnScope ["lead", "order"] ["lead", "order"] (defScope C_Step_scaling) := ⟨rfl, rfl, rfl, by decide +kernel, rfl, by decide +kernel, by decide +kernel⟩
theorem ok_scalingF (G : Fun K "scaling" "Step.scaling" C_Step_scaling f fd) (k : StepI P w K mg base S CF CO) (k0 : KP K o0 0 1) (mZ : mg "ZERO" = some (.ref o0)) (UK : Use P w K mg base (L2.CX P w) 3 "check_number" ["value"] (spCk K CN) []) (UC : Use P w K mg base (L2.CX P w) 3 "check_order" ["order"] (spCo K CO) []) :
    FnOk P w K mg base (L2.CX P w) 8 f fd ["lead", "order"] (spScF K S CN CO) := by
  refine G.okX scFsc (fun vs H Q E h => ?_) (fun cdv A outer s H vs Q E hr h => ?_)
  · obtain ⟨v, u, r1, r2, rfl, _⟩ := h
    rfl
  obtain ⟨v, u, r1, r2, rfl, i1, i2, h1, h2, h3⟩ := h
  obtain ⟨fI, fdI, M, FI, bI, _⟩ := k.ini
  have hr3 := hr.mono (show 3 ≤ 7 by decide)
  refine ⟨_, pss_cons (ps_expr (pe_use (E := E) UK hr3 rfl (passes_call (takes_of rfl rfl rfl rfl) (fun _ _ _ _ h => h)) (pa_cons (pv 0) pa_nil)))
    (pss_cons (ps_expr (pe_use (E := E) UC hr3 rfl (passes_call (takes_of rfl rfl rfl rfl) (fun _ _ _ _ h => h)) (pa_cons (pv 1) pa_nil)))
    (pss_one (ps_ret (pe_make (E := E) M FI hr rfl k.m bI .nil (passes_call (takes_of rfl rfl rfl rfl) (fun _ _ _ _ h => h)) (pa_cons (pe_op op_cat (pe_lst (pa_cons (pv 0) pa_nil)) (pe_op op_rep (pe_lst (pa_cons (C8.pe_gc (v := .ref o0) rfl ⟨_, mZ, rfl⟩) pa_nil)) (pe_op op_sub (pv 1) pe_int))) pa_nil))))), ?_⟩
  refine ⟨_, rfl, v, r1, rfl, i1, fun e1 => ?_, h1⟩
  refine ⟨_, rfl, u, r2, rfl, i2, fun e2 => ?_, h2 e1⟩
  obtain ⟨q, n, nq, rfl, n2, n24, g⟩ := h3 e1 e2
  refine ⟨_, rfl, (by show 1 ≤ sizeLine; decide), fun a na => ⟨(by show 1 ≤ sizeLine; decide), fun b nb => ⟨_, rfl, (n : Int), 1, rfl, rfl, b, (n : Int) - 1, [.ref o0], rfl, rfl, upd_same, by omega, by omega, (by show 1 * _ ≤ sizeLine; exact Nat.le_of_lt (small1000 (by omega))), fun c nc => ?_⟩⟩⟩
  have rep : (List.replicate ((n : Int) - 1).toNat [V.ref o0]).flatten = List.replicate (n - 1) (.ref o0) := by
    rw [List.flatten_replicate_singleton]
    congr 1
    omega
  rw [rep]
  refine ⟨a, c, _, _, rfl, rfl, new_same nc _ _ _ (new_same nb _ _ _ upd_same), upd_same, Nat.le_of_lt (small1000 (by rw [List.length_replicate]; show 1 + _ ≤ _; omega)), fun d nd => fun x dx xn dn en => ?_⟩
  have s4 := ((new_same na (.lst [v])).trans ((new_same nb (.lst [V.ref o0])).trans ((new_same nc (.lst (List.replicate (n - 1) (V.ref o0)))).trans (new_same nd (.lst ([v] ++ List.replicate (n - 1) (V.ref o0)))))))
  exact step_newF (.inl upd_same) (Nl.cons (nq.same s4) (zeros ⟨o0, rfl, .inr k0⟩ _)) (by rw [List.length_cons, List.length_replicate]; omega) (by rw [List.length_cons, List.length_replicate]; omega) xn dn en fun H' s' z => ⟨rfl, g _ _ (s4.trans s') z⟩
theorem scFcu : FnScope ["self", "order"] ["self", "order"] (defScope C_Step_cut) := ⟨rfl, rfl, rfl, by decide +kernel, rfl, by decide +kernel, by decide +kernel⟩
theorem ok_cutF (G : Fun K "cut" "Step.cut" C_Step_cut f fd) (k : StepK P w K mg base C S CF CO) (ki : StepI P w K mg base S CF CO) (UC : Use P w K mg base (L2.CX P w) 4 "check_cut" ["have", "wanted"] (spCc K CO CL) []) : FnOk P w K mg base (L2.CX P w) 8 f fd ["self", "order"] (spCuF K S CO CL) := by
  refine G.okX scFcu (fun vs H Q E h => ?_) (fun cdv A outer s H vs Q E hr h => ?_)
  · obtain ⟨x, v, qs, r, rfl, _⟩ := h
    rfl
  obtain ⟨y, v, qs, r, rfl, hR, hin, h1, h2⟩ := h
  obtain ⟨x, dx, b, xs, fs, rfl, hx, hb, nx, f1, f2, l3, l25⟩ := hR.st.num
  obtain ⟨fI, fdI, M, FI, bI, _⟩ := ki.ini
  refine ⟨_, pss_cons (ps_expr (pe_use (E := E) UC (hr.mono (by decide)) rfl (passes_call (takes_of rfl rfl rfl rfl) (fun _ _ _ _ h => h)) (pa_cons (pe_fld (pv 0) rfl) (pa_cons (pv 1) pa_nil))))
    (pss_one (ps_ret (pe_make (E := E) M FI hr rfl k.m bI .nil (passes_call (takes_of rfl rfl rfl rfl) (fun _ _ _ _ h => h)) (pa_cons (pe_slice sl_list (pe_fld (pv 0) rfl) po_none (po_some (pv 1))) pa_nil)))), ?_⟩
  refine ⟨_, rfl, x, S, dx, _, _, rfl, hx, k.c, k.nA _ (by simp [stN]), f2, _, rfl, (qs.length : Int), v, r, rfl, hin, h1, fun hr' i ev => ⟨fun le => ?_, fun lt => (h2 hr' i ev).1 lt⟩⟩
  subst ev
  obtain ⟨b0, hw, hh⟩ := hin
  have i2 : 2 ≤ i := by
    rcases hh with ⟨_, e⟩ | ⟨j, _, ej, e⟩
    · rw [hr'] at e; cases e
    obtain rfl := V.int.inj ej
    rw [hr'] at e
    have e2 := e.symm
    rw [Bool.and_eq_true, decide_eq_true_eq, decide_eq_true_eq] at e2
    exact e2.1
  have g := (h2 hr' i rfl).2 le
  refine ⟨_, rfl, x, S, dx, _, _, rfl, hx, k.c, k.nA _ (by simp [stN]), f1, _, rfl, i, rfl, b, xs, rfl, SqL.of hb, fun p np => ?_⟩
  have ec : cutV xs none (some i) = xs.take i.toNat := by
    have := cut_take xs i.toNat
    rw [← this]
    congr 2
    omega
  rw [ec]
  have s1 := new_same np (.lst (xs.take i.toNat))
  refine fun z dz xn dn en => ?_
  exact step_newF (.inl upd_same) ((nx.take _).same s1) (by rw [List.length_take]; omega) (by rw [List.length_take]; omega) xn dn en fun H' s' z => ⟨rfl, g _ _ (s1.trans s') z⟩
theorem scFar : FnScope ["self"] ["self"] (defScope C_Step_as_row) := ⟨rfl, rfl, rfl, by decide +kernel, rfl, by decide +kernel, by decide +kernel⟩
theorem ok_asrowF (G : Fun K "as_row" "Step.as_row" C_Step_as_row f fd) (k : StepK P w K mg base C S CF CO) (kr : RowK P w K mg base C CF CO) (k0 : KP K o0 0 1) (mZ : mg "ZERO" = some (.ref o0)) : FnOk P w K mg base (L2.CX P w) 8 f fd ["self"] (spArF K C S) := by
  refine G.okX scFar (fun vs H Q E h => ?_) (fun cdv A outer s H vs Q E hr h => ?_)
  · obtain ⟨x, qs, rfl, _⟩ := h
    rfl
  obtain ⟨v, qs, rfl, hR, g⟩ := h
  obtain ⟨x, dx, b, xs, fs, rfl, hx, hb, nx, f1, f2, l3, l25⟩ := hR.st.num
  obtain ⟨fI, fdI, M, FI, bI, _⟩ := kr.ini
  refine ⟨_, pss_one (ps_ret (pe_make (E := E) M FI hr rfl kr.m bI .nil (passes_call (takes_of rfl rfl rfl rfl) (fun _ _ _ _ h => h)) (pa_cons (pe_op op_cat (pe_lst (pa_cons (C8.pe_gc (v := .ref o0) rfl ⟨_, mZ, rfl⟩) pa_nil)) (pe_fld (pv 0) rfl)) pa_nil))), ?_⟩
  refine ⟨(by show 1 ≤ sizeLine; decide), fun a na => ⟨_, rfl, x, S, dx, _, _, rfl, new_same na _ _ _ hx, k.c, k.nA _ (by simp [stN]), f1, a, b, _, _, rfl, rfl, upd_same, new_same na _ _ _ hb, Nat.le_of_lt (small1000 (by have := nx.1; show 1 + _ ≤ _; omega)), fun d nd => ?_⟩⟩
  have s1 := new_same na (.lst [V.ref o0])
  have s2 := s1.trans (new_same nd (.lst ([V.ref o0] ++ xs)))
  exact row_new s2 (.inl upd_same) (Nl.cons ⟨o0, rfl, .inr k0⟩ (nx.same s2)) (by rw [List.length_cons]; omega) (by rw [List.length_cons]; omega) g
theorem scFgo : FnScope ["self", "numbers", "further"] ["self", "numbers"] (defScope C_Step_gone_on) := ⟨rfl, rfl, rfl, by decide +kernel, rfl, by decide +kernel, by decide +kernel⟩
theorem ok_goneF (G : Fun K "gone_on" "Step.gone_on" C_Step_gone_on f fd) (k : StepK P w K mg base C S CF CO) (ki : StepI P w K mg base S CF CO) (mn : mg "len" = none) (UN : Use P w K mg base (L2.CX P w) 5 "checked_numbers" ["numbers", "further"] (spCn K CF CO) []) : FnOk P w K mg base (L2.CX P w) 8 f fd ["self", "numbers"] (spGoF K S CF CO) := by
  refine G.okX scFgo (fun vs H Q E h => ?_) (fun cdv A outer s H vs Q E hr h => ?_)
  · obtain ⟨x, v, qs, rfl, _⟩ := h
    rfl
  obtain ⟨y, v, qs, rfl, hR, hg⟩ := h
  obtain ⟨x, dx, b, xs, fs, rfl, hx, hb, nx, f1, f2, l3, l25⟩ := hR.st.num
  obtain ⟨fI, fdI, M, FI, bI, _⟩ := ki.ini
  refine ⟨_, pss_cons (ps_set (i := 2) scFgo.nd rfl (Or.inl rfl) (pe_use (E := E) UN (hr.mono (by decide)) rfl (passes_call (takes_of rfl rfl rfl rfl) (fun _ _ _ _ h => h)) (pa_cons (pv 1) (pa_cons (pe_fld (pv 0) rfl) pa_nil))))
    (pss_one (ps_ret (pe_ifExp (pt_cmpR op_gt (pe_callB call_len_seq rfl mn PySem.boot_len (pa_cons (pv 2) pa_nil)) pe_int (nomark _))
      (pe_make (E := E) M FI hr rfl k.m bI .nil (passes_call (takes_of rfl rfl rfl rfl) (fun _ _ _ _ h => h)) (pa_cons (pe_op op_cat (pe_fld (pv 0) rfl) (pv 2)) pa_nil)) (pv 0)))), ?_⟩
  refine ⟨_, rfl, _, rfl, x, S, dx, _, _, rfl, hx, k.c, k.nA _ (by simp [stN]), f2, v, (qs.length : Int), rfl, ?_⟩
  refine hg.cn fun a ys rs H1 c ev ha ny g l1 l2 s1 nc hc => ?_
  have ly : ys.length = rs.length := ny.1
  refine ⟨_, rfl, c, ys, rfl, .inl (SqL.of hc), (ys.length : Nat), 0, rfl, rfl, _, rfl, ?_⟩
  by_cases z : rs = []
  · have y0 : ys.length = 0 := by rw [ly, z]; rfl
    rw [decide_eq_false (show ¬ (0 : Int) < (ys.length : Nat) by omega)]
    exact iteF ⟨_, rfl, g.1 z _ s1⟩
  · have y0 : 0 < ys.length := by
      rw [ly]
      exact List.length_pos_iff.mpr z
    rw [decide_eq_true (show (0 : Int) < (ys.length : Nat) by omega)]
    refine iteT ⟨_, rfl, x, S, dx, _, _, rfl, s1 _ _ hx, k.c, k.nA _ (by simp [stN]), f1, _, rfl, b, c, _, _, rfl, rfl, s1 _ _ hb, hc, Nat.le_of_lt (small1000 (by have := nx.1; omega)), fun d nd => ?_⟩
    have s2 := s1.trans (new_same nd (.lst (xs ++ ys)))
    refine fun z' dz xn dn en => ?_
    exact step_newF (.inl upd_same) ((nx.app ny).same s2) (by rw [List.length_append]; omega) (by rw [List.length_append]; omega) xn dn en fun H' s' w => ⟨rfl, g.2 z _ _ (s2.trans s') w⟩
end
end Kx
end
section
set_option maxHeartbeats 4000000
namespace Kx
open PySem PySem.Spec PyProof.Rows L2 RZ
/-! ### drawn steps -/
def spLst (K : PySem.W.Frag) : Sp := fun vs H Q _ => ∃ n : Nat, vs = [.int (n : Nat)] ∧ 2 ≤ n ∧ n ≤ 24 ∧ GivesL K H Q (1 :: List.replicate (n - 1) 0)
def spSpr (K : PySem.W.Frag) : Sp := fun vs H Q _ => ∃ (B p : Addr) (n : Nat) (v : V) (q : Rat), vs = [.ref B, .int (n : Nat), v] ∧ Bag H B p ∧ 2 ≤ n ∧ n ≤ 24 ∧ Nq K H v q ∧ Bq 21 q ∧
  ∀ H' u rs, Bag H' B p → But B H H' → Ls K H' u rs → rs.length = n → AllB 21 rs → Q u H'
def spStp (K : PySem.W.Frag) : Sp := fun vs H Q _ => ∃ (B p : Addr) (n : Nat), vs = [.ref B, .int (n : Nat)] ∧ Bag H B p ∧ 2 ≤ n ∧ n ≤ 24 ∧
  ∀ H' u rs, Bag H' B p → But B H H' → Ls K H' u rs → rs.length = n → AllB 21 rs → Q u H'
theorem rep_nl {K : PySem.W.Frag} {H : Hp} {t : Addr} {q : Rat} (h : Nq K H (.ref t) q) (n : Nat) : Nl K H (List.replicate n (.ref t)) (List.replicate n q) := by
  refine ⟨by rw [List.length_replicate, List.length_replicate], fun i x r h1 h2 => ?_⟩
  rw [List.getElem?_replicate] at h1 h2
  split at h1
  · rw [if_pos (by assumption)] at h2
    rw [← Option.some.inj h1, ← Option.some.inj h2]
    exact h
  · cases h1
abbrev nSp : List Str := ["_law_bag_here", "_law_size", "_law_first", "_law_gap", "_law_some", "_law_k"]
section
variable {P : Program} {w : World} {K : PySem.W.Frag} {mg : Str → Option Value} {base : Heap} {f : Addr} {fd : FuncData}
theorem scLst : FnScope ["_law_size"] ["_law_size"] (defScope L_still) := ⟨rfl, rfl, rfl, by decide +kernel, rfl, by decide +kernel, by decide +kernel⟩
theorem ok_lstill (F : Fun K "_law_still" "_law_still" L_still f fd) : FnOk P w K mg base CX0 1 f fd ["_law_size"] (spLst K) := by
  refine F.ok scLst (fun vs H Q E h => ?_) (fun cdv A outer s H vs Q E hr h => ?_)
  · obtain ⟨n, rfl, _⟩ := h
    rfl
  obtain ⟨n, rfl, n2, n24, q⟩ := h
  refine ⟨_, pss_one (ps_ret (pe_op op_cat (pe_lst (pa_cons (pe_tup (pa_cons pe_int (pa_cons pe_int pa_nil))) pa_nil)) (pe_op op_rep (pe_lst (pa_cons (pe_tup (pa_cons pe_int (pa_cons pe_int pa_nil))) pa_nil)) (pe_op op_sub (pv 0) pe_int)))), ?_⟩
  refine ⟨(by show 2 ≤ sizeLine; decide), fun t1 m1 => ⟨(by show 1 ≤ sizeLine; decide), fun a na => ⟨(by show 2 ≤ sizeLine; decide), fun t2 m2 => ⟨(by show 1 ≤ sizeLine; decide), fun b nb => ⟨_, rfl, (n : Int), 1, rfl, rfl, b, (n : Int) - 1, [.ref t2], rfl, rfl, upd_same, by omega, by omega, (by show 1 * _ ≤ sizeLine; exact Nat.le_of_lt (small1000 (by omega))), fun c nc => ?_⟩⟩⟩⟩⟩
  have rep : (List.replicate ((n : Int) - 1).toNat [V.ref t2]).flatten = List.replicate (n - 1) (.ref t2) := by
    rw [List.flatten_replicate_singleton]
    congr 1
    omega
  rw [rep]
  have s1 := new_same m1 (HO.tup [.int 1, .int 1])
  have s2 := new_same na (HO.lst [V.ref t1])
  have s3 := new_same m2 (HO.tup [.int 0, .int 1])
  have s4 := new_same nb (HO.lst [V.ref t2])
  have s5 := new_same nc (HO.lst (List.replicate (n - 1) (V.ref t2)))
  refine ⟨a, c, _, _, rfl, rfl, s5 _ _ (s4 _ _ (s3 _ _ upd_same)), upd_same, Nat.le_of_lt (small1000 (by rw [List.length_replicate]; show 1 + _ ≤ _; omega)), fun d nd => ?_⟩
  have s6 := new_same nd (HO.lst ([V.ref t1] ++ List.replicate (n - 1) (V.ref t2)))
  have z1 : Nq K _ (.ref t1) 1 := .at (K := K) ((s2.trans (s3.trans (s4.trans (s5.trans s6)))) _ _ (show upd H t1 (HO.tup [.int 1, .int 1]) t1 = some (rT 1) from upd_same))
  have z0 : Nq K _ (.ref t2) 0 := .at (K := K) ((s4.trans (s5.trans s6)) _ _ (show _ = some (rT 0) from upd_same))
  have sA := s1.trans (s2.trans (s3.trans (s4.trans (s5.trans s6))))
  exact q d _ _ sA (((s1.trans (s2.trans (s3.trans (s4.trans s5)))).free nd)) upd_same (Nl.cons z1 (rep_nl z0 _))
theorem scLead : FnScope ["_law_bag_here"] ["_law_bag_here"] (defScope L_lead) := ⟨rfl, rfl, rfl, by decide +kernel, rfl, by decide +kernel, by decide +kernel⟩
theorem ok_lead (F : Fun K "_law_lead" "_law_lead" L_lead f fd) (UO : Use P w K mg base CX0 2 "_law_of" ["_law_bag_here", "_law_things"] spOfL []) : FnOk P w K mg base CX0 3 f fd ["_law_bag_here"] (spNum K) := by
  refine F.ok scLead (fun vs H Q E h => ?_) (fun cdv A outer s H vs Q E hr h => ?_)
  · obtain ⟨B, p, rfl, _⟩ := h
    rfl
  obtain ⟨B, p, rfl, hb, q⟩ := h
  refine ⟨_, pss_one (ps_ret (pe_use UO hr rfl pass0 (pa_cons (pv 0) (pa_cons (pe_lst (pa_cons (pe_tup (pa_cons pe_int (pa_cons pe_int pa_nil))) (pa_cons (pe_tup (pa_cons pe_int (pa_cons pe_int pa_nil))) (pa_cons (pe_tup (pa_cons (pe_un un_neg pe_int) (pa_cons pe_int pa_nil))) (pa_cons (pe_tup (pa_cons pe_int (pa_cons pe_int pa_nil)))
    (pa_cons (pe_tup (pa_cons (pe_un un_neg pe_int) (pa_cons pe_int pa_nil))) (pa_cons (pe_tup (pa_cons pe_int (pa_cons pe_int pa_nil))) (pa_cons (pe_tup (pa_cons pe_int (pa_cons pe_int pa_nil))) pa_nil)))))))) pa_nil)))), ?_⟩
  refine ⟨_, rfl, (by show 2 ≤ sizeLine; decide), fun t1 m1 => ⟨(by show 2 ≤ sizeLine; decide), fun t2 m2 => ⟨_, rfl, (by show 2 ≤ sizeLine; decide), fun t3 m3 => ⟨(by show 2 ≤ sizeLine; decide), fun t4 m4 => ⟨_, rfl, (by show 2 ≤ sizeLine; decide), fun t5 m5 => ⟨(by show 2 ≤ sizeLine; decide), fun t6 m6 => ⟨(by show 2 ≤ sizeLine; decide), fun t7 m7 => ⟨(by show 7 ≤ sizeLine; decide), fun l nl => ?_⟩⟩⟩⟩⟩⟩⟩⟩
  have e1 := new_same m1 (HO.tup [.int 2, .int 1])
  have e2 := new_same m2 (HO.tup [.int 1, .int 2])
  have e3 := new_same m3 (HO.tup [.int (-1), .int 2])
  have e4 := new_same m4 (HO.tup [.int 3, .int 1])
  have e5 := new_same m5 (HO.tup [.int (-2), .int 1])
  have e6 := new_same m6 (HO.tup [.int 1, .int 3])
  have e7 := new_same m7 (HO.tup [.int 3, .int 2])
  have e8 := new_same nl (HO.lst [V.ref t1, V.ref t2, V.ref t3, V.ref t4, V.ref t5, V.ref t6, V.ref t7])
  have r7 := e8
  have r6 := e7.trans r7
  have r5 := e6.trans r6
  have r4 := e5.trans r5
  have r3 := e4.trans r4
  have r2 := e3.trans r3
  have r1 := e2.trans r2
  have sA := e1.trans r1
  have bb := hb.same (e1.trans (e2.trans (e3.trans (e4.trans (e5.trans (e6.trans e7))))))
  refine ⟨B, p, l, _, rfl, upd_same, (bb.at nl).1, (by show 0 < 7; decide), (by show 7 ≤ 1000; decide), hb.same sA, fun H2 x b2 u2 hx => ?_⟩
  have uu : But B H H2 := (But.same sA).trans u2
  simp only [List.mem_cons, List.not_mem_nil, or_false] at hx
  rcases hx with rfl | rfl | rfl | rfl | rfl | rfl | rfl
  · exact q H2 _ 2 b2 uu ((Nq.at (K := K) (r1 _ _ (show _ = some (rT 2) from upd_same))).go (hb.same sA) (Go.of u2)) ⟨by decide, by decide⟩
  · exact q H2 _ (mkRat 1 2) b2 uu ((Nq.at (K := K) (r2 _ _ (show _ = some (rT (mkRat 1 2)) from upd_same))).go (hb.same sA) (Go.of u2)) ⟨by decide, by decide⟩
  · exact q H2 _ (mkRat (-1) 2) b2 uu ((Nq.at (K := K) (r3 _ _ (show _ = some (rT (mkRat (-1) 2)) from upd_same))).go (hb.same sA) (Go.of u2)) ⟨by decide, by decide⟩
  · exact q H2 _ 3 b2 uu ((Nq.at (K := K) (r4 _ _ (show _ = some (rT 3) from upd_same))).go (hb.same sA) (Go.of u2)) ⟨by decide, by decide⟩
  · exact q H2 _ (-2) b2 uu ((Nq.at (K := K) (r5 _ _ (show _ = some (rT (-2)) from upd_same))).go (hb.same sA) (Go.of u2)) ⟨by decide, by decide⟩
  · exact q H2 _ (mkRat 1 3) b2 uu ((Nq.at (K := K) (r6 _ _ (show _ = some (rT (mkRat 1 3)) from upd_same))).go (hb.same sA) (Go.of u2)) ⟨by decide, by decide⟩
  · exact q H2 _ (mkRat 3 2) b2 uu ((Nq.at (K := K) (r7 _ _ (show _ = some (rT (mkRat 3 2)) from upd_same))).go (hb.same sA) (Go.of u2)) ⟨by decide, by decide⟩
theorem scSpr : FnScope nSp ["_law_bag_here", "_law_size", "_law_first"] (defScope L_spread) := ⟨rfl, rfl, rfl, by decide +kernel, rfl, by decide +kernel, by decide +kernel⟩
theorem ok_spread (F : Fun K "_law_spread" "_law_spread" L_spread f fd) (mr : mg "range" = none) (UO : Use P w K mg base CX0 2 "_law_of" ["_law_bag_here", "_law_things"] spOfL []) (UF : Use P w K mg base CX0 4 "_law_full" ["_law_bag_here"] (spNum K) []) (UN : Use P w K mg base CX0 3 "_law_number" ["_law_bag_here"] (spNum K) []) :
    FnOk P w K mg base CX0 5 f fd ["_law_bag_here", "_law_size", "_law_first"] (spSpr K) := by
  refine F.ok scSpr (fun vs H Q E h => ?_) (fun cdv A outer s H vs Q E hr h => ?_)
  · obtain ⟨B, p, n, v, q, rfl, _⟩ := h
    rfl
  obtain ⟨B, p, n, v, q0, rfl, hb, n2, n24, nv, bv, q⟩ := h
  have hr2 := hr.mono (show 2 ≤ 4 by decide)
  have hr3 := hr.mono (show 3 ≤ 4 by decide)
  refine ⟨_, C8.pss_cut (ps_set (i := 3) scSpr.nd rfl (Or.inl rfl) (pe_use UO hr2 rfl pass0 (pa_cons (pv 0) (pa_cons (pe_lst (pa_cons pe_int (pa_cons pe_int (pa_cons pe_int (pa_cons pe_int (pa_cons pe_int (pa_cons pe_int (pa_cons pe_int pa_nil)))))))) pa_nil))))
    (C8.pss_cut (ps_set (i := 4) scSpr.nd rfl (Or.inl rfl) (pe_op op_cat (pe_op op_cat (pe_lst (pa_cons (pv 2) pa_nil)) (pe_op op_rep (pe_lst (pa_cons (pe_tup (pa_cons pe_int (pa_cons pe_int pa_nil))) pa_nil)) (pv 3))) (pe_lst (pa_cons (pe_use UF hr rfl pass0 (pa_cons (pv 0) pa_nil)) pa_nil))))
    (pss_one (ps_ret (pe_slice sl_list (pe_op op_cat (pv 4) (pe_lc (own := [("_law_k", 5)]) (g := gName 5) (tt := tYes) rfl scSpr.nd (pi_range1 rfl mr (pa_cons (pv 1) pa_nil)) (blkOk_by (N := nSp) (sc := defScope L_spread) (by decide +kernel)) (fun _ _ _ _ _ => pg_name (i := 5) scSpr.nd rfl (Or.inl rfl)) (fun _ _ _ _ _ => pts_nil) (fun _ _ _ _ _ => pe_use UN hr3 rfl pass0 (pa_cons (pv 0) pa_nil))))
      po_none (po_some (pv 1)))))), ?_⟩
  refine ⟨fun σ H1 => ∃ g : Nat, σ = [some (.ref B), some (.int (n : Nat)), some v, some (.int (g : Nat)), none, none] ∧ g ≤ 3 ∧ Bag H1 B p ∧ But B H H1, ?_, ?_⟩
  · refine ⟨_, rfl, (by show 7 ≤ sizeLine; decide), fun l nl => ⟨B, p, l, _, rfl, upd_same, (hb.at nl).1, (by show 0 < 7; decide), (by show 7 ≤ 1000; decide), hb.put nl, fun H1 x b1 u1 hx => ?_⟩⟩
    have u1 : But B H H1 := (But.new nl).trans u1
    obtain ⟨g, rfl, g3⟩ : ∃ g : Nat, x = .int (g : Nat) ∧ g ≤ 3 := by
      simp only [List.mem_cons, List.not_mem_nil, or_false] at hx
      rcases hx with rfl | rfl | rfl | rfl | rfl | rfl | rfl
      · exact ⟨0, rfl, by decide⟩
      · exact ⟨1, rfl, by decide⟩
      · exact ⟨0, rfl, by decide⟩
      · exact ⟨2, rfl, by decide⟩
      · exact ⟨0, rfl, by decide⟩
      · exact ⟨1, rfl, by decide⟩
      · exact ⟨3, rfl, by decide⟩
    exact ⟨g, rfl, g3, b1, u1⟩
  rintro σ H1 ⟨g, rfl, g3, b1, u1⟩
  have nv1 := nv.go hb (Go.of u1)
  refine ⟨fun σ H2 => ∃ (e : Addr) (xs : List V) (qs : List Rat), σ = [some (.ref B), some (.int (n : Nat)), some v, some (.int (g : Nat)), some (.ref e), none] ∧ Bag H2 B p ∧ But B H H2 ∧ e ≠ B ∧ H2 e = some (.lst xs) ∧ Nl K H2 xs qs ∧ AllB 21 qs ∧ qs.length ≤ 5, ?_, ?_⟩
  · refine ⟨_, rfl, (by show 1 ≤ sizeLine; decide), fun a na => ⟨(by show 2 ≤ sizeLine; decide), fun t nt => ⟨(by show 1 ≤ sizeLine; decide), fun c nc => ⟨_, rfl, c, (g : Int), [.ref t], rfl, rfl, upd_same, by omega, by omega, (by show 1 * _ ≤ sizeLine; exact Nat.le_of_lt (small1000 (by omega))), fun d nd => ?_⟩⟩⟩⟩
    have rep : (List.replicate ((g : Nat) : Int).toNat [V.ref t]).flatten = List.replicate g (.ref t) := by
      rw [Int.toNat_natCast, List.flatten_replicate_singleton]
    rw [rep]
    have s1 := new_same na (HO.lst [v])
    have s2 := new_same nt (HO.tup [.int 0, .int 1])
    have s3 := new_same nc (HO.lst [V.ref t])
    have s4 := new_same nd (HO.lst (List.replicate g (V.ref t)))
    refine ⟨a, d, _, _, rfl, rfl, s4 _ _ (s3 _ _ (s2 _ _ upd_same)), upd_same, Nat.le_of_lt (small1000 (by rw [List.length_replicate]; show 1 + _ ≤ _; omega)), fun e ne => ?_⟩
    have s5 := new_same ne (HO.lst ([v] ++ List.replicate g (V.ref t)))
    have sA := s1.trans (s2.trans (s3.trans (s4.trans s5)))
    have z0 : Nq K _ (.ref t) 0 := .at (K := K) ((s3.trans (s4.trans s5)) _ _ (show _ = some (rT 0) from upd_same))
    have nE := Nl.cons (nv1.same sA) (rep_nl z0 g)
    have eE : upd (upd (upd (upd (upd H1 a (HO.lst [v])) t (HO.tup [.int 0, .int 1])) c (HO.lst [V.ref t])) d (HO.lst (List.replicate g (V.ref t)))) e (HO.lst ([v] ++ List.replicate g (V.ref t))) e = some (HO.lst (v :: List.replicate g (V.ref t))) := upd_same
    have bE := b1.same sA
    have eB : e ≠ B := ((b1.same (s1.trans (s2.trans (s3.trans s4)))).at ne).1
    generalize upd (upd (upd (upd (upd H1 a (HO.lst [v])) t (HO.tup [.int 0, .int 1])) c (HO.lst [V.ref t])) d (HO.lst (List.replicate g (V.ref t)))) e (HO.lst ([v] ++ List.replicate g (V.ref t))) = HE at sA nE eE bE
    refine ⟨_, rfl, B, p, rfl, bE, fun H2 y r b2 u2 ny br => ⟨(by show 1 ≤ sizeLine; decide), fun l nl => ?_⟩⟩
    have s6 := new_same nl (HO.lst [y])
    refine ⟨e, l, _, _, rfl, rfl, s6 _ _ (u2 _ _ eB eE), upd_same, Nat.le_of_lt (small1000 (by rw [List.length_cons, List.length_replicate]; show _ + 1 ≤ _; omega)), fun k nk => ?_⟩
    have s7 := new_same nk (HO.lst ((v :: List.replicate g (V.ref t)) ++ [y]))
    have s67 := s6.trans s7
    refine ⟨k, _, (q0 :: List.replicate g 0) ++ [r], rfl, b2.same s67, ((u1.trans (But.same sA)).trans u2).trans (But.same s67), ((b2.same s6).at nk).1, upd_same, ((nE.go bE (Go.of u2)).snoc ny).same s67, fun r' hr' => ?_, by rw [List.length_append, List.length_cons, List.length_replicate]; show _ + 1 + 1 ≤ 5; omega⟩
    rcases List.mem_append.mp hr' with h | h
    · rcases List.mem_cons.mp h with h | h
      · rw [h]; exact bv
      · rw [List.eq_of_mem_replicate h]; exact ⟨by decide, by decide⟩
    · rw [List.mem_singleton.mp h]; exact br
  clear nv1 b1 u1
  rintro σ H2 ⟨e, xs, qs, rfl, b2, u2, eB, he, nx, bq, l5⟩
  have lx : xs.length = qs.length := nx.1
  refine ⟨_, rfl, _, rfl, _, rfl, by omega, by omega, fun D nD => ?_⟩
  have DB := b2.at nD
  refine lc_range (lo := 0) (n := ((n : Nat) : Int).toNat) (fun i H' => Bag H' B p ∧ But B H2 H' ∧ ∃ ys rs, H' D = some (.lst ys) ∧ Nl K H' ys rs ∧ rs.length = i ∧ AllB 21 rs) ⟨b2.put nD, But.new nD, [], [], upd_same, Nl.nil, rfl, fun _ h => nomatch h⟩ ?_ ?_
  · rintro i H' hi ⟨b', u', ys, rs, hD, ny, rl, br⟩
    have yl : ys.length = i := by rw [ny.1, rl]
    refine ⟨rfl, yesT ⟨_, rfl, B, p, rfl, b', fun H5 y r b5 u5 nr brr => ?_⟩⟩
    have hD5 := u5 _ _ DB.1 hD
    refine ⟨ys, hD5, small1000 (by omega), ?_, ?_, ys ++ [y], rs ++ [r], upd_same, ?_, by rw [List.length_append, rl]; rfl, ?_⟩
    · exact b5.upd DB.1 DB.2
    · intro b o hb he
      rw [upd_ne (fun z => by rw [z, nD] at he; cases he)]
      exact u5 _ _ hb (u' _ _ hb he)
    · exact ((ny.go b' (Go.of u5)).snoc nr).wk (.set hD5)
    · intro t ht
      rcases List.mem_append.mp ht with ht | ht
      · exact br t ht
      · rw [List.mem_singleton.mp ht]; exact brr
  · rintro H3 ⟨b3, u3, ys, rs, hD, ny, rl, br⟩
    rw [Int.toNat_natCast] at rl
    have he3 := u3 _ _ eB he
    have nx3 := nx.go b2 (Go.of u3)
    have yl : ys.length = n := by rw [ny.1, rl]
    refine ⟨e, D, _, _, rfl, rfl, he3, hD, Nat.le_of_lt (small1000 (by omega)), fun k nk => ?_⟩
    have s4 := new_same nk (HO.lst (xs ++ ys))
    refine ⟨_, rfl, (n : Int), rfl, k, _, rfl, SqL.of upd_same, fun m nm => ?_⟩
    have ec : cutV (xs ++ ys) none (some (n : Int)) = (xs ++ ys).take n := cut_take _ n
    rw [ec]
    have s5 := new_same nm (HO.lst ((xs ++ ys).take n))
    have s45 := s4.trans s5
    refine q _ _ ((qs ++ rs).take n) (b3.same s45) ((u2.trans u3).trans (But.same s45)) ⟨m, _, rfl, upd_same, ((nx3.app ny).take n).same s45⟩ (by rw [List.length_take, List.length_append]; omega) fun t ht => ?_
    rcases List.mem_append.mp (List.mem_of_mem_take ht) with h | h
    · exact bq t h
    · exact br t h
end
end Kx
end
section
set_option maxHeartbeats 4000000
namespace Kx
open PySem PySem.Spec PyProof.Rows L2 RZ
def spKd (K : PySem.W.Frag) : Sp := fun vs H Q _ => ∃ (x : V) (qs : List Rat), vs = [x] ∧ Ls K H x qs ∧ 2 ≤ qs.length ∧ qs.length ≤ 25 ∧ ∀ H', Same H H' → Q (.str (kindS qs)) H'
theorem bad_all : ∀ (l : List Rat) (i : Nat), badL (zrs l) i = [] ↔ l.all (fun q => decide (q = 0)) = true
  | [], _ => ⟨fun _ => rfl, fun _ => rfl⟩
  | q :: l, i => by
    show (if decide (q = 0) = true then badL (zrs l) (i + 1) else i :: badL (zrs l) (i + 1)) = [] ↔ _
    rw [List.all_cons]
    by_cases c : q = 0
    · rw [if_pos (decide_eq_true c), decide_eq_true c, Bool.true_and]
      exact bad_all l (i + 1)
    · rw [if_neg (by rw [decide_eq_false c]; decide), decide_eq_false c, Bool.false_and]
      exact ⟨fun h => (nomatch h), fun h => (nomatch h)⟩
abbrev nStp : List Str := ["_law_bag_here", "_law_size", "_law_pick"]
abbrev nKd : List Str := ["_law_a", "_law_rest", "_law_k"]
section
variable {P : Program} {w : World} {K : PySem.W.Frag} {mg : Str → Option Value} {base : Heap} {f : Addr} {fd : FuncData}
theorem scStp : FnScope nStp ["_law_bag_here", "_law_size"] (defScope L_step) := ⟨rfl, rfl, rfl, by decide +kernel, rfl, by decide +kernel, by decide +kernel⟩
theorem ok_step (F : Fun K "_law_step" "_law_step" L_step f fd) (UD : Use P w K mg base CX0 1 "_law_draw" ["_law_bag_here", "_law_limit"] spDraw []) (UL : Use P w K mg base CX0 3 "_law_lead" ["_law_bag_here"] (spNum K) []) (US : Use P w K mg base CX0 5 "_law_spread" ["_law_bag_here", "_law_size", "_law_first"] (spSpr K) []) :
    FnOk P w K mg base CX0 6 f fd ["_law_bag_here", "_law_size"] (spStp K) := by
  refine F.ok scStp (fun vs H Q E h => ?_) (fun cdv A outer s H vs Q E hr h => ?_)
  · obtain ⟨B, p, n, rfl, _⟩ := h
    rfl
  obtain ⟨B, p, n, rfl, hb, n2, n24, q⟩ := h
  have hr1 := hr.mono (show 1 ≤ 5 by decide)
  have hr3 := hr.mono (show 3 ≤ 5 by decide)
  refine ⟨_, pss_cons (ps_set (i := 2) scStp.nd rfl (Or.inl rfl) (pe_use UD hr1 rfl pass0 (pa_cons (pv 0) (pa_cons pe_int pa_nil))))
    (pss_cons (ps_if (pt_cmpR op_lt (pv 2) pe_int (nomark _)) (pss_one (ps_ret (pe_op op_cat (pe_lst (pa_cons (pe_tup (pa_cons (pv 2) (pa_cons pe_int pa_nil))) pa_nil)) (pe_op op_rep (pe_lst (pa_cons (pe_tup (pa_cons pe_int (pa_cons pe_int pa_nil))) pa_nil)) (pe_op op_sub (pv 1) pe_int))))) pss_nil)
    (pss_cons (ps_if (pt_cmpR op_lt (pv 2) pe_int (nomark _)) (pss_one (ps_ret (pe_use US hr rfl pass0 (pa_cons (pv 0) (pa_cons (pv 1) (pa_cons (pe_tup (pa_cons pe_int (pa_cons pe_int pa_nil))) pa_nil)))))) pss_nil)
    (pss_cons (ps_if (pt_cmpR op_lt (pv 2) pe_int (nomark _)) (pss_one (ps_ret (pe_use US hr rfl pass0 (pa_cons (pv 0) (pa_cons (pv 1) (pa_cons (pe_tup (pa_cons (pe_un un_neg pe_int) (pa_cons pe_int pa_nil))) pa_nil)))))) pss_nil)
    (pss_cons (ps_if (pt_cmpR op_lt (pv 2) pe_int (nomark _)) (pss_one (ps_ret (pe_use US hr rfl pass0 (pa_cons (pv 0) (pa_cons (pv 1) (pa_cons (pe_use UL hr3 rfl pass0 (pa_cons (pv 0) pa_nil)) pa_nil)))))) pss_nil)
    (pss_one (ps_ret (pe_use US hr rfl pass0 (pa_cons (pv 0) (pa_cons (pv 1) (pa_cons (pe_tup (pa_cons pe_int (pa_cons pe_int pa_nil))) pa_nil)))))))))), ?_⟩
  refine ⟨_, rfl, B, p, 14, rfl, by decide, by decide, hb, fun H1 k b1 u1 k0 k1 => ?_⟩
  refine ⟨_, rfl, k, 2, rfl, rfl, _, rfl, ite2 (fun c => ?_) (fun _ => ?_)⟩
  · have k2 : k < 2 := of_decide_eq_true c
    refine ⟨_, rfl, (by show 2 ≤ sizeLine; decide), fun t1 m1 => ⟨(by show 1 ≤ sizeLine; decide), fun a na => ⟨(by show 2 ≤ sizeLine; decide), fun t2 m2 => ⟨(by show 1 ≤ sizeLine; decide), fun b nb => ⟨_, rfl, (n : Int), 1, rfl, rfl, b, (n : Int) - 1, [.ref t2], rfl, rfl, upd_same, by omega, by omega, (by show 1 * _ ≤ sizeLine; exact Nat.le_of_lt (small1000 (by omega))), fun c nc => ?_⟩⟩⟩⟩⟩
    have rep : (List.replicate ((n : Int) - 1).toNat [V.ref t2]).flatten = List.replicate (n - 1) (.ref t2) := by
      rw [List.flatten_replicate_singleton]
      congr 1
      omega
    rw [rep]
    have s1 := new_same m1 (HO.tup [.int k, .int 1])
    have s2 := new_same na (HO.lst [V.ref t1])
    have s3 := new_same m2 (HO.tup [.int 0, .int 1])
    have s4 := new_same nb (HO.lst [V.ref t2])
    have s5 := new_same nc (HO.lst (List.replicate (n - 1) (V.ref t2)))
    refine ⟨a, c, _, _, rfl, rfl, s5 _ _ (s4 _ _ (s3 _ _ upd_same)), upd_same, Nat.le_of_lt (small1000 (by rw [List.length_replicate]; show 1 + _ ≤ _; omega)), fun d nd => ?_⟩
    have s6 := new_same nd (HO.lst ([V.ref t1] ++ List.replicate (n - 1) (V.ref t2)))
    have sA := s1.trans (s2.trans (s3.trans (s4.trans (s5.trans s6))))
    have z0 : Nq K _ (.ref t2) 0 := .at (K := K) ((s4.trans (s5.trans s6)) _ _ (show _ = some (rT 0) from upd_same))
    have fin : ∀ r : Rat, rT r = HO.tup [.int k, .int 1] → Bq 21 r → Q (.ref d) _ := fun r e br => by
      have z1 : Nq K _ (.ref t1) r := .at (K := K) ((s2.trans (s3.trans (s4.trans (s5.trans s6)))) _ _ (show _ = some (rT r) by rw [e]; exact upd_same))
      refine q _ _ (r :: List.replicate (n - 1) 0) (b1.same sA) (u1.trans (But.same sA)) ⟨d, _, rfl, upd_same, Nl.cons z1 (rep_nl z0 _)⟩ (by rw [List.length_cons, List.length_replicate]; omega) fun t ht => ?_
      rcases List.mem_cons.mp ht with h | h
      · rw [h]; exact br
      · rw [List.eq_of_mem_replicate h]; exact ⟨by decide, by decide⟩
    rcases (show k = 0 ∨ k = 1 by omega) with rfl | rfl
    · exact fin 0 rfl ⟨by decide, by decide⟩
    · exact fin 1 rfl ⟨by decide, by decide⟩
  have go : ∀ (G : Hp) (v : V) (r : Rat), Bag G B p → But B H G → Nq K G v r → Bq 21 r → spSpr K [.ref B, .int (n : Nat), v] G Q E0 := fun G v r bG uG nv br => ⟨B, p, n, v, r, rfl, bG, n2, n24, nv, br, fun H' u rs b' u' l e a => q H' u rs b' (uG.trans u') l e a⟩
  refine ⟨_, rfl, k, 7, rfl, rfl, _, rfl, ite2 (fun _ => ?_) (fun _ => ?_)⟩
  · refine ⟨_, rfl, _, rfl, (by show 2 ≤ sizeLine; decide), fun t nt => ?_⟩
    have s1 := new_same nt (HO.tup [.int 1, .int 1])
    exact go _ _ 1 (b1.same s1) (u1.trans (But.same s1)) (.at upd_same) ⟨by decide, by decide⟩
  refine ⟨_, rfl, k, 9, rfl, rfl, _, rfl, ite2 (fun _ => ?_) (fun _ => ?_)⟩
  · refine ⟨_, rfl, _, rfl, _, rfl, (by show 2 ≤ sizeLine; decide), fun t nt => ?_⟩
    have s1 := new_same nt (HO.tup [.int (-1), .int 1])
    exact go _ _ (-1) (b1.same s1) (u1.trans (But.same s1)) (.at upd_same) ⟨by decide, by decide⟩
  refine ⟨_, rfl, k, 12, rfl, rfl, _, rfl, ite2 (fun _ => ?_) (fun _ => ?_)⟩
  · refine ⟨_, rfl, _, rfl, _, rfl, B, p, rfl, b1, fun H2 v r b2 u2 nv br => ?_⟩
    exact go _ _ r b2 (u1.trans u2) nv br
  · refine ⟨_, rfl, _, rfl, (by show 2 ≤ sizeLine; decide), fun t nt => ?_⟩
    have s1 := new_same nt (HO.tup [.int 0, .int 1])
    exact go _ _ 0 (b1.same s1) (u1.trans (But.same s1)) (.at upd_same) ⟨by decide, by decide⟩
end
end Kx
end
section
set_option maxHeartbeats 4000000
namespace Kx
open PySem PySem.Spec PyProof.Rows L2 RZ
/-- the places of the numbers that are not 0, from the second on: what both kind and told_so ask -/
theorem zrs_len (qs : List Rat) : (zrs qs).length = qs.length := List.length_map _
theorem zrs_drop (qs : List Rat) (n : Nat) : (zrs qs).drop n = zrs (qs.drop n) := by
  unfold zrs
  rw [List.map_drop]
section
variable {P : Program} {w : World} {K : PySem.W.Frag} {mg : Str → Option Value} {base : Heap} {f : Addr} {fd : FuncData}
theorem scKd : FnScope nKd ["_law_a"] (defScope L_kind) := ⟨rfl, rfl, rfl, by decide +kernel, rfl, by decide +kernel, by decide +kernel⟩
theorem ok_lkind (F : Fun K "_law_kind" "_law_kind" L_kind f fd) (mr : mg "range" = none) (mn : mg "len" = none) : FnOk P w K mg base CX0 1 f fd ["_law_a"] (spKd K) := by
  refine F.ok scKd (fun vs H Q E h => ?_) (fun cdv A outer s H vs Q E hr h => ?_)
  · obtain ⟨x, qs, rfl, _⟩ := h
    rfl
  obtain ⟨x, qs, rfl, ⟨a, xs, rfl, ha, nx⟩, l2, l25, q⟩ := h
  have lx : xs.length = qs.length := nx.1
  refine ⟨_, C8.pss_cut (ps_setLc (i := 1) (own := [("_law_k", 2)]) (g := gName 2) rfl scKd.nd rfl rfl (sw_true rfl rfl rfl (by decide +kernel)) (pi_range2 rfl mr (pa_cons pe_int (pa_cons (pe_callB call_len_seq rfl mn PySem.boot_len (pa_cons (pv 0) pa_nil)) pa_nil))) (blkOk_by (N := nKd) (sc := defScope L_kind) (by decide +kernel)) (fun _ _ _ _ _ => pg_name (i := 2) scKd.nd rfl (Or.inl rfl))
        (fun _ _ _ _ _ => pts_one (pt_cmpR op_ne (pe_ix (ixt_at K rfl) (pe_ix (ixl_at K rfl) (pv 0) (pv 2) (fun _ _ => rfl)) pe_int (fun _ _ => rfl)) pe_int (nomark _))) (fun _ _ _ _ _ => pv 2))
    (pss_cons (ps_if (pt_cmpR (op_eqD hr.units) (pe_ix ix_list (pv 0) pe_int (fun _ _ => rfl)) (pe_tup (pa_cons pe_int (pa_cons pe_int pa_nil))) (nomark _)) (pss_one (ps_ret (pe_ifExp (pt_cmpR (op_neD hr.units) (pv 1) (pe_lst pa_nil) (nomark _)) pe_str pe_str))) pss_nil)
    (pss_cons (ps_if (pt_cmpR (op_eqD hr.units) (pe_ix ix_list (pv 0) pe_int (fun _ _ => rfl)) (pe_tup (pa_cons pe_int (pa_cons pe_int pa_nil))) (nomark _)) (pss_one (ps_ret (pe_ifExp (pt_cmpR (op_neD hr.units) (pv 1) (pe_lst pa_nil) (nomark _)) pe_str pe_str))) pss_nil)
    (pss_one (ps_ret (pe_ifExp (pt_cmpR (op_eqD hr.units) (pe_ix ix_list (pv 0) pe_int (fun _ _ => rfl)) (pe_tup (pa_cons (pe_un un_neg pe_int) (pa_cons pe_int pa_nil))) (nomark _)) pe_str pe_str))))), ?_⟩
  refine ⟨fun σ H2 => ∃ d : Addr, σ = [some (.ref a), some (.ref d), none] ∧ Same H H2 ∧ H2 d = some (.lst ((badL (zrs (qs.drop 1)) 1).map fun n => V.int (n : Nat))), ?_, ?_⟩
  · refine ⟨_, rfl, a, xs, rfl, .inl (SqL.of ha), 1, _, rfl, ⟨by omega, by omega, by omega, by omega⟩, fun D nD => ?_⟩
    refine lc_range (lo := 1) (n := (((xs.length : Nat) : Int) - 1).toNat) (fun i H' => Same H H' ∧ H' D = some (.lst ((badL ((zrs (qs.drop 1)).take i) 1).map fun n => V.int (n : Nat)))) ⟨new_same nD _, upd_same⟩ ?_ ?_
    · rintro i H2 hi ⟨s2, hD⟩
      have hi' : i + 1 < qs.length := by omega
      have ex := List.getElem?_eq_getElem (l := xs) (i := i + 1) (by omega)
      have eq := List.getElem?_eq_getElem (l := qs) (i := i + 1) hi'
      have nq := (nx.2 _ _ _ ex eq).same s2
      obtain ⟨va, ev, sa, _⟩ := nq.sq
      have er : (zrs (qs.drop 1))[i]? = some (decide (qs[i + 1] = 0)) := by
        unfold zrs
        rw [List.getElem?_map, List.getElem?_drop, Nat.add_comm 1 i, eq]
        rfl
      have key : badL ((zrs (qs.drop 1)).take (i + 1)) 1 = if decide (qs[i + 1] = 0) = true then badL ((zrs (qs.drop 1)).take i) 1 else badL ((zrs (qs.drop 1)).take i) 1 ++ [1 + i] := by
        rw [List.take_add_one, er]
        show badL ((zrs (qs.drop 1)).take i ++ [_]) 1 = _
        rw [badL_snoc, List.length_take, Nat.min_eq_left (by rw [zrs_len, List.length_drop]; omega)]
      refine ⟨rfl, _, rfl, _, rfl, a, xs, _, _, rfl, rfl, SqL.of (s2 _ _ ha), at_of (j := i + 1) (by omega) ex, va, _, 0, _, ev, rfl, sa, rfl, rfl, _, rfl, ?_⟩
      by_cases c : qs[i + 1].num = 0
      · have c0 : qs[i + 1] = 0 := Rat.num_eq_zero.mp c
        rw [decide_eq_true (congrArg V.int c)]
        refine iteF ⟨s2, ?_⟩
        rw [key, if_pos (decide_eq_true c0)]
        exact hD
      · have c0 : ¬ qs[i + 1] = 0 := fun e => c (by rw [e]; rfl)
        rw [decide_eq_false (fun e => c (V.int.inj e))]
        refine iteT ⟨_, rfl, _, hD, small1000 (by rw [List.length_map]; have := badL_len ((zrs (qs.drop 1)).take i) 1; rw [List.length_take, zrs_len, List.length_drop] at this; omega), fun e o h => by rw [upd_ne (ne_of_none h nD)]; exact s2 _ _ h, ?_⟩
        rw [upd_same, key, if_neg (by rw [decide_eq_false c0]; decide), List.map_append]
        show _ = some (HO.lst (_ ++ [V.int ((1 + i : Nat) : Int)]))
        rw [show ((1 + i : Nat) : Int) = 1 + (i : Int) by omega]
    · rintro H2 ⟨s2, hD⟩
      rw [List.take_of_length_le (by rw [zrs_len, List.length_drop]; omega)] at hD
      exact ⟨D, rfl, s2, hD⟩
  rintro σ H2 ⟨d, rfl, s2, hd⟩
  obtain ⟨x0, e0, n0⟩ := nx.get' (i := 0) (by omega)
  have g0 : qs.getD 0 0 = qs[0] := by rw [List.getD_eq_getElem?_getD, List.getElem?_eq_getElem (by omega)]; rfl
  generalize hq0 : qs[0] = q0 at n0 g0
  have ba := bad_all (qs.drop 1) 1
  -- both branches that ask the rest
  have rest : ∀ (G : Hp) (s : Same H G) (u v : Str), G d = some (.lst ((badL (zrs (qs.drop 1)) 1).map fun n => V.int (n : Nat))) →
      ((qs.drop 1).all (fun q => decide (q = 0)) = true → kindS qs = v) → ((qs.drop 1).all (fun q => decide (q = 0)) ≠ true → kindS qs = u) →
      ∀ e, G e = none → ∃ x1 y1, Dp K (upd G e (.lst [])) (.ref d) x1 ∧ Dp K (upd G e (.lst [])) (.ref e) y1 ∧ SeqAt.shaped x1 = true ∧ SeqAt.shaped y1 = true ∧ ∃ c, V.bl (!PyData.eqv x1 y1) = V.bl c ∧ (if c = true then Q (.str u) (upd G e (.lst [])) else Q (.str v) (upd G e (.lst []))) := by
    intro G s u v hG h1 h2 e ne
    have s3 := new_same ne (HO.lst [])
    refine ⟨datI (badL (zrs (qs.drop 1)) 1), .list [], .lst (SqL.of (s3 _ _ hG)) (dp_int _), .lst (SqL.of upd_same) .nil, shaped_int _, rfl, _, rfl, ?_⟩
    cases hb : badL (zrs (qs.drop 1)) 1 with
    | nil =>
      refine iteF ?_
      rw [← h1 (ba.mp hb)]
      exact q _ (s.trans s3)
    | cons k ks =>
      refine iteT ?_
      rw [← h2 (fun z => by rw [ba.mpr z] at hb; cases hb)]
      exact q _ (s.trans s3)
  have kd : ∀ {c : Str}, kindS qs = c ↔ (if q0 = 0 then (if (qs.drop 1).all (fun q => decide (q = 0)) = true then ("nothing" : Str) else "crush") else if q0 = 1 then (if (qs.drop 1).all (fun q => decide (q = 0)) = true then "still" else "creep") else if q0 = -1 then "flip" else "stretch") = c := fun {c} => by
    unfold kindS
    rw [g0]
  refine ⟨_, rfl, a, _, 0, _, rfl, rfl, SqL.of (s2 _ _ ha), at_of (j := 0) rfl e0, (by show 2 ≤ sizeLine; decide), fun t nt => ?_⟩
  have s3 := s2.trans (new_same nt (HO.tup [.int 0, .int 1]))
  have hd3 := new_same nt (HO.tup [.int 0, .int 1]) _ _ hd
  refine ⟨tupQ q0, tupQ 0, (n0.same s3).dp, (Nq.at (K := K) (show upd H2 t (HO.tup [.int 0, .int 1]) t = some (rT 0) from upd_same)).dp, rfl, rfl, _, rfl, ?_⟩
  rw [eqv_num]
  generalize upd H2 t (HO.tup [.int 0, .int 1]) = H3 at s3 hd3
  by_cases c0 : q0 = 0
  · rw [decide_eq_true c0]
    refine iteT ⟨_, rfl, (by show 0 ≤ sizeLine; decide), fun e ne => ?_⟩
    obtain ⟨x1, y1, d1, d2, d3, d4, c, ec, hc⟩ := rest H3 s3 "crush" "nothing" hd3 (fun z => kd.mpr (by rw [if_pos c0, if_pos z])) (fun z => kd.mpr (by rw [if_pos c0, if_neg z])) e ne
    exact ⟨x1, y1, d1, d2, d3, d4, c, ec, hc⟩
  rw [decide_eq_false c0]
  refine iteF ⟨_, rfl, a, _, 0, _, rfl, rfl, SqL.of (s3 _ _ ha), at_of (j := 0) rfl e0, (by show 2 ≤ sizeLine; decide), fun t2 nt2 => ?_⟩
  have s4 := s3.trans (new_same nt2 (HO.tup [.int 1, .int 1]))
  have hd4 := new_same nt2 (HO.tup [.int 1, .int 1]) _ _ hd3
  refine ⟨tupQ q0, tupQ 1, (n0.same s4).dp, (Nq.at (K := K) (show upd H3 t2 (HO.tup [.int 1, .int 1]) t2 = some (rT 1) from upd_same)).dp, rfl, rfl, _, rfl, ?_⟩
  rw [eqv_num]
  generalize upd H3 t2 (HO.tup [.int 1, .int 1]) = H4 at s4 hd4
  by_cases c1 : q0 = 1
  · rw [decide_eq_true c1]
    refine iteT ⟨_, rfl, (by show 0 ≤ sizeLine; decide), fun e ne => ?_⟩
    obtain ⟨x1, y1, d1, d2, d3, d4, c, ec, hc⟩ := rest H4 s4 "creep" "still" hd4 (fun z => kd.mpr (by rw [if_neg c0, if_pos c1, if_pos z])) (fun z => kd.mpr (by rw [if_neg c0, if_pos c1, if_neg z])) e ne
    exact ⟨x1, y1, d1, d2, d3, d4, c, ec, hc⟩
  rw [decide_eq_false c1]
  refine iteF ⟨_, rfl, a, _, 0, _, rfl, rfl, SqL.of (s4 _ _ ha), at_of (j := 0) rfl e0, _, rfl, (by show 2 ≤ sizeLine; decide), fun t3 nt3 => ?_⟩
  have s5 := s4.trans (new_same nt3 (HO.tup [.int (-1), .int 1]))
  refine ⟨tupQ q0, tupQ (-1), (n0.same s5).dp, (Nq.at (K := K) (show upd H4 t3 (HO.tup [.int (-1), .int 1]) t3 = some (rT (-1)) from upd_same)).dp, rfl, rfl, _, rfl, ?_⟩
  rw [eqv_num]
  by_cases c2 : q0 = -1
  · rw [decide_eq_true c2]
    refine iteT ?_
    have := q _ s5
    rw [(kd (c := "flip")).mpr (by rw [if_neg c0, if_neg c1, if_pos c2])] at this
    exact this
  · rw [decide_eq_false c2]
    refine iteF ?_
    have := q _ s5
    rw [(kd (c := "stretch")).mpr (by rw [if_neg c0, if_neg c1, if_neg c2])] at this
    exact this
end
end Kx
end
section
set_option maxHeartbeats 4000000
namespace Kx
open PySem PySem.Spec PyProof.Rows L2 RZ
/-- the == of the steps: two steps, or a step and another thing -/
def spEqF (K : PySem.W.Frag) (S : Addr) : Sp := fun vs H Q _ => ∃ (x y : V) (qs : List Rat), vs = [x, y] ∧ StAt K S H x qs ∧ ((∃ rs, StAt K S H y rs ∧ Q (.bl (decide (qs = rs))) H) ∨ (∃ T, TyX K H y T ∧ PySem.W.kitOne K T (.ref S) = some false ∧ Q (.bl false) H))
section
variable {P : Program} {w : World} {K : PySem.W.Frag} {mg : Str → Option Value} {base : Heap} {f C S CF CO : Addr} {fd : FuncData} {H : Hp}
theorem ok_seqF (G : Fun K "__eq__" "Step.__eq__" C_Step_eq f fd) (k : StepK P w K mg base C S CF CO) (mI : mg "isinstance" = none) : FnOk P w K mg base CX0 1 f fd ["self", "other"] (spEqF K S) := by
  refine G.ok scSE (fun vs H Q E h => ?_) (fun cdv A outer s H vs Q E hr h => ?_)
  · obtain ⟨x, y, qs, rfl, _⟩ := h
    rfl
  obtain ⟨v, u, qs, rfl, hS, hh⟩ := h
  obtain ⟨x, dx, b, xs, fs, rfl, hx, hb, nx, f1, _⟩ := hS.num
  refine ⟨_, pss_one (ps_ret (pe_and (pe_callB call_isi rfl mI (by decide +kernel) (pa_cons (pv 1) (pa_cons (C8.pe_gc (v := .ref S) rfl ⟨_, k.m, rfl⟩) pa_nil))) (pe_one (pe_cmpR (op_eqD hr.units) (pe_fld (pv 0) rfl) (pe_fld (pv 1) rfl) (nomark _))))), ?_⟩
  rcases hh with ⟨rs, hT, q⟩ | ⟨T, ty, kt, q⟩
  · obtain ⟨y, dy, c, ys, gs, rfl, hy, hc, ny, g1, _⟩ := hT.num
    refine ⟨_, rfl, .ref y, .ref S, .ref S, .ref S, true, rfl, .own S, k.ty _ _ _ _ hy, k.kit, _, rfl, iteT ?_⟩
    refine ⟨_, rfl, x, S, dx, _, _, rfl, hx, k.c, k.nA _ (by simp [stN]), f1, _, rfl, y, S, dy, _, _, rfl, hy, k.c, k.nA _ (by simp [stN]), g1, datL qs, datL rs, nx.dp hb, ny.dp hc, shaped_list _, shaped_list _, ?_⟩
    rw [eqv_list]
    exact q
  · exact ⟨_, rfl, u, .ref S, T, .ref S, false, rfl, .own S, ty, kt, _, rfl, iteF q⟩
/-- it serves like, too -/
theorem ok_seqS (h : FnOk P w K mg base CX0 1 f fd ["self", "other"] (spEqF K S)) : FnOk P w K mg base CX0 1 f fd ["self", "other"] (spEqS K S) :=
  h.imp fun vs H Q E ⟨x, y, qs, e, hS, hh⟩ => by
    refine ⟨x, y, qs, e, hS, ?_⟩
    rcases hh with ⟨rfl, q⟩ | ⟨T, ty, kt, q⟩
    · exact .inl ⟨qs, hS, by rw [decide_eq_true rfl]; exact q⟩
    · exact .inr ⟨T, ty, kt, q⟩
/-- two steps compared -/
theorem rd_eqS {vx vy : V} {qs rs : List Rat} {E : XK} {R : VK} (k : StepK P w K mg base C S CF CO) (hX : StAt K S H vx qs) (hY : StAt K S H vy rs) (q : R (.bl (decide (qs = rs))) H) : rEqO K S (spEqF K S) E vx vy H R := by
  have nf : PySem.W.notFirst K S (.ref S) = true := by
    unfold PySem.W.notFirst
    rw [beq_self_eq_true]
    rfl
  obtain ⟨x, dx, b, xs, x0, fv, sv, e, hx, _⟩ := id hX
  obtain ⟨y, dy, d, ys, y0, fw, sw, rfl, hy, _⟩ := id hY
  exact ⟨x, dx, _, .ref S, e, hx, k.ty _ _ _ _ hy, nf, vx, _, qs, rfl, hX, .inl ⟨rs, hY, q⟩⟩
end
/-- what list gives, in any length: all items told -/
def LiD2 (K : PySem.W.Frag) (S : Addr) (H0 H : Hp) (v : V) : Prop := (flatV v = true ∨ ∃ x dx fs, v = .ref x ∧ H x = some (.ins S dx fs)) ∨
  ∃ (a : Addr) (xs : List V) (rs : List Bool), v = .ref a ∧ SqH H a xs ∧ xs.length ≤ 60 ∧ H0 a = none ∧ Ims K S H xs rs
def spLi2 (K : PySem.W.Frag) (S : Addr) : Sp := fun vs H Q _ => ∃ B p : Addr, vs = [.ref B] ∧ Bag H B p ∧ ∀ H' v, Bag H' B p → But B H H' → LiD2 K S H H' v → Q v H'
end Kx
end
section
set_option maxHeartbeats 4000000
namespace Kx
open PySem PySem.Spec PyProof.Rows L2 RZ
/-- a short value -/
def Sm2 (K : PySem.W.Frag) (S : Addr) (H0 H : Hp) (v : V) : Prop := flatV v = true ∨ (∃ qs, StAt K S H v qs) ∨ ∃ (a : Addr) (xs : List V) (rs : List Bool), v = .ref a ∧ SqH H a xs ∧ xs.length ≤ 2 ∧ H0 a = none ∧ Ims K S H xs rs
theorem Sm2.same {K : PySem.W.Frag} {S : Addr} {H0 H H' : Hp} {v : V} (h : Sm2 K S H0 H v) (s : Same H H') : Sm2 K S H0 H' v := by
  rcases h with h | ⟨qs, h⟩ | ⟨a, xs, rs, e, h, l, n, I⟩
  · exact .inl h
  · exact .inr (.inl ⟨qs, h.same s⟩)
  · exact .inr (.inr ⟨a, xs, rs, e, h.same s, l, n, I.wk (.of s)⟩)
theorem Sm2.but {K : PySem.W.Frag} {S B p : Addr} {H0 H H' : Hp} {v : V} (h : Sm2 K S H0 H v) (b : Bag H B p) (b' : Bag H' B p) (u : But B H H') : Sm2 K S H0 H' v := by
  rcases h with h | ⟨qs, h⟩ | ⟨a, xs, rs, e, h, l, n, I⟩
  · exact .inl h
  · exact .inr (.inl ⟨qs, h.go b (Go.of u)⟩)
  · refine .inr (.inr ⟨a, xs, rs, e, ?_, l, n, I.wk (.but b b' u)⟩)
    rcases h with h | h
    · exact .inl (lst_go h (by omega) b (Go.of u))
    · exact .inr (tup_go h b (Go.of u))
theorem Sm2.li {K : PySem.W.Frag} {S : Addr} {H0 H : Hp} {v : V} (h : Sm2 K S H0 H v) : LiD2 K S H0 H v := by
  rcases h with h | ⟨qs, x, dx, b, xs, x0, fv, sv, e, h, _⟩ | ⟨a, xs, rs, e, h, l, n, I⟩
  · exact .inl (.inl h)
  · exact .inl (.inr ⟨x, dx, _, e, h⟩)
  · exact .inr ⟨a, xs, rs, e, h, by omega, n, I⟩
theorem ims_flat {K : PySem.W.Frag} {S : Addr} {H : Hp} {xs : List V} (h : ∀ x ∈ xs, flatV x = true) : Ims K S H xs (List.replicate xs.length false) := by
  refine ⟨by rw [List.length_replicate], fun i x r h1 h2 => ?_⟩
  rw [List.getElem?_replicate] at h2
  split at h2
  · rw [← Option.some.inj h2]
    exact .inr ⟨rfl, .flat (h x (List.mem_of_getElem? h1))⟩
  · cases h2
section
variable {P : Program} {w : World} {K : PySem.W.Frag} {mg : Str → Option Value} {base : Heap} {f C S CF CO pS gS : Addr} {mc : Value} {fd fdS : FuncData}
theorem ok_list2 (F : Fun K "_law_list" "_law_list" L_list f fd) (k : StepK P w K mg base C S CF CO) (rS : ClX.CRead K S mc) (cS : CSta K S mc "still" pS gS) (FS : FnOk P w K mg base CX0 8 gS fdS ["order"] (spStil K S)) (bS : Binds K fdS ["order"] [])
    (UD : Use P w K mg base CX0 1 "_law_draw" ["_law_bag_here", "_law_limit"] spDraw []) (UO : Use P w K mg base CX0 2 "_law_of" ["_law_bag_here", "_law_things"] spOfL []) (UZ : Use P w K mg base CX0 3 "_law_any_size" ["_law_bag_here"] spSize [])
    (UN : Use P w K mg base CX0 3 "_law_number" ["_law_bag_here"] (spNum K) []) (UX : Use P w K mg base CX0 9 "_law_odd" ["_law_bag_here"] (spOdd K S) []) (mr : mg "range" = none) (mt : mg "tuple" = none) : FnOk P w K mg base CX0 10 f fd ["_law_bag_here"] (spLi2 K S) := by
  refine F.ok scLi (fun vs H Q E h => ?_) (fun cdv A outer s H vs Q E hr h => ?_)
  · obtain ⟨B, p, rfl, _⟩ := h
    rfl
  obtain ⟨B, p, rfl, hb, q⟩ := h
  have hr1 := hr.mono (show 1 ≤ 9 by decide)
  have hr2 := hr.mono (show 2 ≤ 9 by decide)
  have hr3 := hr.mono (show 3 ≤ 9 by decide)
  have hr8 := hr.mono (show 8 ≤ 9 by decide)
  refine ⟨_, C8.pss_cut (ps_set (i := 1) scLi.nd rfl (Or.inl rfl) (pe_use UD hr1 rfl pass0 (pa_cons (pv 0) (pa_cons pe_int pa_nil))))
    (C8.pss_cut (ps_if (pt_cmpR op_eq (pv 1) pe_int (nomark _)) (pss_one (ps_ret (pe_use UO hr2 rfl pass0 (pa_cons (pv 0) (pa_cons (pe_lst (pa_cons pe_non (pa_cons pe_bl (pa_cons pe_int (pa_cons pe_str (pa_cons pe_str (pa_cons pe_str (pa_cons (pe_static (C8.pe_gc (v := .ref S) rfl ⟨_, k.m, rfl⟩) rS cS FS hr8 bS pass0 (pa_cons pe_int pa_nil))
        (pa_cons (pe_tup (pa_cons pe_int (pa_cons pe_int pa_nil))) (pa_cons (pe_tup (pa_cons pe_int (pa_cons pe_int pa_nil))) (pa_cons (pe_lst pa_nil) (pa_cons (pe_tup pa_nil) (pa_cons (pe_lst (pa_cons (pe_lst pa_nil) pa_nil)) (pa_cons (pe_tup (pa_cons (pe_tup (pa_cons pe_int (pa_cons pe_int pa_nil))) (pa_cons (pe_tup (pa_cons pe_int (pa_cons pe_int pa_nil))) pa_nil))) pa_nil)))))))))))))) pa_nil))))) pss_nil)
    (C8.pss_cut (ps_set (i := 2) scLi.nd rfl (Or.inl rfl) (pe_ifExp (pt_cmpR op_lt (pv 1) pe_int (nomark _)) (pe_use UZ hr3 rfl pass0 (pa_cons (pv 0) pa_nil)) (pe_use UO hr2 rfl pass0 (pa_cons (pv 0) (pa_cons (pe_lst (pa_cons pe_int (pa_cons pe_int (pa_cons pe_int (pa_cons pe_int (pa_cons pe_int (pa_cons pe_int (pa_cons pe_int (pa_cons pe_int pa_nil))))))))) pa_nil)))))
    (C8.pss_cut (ps_setLc (i := 3) (own := [("_law_k", 4)]) (g := gName 4) (tt := tYes) rfl scLi.nd rfl rfl (sw_true rfl rfl rfl (by decide +kernel)) (pi_range1 rfl mr (pa_cons (pv 2) pa_nil)) (blkOk_by (N := nLi) (sc := defScope L_list) (by decide +kernel)) (fun _ _ _ _ _ => pg_name (i := 4) scLi.nd rfl (Or.inl rfl)) (fun _ _ _ _ _ => pts_nil) (fun _ _ _ _ _ => pe_use UN hr3 rfl pass0 (pa_cons (pv 0) pa_nil)))
    (C8.pss_cut (ps_if (PW.pt (pw_and (pt_cmpR (op_neD hr.units) (pv 3) (pe_lst pa_nil) (nomark _)) (pw_and1 (pt_cmpR op_gt (pe_use UD hr1 rfl pass0 (pa_cons (pv 0) (pa_cons pe_int pa_nil))) pe_int (nomark _)))))
        (pss_one (ps_for PassesOwn.never rfl (pi_range1 rfl mr (pa_cons (pe_op op_add pe_int (pe_use UD hr1 rfl pass0 (pa_cons (pv 0) (pa_cons pe_int pa_nil)))) pa_nil)) (pg_name (i := 4) scLi.nd rfl (Or.inl rfl))
          (pss_one (ps_asg (pe_use UX hr rfl pass0 (pa_cons (pv 0) pa_nil)) (pg_sub (pv 3) (pe_use UD hr1 rfl pass0 (pa_cons (pv 0) (pa_cons (pv 2) pa_nil))) set_list))))) pss_nil)
    (pss_one (ps_ret (pe_ifExp (pt_cmpR op_eq (pe_use UD hr1 rfl pass0 (pa_cons (pv 0) (pa_cons pe_int pa_nil))) pe_int (nomark _)) (pe_callTy call_tuple_of rfl mt (by decide +kernel) (pa_cons (pv 3) pa_nil)) (pv 3)))))))), ?_⟩
  refine ⟨fun σ H1 => ∃ kk : Int, σ = [some (.ref B), some (.int kk), none, none, none] ∧ Bag H1 B p ∧ But B H H1, ?_, ?_⟩
  · exact ⟨_, rfl, B, p, 9, rfl, by decide, by decide, hb, fun H1 kk b1 u1 _ _ => ⟨kk, rfl, b1, u1⟩⟩
  rintro σ H1 ⟨kk, rfl, b1, u1⟩
  refine ⟨fun σ H2 => σ = [some (.ref B), some (.int kk), none, none, none] ∧ Bag H2 B p ∧ But B H H2, ?_, ?_⟩
  · refine ⟨_, rfl, rfl, _, rfl, ite2 (fun _ => ?_) (fun _ => ⟨rfl, b1, u1⟩)⟩
    refine ⟨_, rfl, rfl, 3, rfl, by decide, by decide, fun G0 y0 s0 h0 => ?_⟩
    refine ⟨(by show 2 ≤ sizeLine; decide), fun t1 n1 => ?_⟩
    have s1 := new_same n1 (HO.tup [.int 1, .int 2])
    have h1 : (upd G0 t1 (HO.tup [.int 1, .int 2])) t1 = some (HO.tup [.int 1, .int 2]) := upd_same
    generalize upd G0 t1 (HO.tup [.int 1, .int 2]) = G1 at s1 h1 ⊢
    refine ⟨(by show 2 ≤ sizeLine; decide), fun t2 n2 => ?_⟩
    have s2 := new_same n2 (HO.tup [.int 1, .int 1])
    have h2 : (upd G1 t2 (HO.tup [.int 1, .int 1])) t2 = some (HO.tup [.int 1, .int 1]) := upd_same
    generalize upd G1 t2 (HO.tup [.int 1, .int 1]) = G2 at s2 h2 ⊢
    refine ⟨(by show 0 ≤ sizeLine; decide), fun t3 n3 => ?_⟩
    have s3 := new_same n3 (HO.lst [])
    have h3 : (upd G2 t3 (HO.lst [])) t3 = some (HO.lst []) := upd_same
    generalize upd G2 t3 (HO.lst []) = G3 at s3 h3 ⊢
    refine ⟨(by show 0 ≤ sizeLine; decide), fun t4 n4 => ?_⟩
    have s4 := new_same n4 (HO.tup [])
    have h4 : (upd G3 t4 (HO.tup [])) t4 = some (HO.tup []) := upd_same
    generalize upd G3 t4 (HO.tup []) = G4 at s4 h4 ⊢
    refine ⟨(by show 0 ≤ sizeLine; decide), fun t5 n5 => ?_⟩
    have s5 := new_same n5 (HO.lst [])
    have h5 : (upd G4 t5 (HO.lst [])) t5 = some (HO.lst []) := upd_same
    generalize upd G4 t5 (HO.lst []) = G5 at s5 h5 ⊢
    refine ⟨(by show 1 ≤ sizeLine; decide), fun t6 n6 => ?_⟩
    have s6 := new_same n6 (HO.lst [V.ref t5])
    have h6 : (upd G5 t6 (HO.lst [V.ref t5])) t6 = some (HO.lst [V.ref t5]) := upd_same
    generalize upd G5 t6 (HO.lst [V.ref t5]) = G6 at s6 h6 ⊢
    refine ⟨(by show 2 ≤ sizeLine; decide), fun t7 n7 => ?_⟩
    have s7 := new_same n7 (HO.tup [.int 1, .int 2])
    have h7 : (upd G6 t7 (HO.tup [.int 1, .int 2])) t7 = some (HO.tup [.int 1, .int 2]) := upd_same
    generalize upd G6 t7 (HO.tup [.int 1, .int 2]) = G7 at s7 h7 ⊢
    refine ⟨(by show 2 ≤ sizeLine; decide), fun t8 n8 => ?_⟩
    have s8 := new_same n8 (HO.tup [.int 1, .int 3])
    have h8 : (upd G7 t8 (HO.tup [.int 1, .int 3])) t8 = some (HO.tup [.int 1, .int 3]) := upd_same
    generalize upd G7 t8 (HO.tup [.int 1, .int 3]) = G8 at s8 h8 ⊢
    refine ⟨(by show 2 ≤ sizeLine; decide), fun t9 n9 => ?_⟩
    have s9 := new_same n9 (HO.tup [V.ref t7, V.ref t8])
    have h9 : (upd G8 t9 (HO.tup [V.ref t7, V.ref t8])) t9 = some (HO.tup [V.ref t7, V.ref t8]) := upd_same
    generalize upd G8 t9 (HO.tup [V.ref t7, V.ref t8]) = G9 at s9 h9 ⊢
    refine ⟨(by show 13 ≤ sizeLine; decide), fun L nL => ?_⟩
    have z6 := (s7.trans s8).trans s9
    have z4 := (s5.trans s6).trans z6
    have z3 := s4.trans z4
    have z2 := s3.trans z3
    have z1 := s2.trans z2
    have z0 := s1.trans z1
    have bG := b1.same (s0.trans z0)
    refine ⟨B, p, L, _, rfl, upd_same, (bG.at nL).1, (by show 0 < 13; decide), (by show 13 ≤ 1000; decide), bG.put nL, fun H2 x b2 u2 hx => ?_⟩
    have uu : But B H H2 := u1.trans ((But.same (s0.trans z0)).trans ((But.new nL).trans u2))
    have fin : Sm2 K S H G9 x → Q x H2 := fun h => q H2 x b2 uu (((h.same (new_same nL _)).but (bG.put nL) b2 u2).li)
    have fr : ∀ {G : Hp} {t : Addr}, Same H1 G → G t = none → H t = none := fun s n => u1.free b1 (s.free n)
    simp only [List.mem_cons, List.not_mem_nil, or_false] at hx
    rcases hx with rfl | rfl | rfl | rfl | rfl | rfl | rfl | rfl | rfl | rfl | rfl | rfl | rfl
    · exact fin (.inl rfl)
    · exact fin (.inl rfl)
    · exact fin (.inl rfl)
    · exact fin (.inl rfl)
    · exact fin (.inl rfl)
    · exact fin (.inl rfl)
    · exact fin (.inr (.inl ⟨_, h0.same z0⟩))
    · exact fin (.inr (.inr ⟨_, _, _, rfl, .inr (z1 _ _ h1), by decide, fr s0 n1, ims_flat (by simp [flatV])⟩))
    · exact fin (.inr (.inr ⟨_, _, _, rfl, .inr (z2 _ _ h2), by decide, fr (s0.trans s1) n2, ims_flat (by simp [flatV])⟩))
    · exact fin (.inr (.inr ⟨_, _, _, rfl, .inl (z3 _ _ h3), by decide, fr (s0.trans (s1.trans s2)) n3, ims_flat (fun _ h => nomatch h)⟩))
    · exact fin (.inr (.inr ⟨_, _, _, rfl, .inr (z4 _ _ h4), by decide, fr (s0.trans (s1.trans (s2.trans s3))) n4, ims_flat (fun _ h => nomatch h)⟩))
    · refine fin (.inr (.inr ⟨_, _, [false], rfl, .inl (z6 _ _ h6), (by show 1 ≤ 2; decide), fr (s0.trans (s1.trans (s2.trans (s3.trans (s4.trans s5))))) n6, rfl, fun i x r e1 e2 => ?_⟩))
      match i, e1, e2 with
      | 0, e1, e2 =>
        rw [← Option.some.inj e1, ← Option.some.inj e2]
        exact .inr ⟨rfl, .lst (z6 _ _ (s6 _ _ h5))⟩
    · refine fin (.inr (.inr ⟨_, _, [true, true], rfl, .inr h9, (by show 2 ≤ 2; decide), fr (s0.trans (s1.trans (s2.trans (s3.trans (s4.trans (s5.trans (s6.trans (s7.trans s8)))))))) n9, rfl, fun i x r e1 e2 => ?_⟩))
      match i, e1, e2 with
      | 0, e1, e2 =>
        rw [← Option.some.inj e1, ← Option.some.inj e2]
        exact .inl ⟨rfl, mkRat 1 2, .at (K := K) (s9 _ _ (s8 _ _ h7)), by decide, by decide⟩
      | 1, e1, e2 =>
        rw [← Option.some.inj e1, ← Option.some.inj e2]
        exact .inl ⟨rfl, mkRat 1 3, .at (K := K) (s9 _ _ h8), by decide, by decide⟩
  clear b1 u1
  rintro σ H2 ⟨rfl, b2, u2⟩
  refine ⟨fun σ H3 => ∃ n : Nat, σ = [some (.ref B), some (.int kk), some (.int (n : Nat)), none, none] ∧ n ≤ 27 ∧ Bag H3 B p ∧ But B H H3, ?_, ?_⟩
  · refine ⟨_, rfl, kk, 6, rfl, rfl, _, rfl, ite2 (fun _ => ?_) (fun _ => ?_)⟩
    · exact ⟨_, rfl, B, p, rfl, b2, fun H3 n b3 u3 _ n24 => ⟨n, rfl, by omega, b3, u2.trans u3⟩⟩
    · refine ⟨_, rfl, (by show 8 ≤ sizeLine; decide), fun L nL => ⟨B, p, L, _, rfl, upd_same, (b2.at nL).1, (by show 0 < 8; decide), (by show 8 ≤ 1000; decide), b2.put nL, fun H3 x b3 u3 hx => ?_⟩⟩
      have uu : But B H H3 := u2.trans ((But.new nL).trans u3)
      obtain ⟨n, rfl, hn⟩ : ∃ n : Nat, x = .int (n : Nat) ∧ n ≤ 27 := by
        simp only [List.mem_cons, List.not_mem_nil, or_false] at hx
        rcases hx with rfl | rfl | rfl | rfl | rfl | rfl | rfl | rfl
        · exact ⟨0, rfl, by decide⟩
        · exact ⟨1, rfl, by decide⟩
        · exact ⟨2, rfl, by decide⟩
        · exact ⟨3, rfl, by decide⟩
        · exact ⟨24, rfl, by decide⟩
        · exact ⟨25, rfl, by decide⟩
        · exact ⟨26, rfl, by decide⟩
        · exact ⟨27, rfl, by decide⟩
      exact ⟨n, rfl, hn, b3, uu⟩
  clear b2 u2
  rintro σ H3 ⟨n, rfl, hn, b3, u3⟩
  refine ⟨fun σ H4 => ∃ (D : Addr) (xs : List V) (qs : List Rat), σ = [some (.ref B), some (.int kk), some (.int (n : Nat)), some (.ref D), none] ∧ Bag H4 B p ∧ But B H H4 ∧ H D = none ∧ D ≠ B ∧ D ≠ p ∧ H4 D = some (.lst xs) ∧ Nl K H4 xs qs ∧ qs.length = n ∧ AllB 21 qs, ?_, ?_⟩
  · refine ⟨_, rfl, _, rfl, by omega, by omega, fun D nD => ?_⟩
    have DB := b3.at nD
    have nD0 : H D = none := u3.free b3 nD
    refine lc_range (lo := 0) (n := ((n : Nat) : Int).toNat) (fun i H' => Bag H' B p ∧ But B H3 H' ∧ ∃ xs qs, H' D = some (.lst xs) ∧ Nl K H' xs qs ∧ qs.length = i ∧ AllB 21 qs) ⟨b3.put nD, But.new nD, [], [], upd_same, Nl.nil, rfl, fun _ h => nomatch h⟩ ?_ ?_
    · rintro i H' hi ⟨b', u', xs, qs, hD, nx, ql, bq⟩
      have xl : xs.length = i := by rw [nx.1, ql]
      refine ⟨rfl, yesT ⟨_, rfl, B, p, rfl, b', fun H5 v q b5 u5 nv bv => ?_⟩⟩
      have hD5 := u5 _ _ DB.1 hD
      refine ⟨xs, hD5, small1000 (by omega), b5.upd DB.1 DB.2, ?_, xs ++ [v], qs ++ [q], upd_same, ?_, by rw [List.length_append, ql]; rfl, ?_⟩
      · intro b o hb he
        rw [upd_ne (fun z => by rw [z, nD] at he; cases he)]
        exact u5 _ _ hb (u' _ _ hb he)
      · exact ((nx.go b' (Go.of u5)).snoc nv).wk (.set hD5)
      · intro r hr
        rcases List.mem_append.mp hr with hr | hr
        · exact bq r hr
        · rw [List.mem_singleton.mp hr]
          exact bv
    · rintro H' ⟨b', u', xs, qs, hD, nx, ql, bq⟩
      exact ⟨D, xs, qs, rfl, b', u3.trans u', nD0, DB.1, DB.2, hD, nx, by omega, bq⟩
  clear b3 u3
  rintro σ H4 ⟨D, xs, qs, rfl, b4, u4, nD, DB, Dp, hD, nx, ql, bq⟩
  refine ⟨fun σ H5 => ∃ (xs : List V) (rs : List Bool) (v4 : Option V), σ = [some (.ref B), some (.int kk), some (.int (n : Nat)), some (.ref D), v4] ∧ Bag H5 B p ∧ But B H H5 ∧ H5 D = some (.lst xs) ∧ Ims K S H5 xs rs ∧ xs.length = n, ?_, ?_⟩
  · refine ⟨_, rfl, (by show 0 ≤ sizeLine; decide), fun e ne => ?_⟩
    have s5 := new_same ne (HO.lst [])
    have b5 := b4.same s5
    have u5 := u4.trans (But.same s5)
    have hD5 := s5 _ _ hD
    have I5 := (nx.ims (S := S) bq).wk (.of s5)
    refine ⟨datL qs, .list [], (nx.same s5).dp hD5, .lst (SqL.of upd_same) .nil, shaped_list _, rfl, _, rfl, ?_⟩
    generalize upd H4 e (.lst []) = H5 at b5 u5 hD5 I5
    have xl : xs.length = n := by rw [nx.1, ql]
    refine ite2 (fun hne => ?_) (fun _ => ?_)
    · refine ⟨_, rfl, B, p, 3, rfl, by decide, by decide, b5, fun H6 c b6 u6 _ _ => ⟨c, 0, rfl, rfl, _, rfl, ?_⟩⟩
      have I6 := I5.wk (.but b5 b6 u6)
      have hD6 := u6 _ _ DB hD5
      have u6' := u5.trans u6
      refine ite2 (fun _ => ?_) (fun _ => ⟨xs, _, none, rfl, b6, u6', hD6, I6, xl⟩)
      refine ⟨_, rfl, B, p, 2, rfl, by decide, by decide, b6, fun H7 c2 b7 u7 c0 c1 => ⟨1, c2, rfl, rfl, _, rfl, by omega, by omega, ?_⟩⟩
      have n0 : 0 < n := by
        rcases Nat.eq_zero_or_pos n with e0 | e0
        · exfalso
          have : qs = [] := List.eq_nil_of_length_eq_zero (by rw [ql]; exact e0)
          subst this
          exact absurd hne (by decide)
        · exact e0
      refine for_range (lo := 0) (n := (1 + c2).toNat) (fun i σ H8 => ∃ (xs : List V) (rs : List Bool) (v4 : Option V), σ = [some (.ref B), some (.int kk), some (.int (n : Nat)), some (.ref D), v4] ∧ Bag H8 B p ∧ But B H H8 ∧ H8 D = some (.lst xs) ∧ Ims K S H8 xs rs ∧ xs.length = n)
        ⟨xs, _, none, rfl, b7, u6'.trans u7, u7 _ _ DB hD6, I6.wk (.but b6 b7 u7), xl⟩ ?_ (fun σ H8 h => h)
      rintro i σ H8 hi ⟨ys, rs, v4, rfl, b8, u8, hD8, I8, yl⟩
      refine ⟨_, rfl, B, p, rfl, b8, fun H9 v b9 u9 ov => ?_⟩
      have hD9 := u9 _ _ DB hD8
      refine ⟨_, rfl, _, rfl, _, rfl, B, p, n, rfl, by omega, by omega, b9, fun H10 j b10 u10 j0 j1 => ?_⟩
      have hD10 := u10 _ _ DB hD9
      have w9 := Wk.but b8 b9 u9
      have w10 := Wk.but b9 b10 u10
      have W := (Wk.set (ys := ys.set j.toNat v) hD10)
      refine ⟨D, ys, j, j.toNat, rfl, rfl, hD10, ?_, ?_⟩
      · unfold ixN
        rw [if_pos j0, if_pos (by omega)]
      · refine ⟨ys.set j.toNat v, rs.set j.toNat false, _, rfl, b10.upd DB Dp, fun b o hb he => ?_, upd_same, ?_, by rw [List.length_set]; exact yl⟩
        · rw [upd_ne (fun z => by rw [z, nD] at he; cases he)]
          exact (u8.trans (u9.trans u10)) b o hb he
        · exact ((I8.wk (w9.trans w10)).set (.inr ⟨rfl, ov.2.fx.wk w10⟩)).wk W
    · exact ⟨xs, _, none, rfl, b5, u5, hD5, I5, xl⟩
  clear b4 u4 hD nx ql bq
  rintro σ H5 ⟨ys, rs, v4, rfl, b5, u5, hD5, I5, yl⟩
  refine ⟨_, rfl, B, p, 3, rfl, by decide, by decide, b5, fun H6 c b6 u6 _ _ => ?_⟩
  have I6 := I5.wk (.but b5 b6 u6)
  have hD6 := u6 _ _ DB hD5
  have u6' := u5.trans u6
  refine ⟨rfl, _, rfl, ite2 (fun _ => ?_) (fun _ => ?_)⟩
  · refine ⟨_, rfl, D, ys, rfl, .inl ⟨SqL.of hD6, fun t nt => ?_⟩⟩
    have s7 := new_same nt (HO.tup ys)
    exact q _ _ (b6.put nt) (u6'.trans (But.new nt)) (.inr ⟨t, ys, rs, rfl, .inr upd_same, by omega, u6'.free b6 nt, I6.wk (.of s7)⟩)
  · exact ⟨_, rfl, q _ _ b6 u6' (.inr ⟨D, ys, rs, rfl, .inl hD6, by omega, nD, I6⟩)⟩
end
end Kx
end
section
set_option maxHeartbeats 4000000
namespace Kx
open PySem PySem.Spec PyProof.Rows L2 RZ
theorem pe_cut {X : Cx} {e : Expr} {t : TE} (h : PE X e t) : PE X e (fun σ H Q => ∃ Pm : VK, t σ H Pm ∧ ∀ v H', Pm v H' → Q v H') :=
  ⟨fun pins s σ H Q I ⟨Pm, hp, hq⟩ => wpAny_mono (h.run pins s σ H Pm I hp) (fun _ _ ⟨v, H', I', rv, q⟩ => ⟨v, H', I', rv, hq v H' q⟩) fun _ _ z => z⟩
theorem bad_ge : ∀ (rs : List Bool) (i n : Nat), n ∈ badL rs i → i ≤ n
  | [], _, _, h => (nomatch h)
  | r :: rs, i, n, h => by
    have h2 : n ∈ (if r = true then badL rs (i + 1) else i :: badL rs (i + 1)) := h
    split at h2
    · have := bad_ge rs (i + 1) n h2; omega
    · rcases List.mem_cons.mp h2 with e | e
      · omega
      · have := bad_ge rs (i + 1) n e; omega
theorem bad_lt : ∀ (rs : List Bool) (i n : Nat), n ∈ badL rs i → n < i + rs.length
  | [], _, _, h => (nomatch h)
  | r :: rs, i, n, h => by
    have h2 : n ∈ (if r = true then badL rs (i + 1) else i :: badL rs (i + 1)) := h
    rw [List.length_cons]
    split at h2
    · have := bad_lt rs (i + 1) n h2; omega
    · rcases List.mem_cons.mp h2 with e | e
      · omega
      · have := bad_lt rs (i + 1) n e; omega
theorem bad_flt : ∀ rs : List Bool, (badL rs 0).filter (fun n => decide (0 < n)) = badL (rs.drop 1) 1
  | [] => rfl
  | r :: rs => by
    have key : (badL rs 1).filter (fun n => decide (0 < n)) = badL rs 1 := List.filter_eq_self.mpr fun n hn => decide_eq_true (by have := bad_ge rs 1 n hn; omega)
    show (if r = true then badL rs 1 else 0 :: badL rs 1).filter _ = badL rs 1
    split
    · exact key
    · rw [List.filter_cons_of_neg (by decide)]
      exact key
theorem hgtV_bad (qs : List Rat) (f : Int) : hgtV qs f = match (badL (zrs qs) 0).head? with
    | none => .non
    | some k => .int (f + (k : Nat)) := by
  unfold hgtV
  rw [hgt_bad, bad_head]
  try (cases (badL (zrs qs) 0).head? <;> rfl)
theorem rest_head (qs : List Rat) : (badL (zrs (qs.drop 1)) 1).head? = (hgtN (qs.drop 1) 0).map (1 + ·) := by
  rw [← bad_head, ← hgt_bad, hgtN_shift]
  cases hgtN (qs.drop 1) 0 with
  | none => rfl
  | some k => exact congrArg some (Nat.add_comm k 1)
theorem crush_head {qs : List Rat} (l : 1 ≤ qs.length) (h : kindS qs = "crush") : strI qs = (badL (zrs (qs.drop 1)) 1).head? := by
  rw [strI_crush h]
  match qs, l, h with
  | q :: qs, _, h =>
    have q0 : q = 0 := by
      unfold kindS at h
      rw [show (q :: qs).getD 0 0 = q from rfl] at h
      by_cases c : q = 0
      · exact c
      · rw [if_neg c] at h
        split at h
        · split at h <;> cases h
        · split at h <;> cases h
    show (if q = 0 then hgtN qs 1 else some 0) = _
    rw [if_pos q0, ← bad_head, ← hgt_bad]
    rfl
theorem creep_head {qs : List Rat} (h : kindS qs = "creep") : strI qs = (badL (zrs (qs.drop 1)) 1).head? := by
  rw [strI_creep h, rest_head]
theorem flS_bad {qs : List Rat} (h : kindS qs = "creep") : flS qs = match (badL (zrs (qs.drop 1)) 1).head? with
    | none => .non
    | some k => .int (k : Nat) := by
  rw [flS_yes h, rest_head]
  unfold hgtV
  cases hgtN (qs.drop 1) 0 with
  | none => rfl
  | some k => exact congrArg V.int (by show (1 : Int) + k = ((1 + k : Nat) : Int); omega)
def spTo (K : PySem.W.Frag) (S : Addr) : Sp := fun vs H Q _ => ∃ (x y : V) (qs : List Rat), vs = [x, y] ∧ StF K S H x qs ∧ Ls K H y qs ∧ ∀ H', Same H H' → Q (.bl true) H'
/-- what told_so stands on -/
structure KitT (P : Program) (w : World) (K : PySem.W.Frag) (mg : Str → Option Value) (base : Heap) (C S CF CO CP : Addr) : Prop where
  rk : RowK P w K mg base C CF CO
  sk : StepK P w K mg base C S CF CO
  si : StepI P w K mg base S CF CO
  numbers : MUse P w K mg base CX0 1 S "numbers" ["self"] (spNuS K S) []
  rnumbers : MUse P w K mg base CX0 1 C "numbers" ["self"] (spNu K C) []
  number : MUse P w K mg base (L2.CX P w) 4 S "number" ["self", "place"] (spNmS K S CP) [["place"]]
  asrow : MUse P w K mg base (L2.CX P w) 8 S "as_row" ["self"] (spArF K C S) []
  olen : OpM P w K mg base CX0 1 S "__len__" (spLeS K S)
  oeq : OpM P w K mg base CX0 1 S "__eq__" (spEqF K S)
  kind : Use P w K mg base CX0 1 "_law_kind" ["_law_a"] (spKd K) []
  lik : Use P w K mg base CX0 6 "_law_like" ["_law_told", "_law_due"] (spLike K S 4) []
  mn : mg "len" = none
  mI : mg "isinstance" = none
  mr : mg "range" = none
abbrev nTo : List Str := ["_law_f", "_law_a", "_law_some", "_law_rest", "_law_kin", "_law_due", "_law_told", "_law_k"]
section
variable {P : Program} {w : World} {K : PySem.W.Frag} {mg : Str → Option Value} {base : Heap} {f C S CF CO CP : Addr} {fd : FuncData}
theorem scTo : FnScope nTo ["_law_f", "_law_a"] (defScope L_told_so) := ⟨rfl, rfl, rfl, by decide +kernel, rfl, by decide +kernel, by decide +kernel⟩
theorem ok_told (F : Fun K "_law_told_so" "_law_told_so" L_told_so f fd) (U : KitT P w K mg base C S CF CO CP) : FnOk P w K mg base CX0 9 f fd ["_law_f", "_law_a"] (spTo K S) := by
  refine F.ok scTo (fun vs H Q E h => ?_) (fun cdv A outer s H vs Q E hr h => ?_)
  · obtain ⟨x, y, qs, rfl, _⟩ := h
    rfl
  obtain ⟨u, y, qs, rfl, hR, hL, q⟩ := h
  have hr1 := hr.mono (show 1 ≤ 8 by decide)
  have hr2 := hr.mono (show 1 + 1 ≤ 8 by decide)
  have hr4 := hr.mono (show 4 ≤ 8 by decide)
  have hr6 := hr.mono (show 6 ≤ 8 by decide)
  have hr7 := hr.mono (show 7 ≤ 8 by decide)
  obtain ⟨fI, fdI, M, FI, bI, _⟩ := U.si.ini
  refine ⟨_, C8.pss_cut (ps_if (pt_not (pt_val (pe_callB call_isi rfl U.mI (by decide +kernel) (pa_cons (pv 0) (pa_cons (C8.pe_gc (v := .ref S) rfl ⟨_, U.sk.m, rfl⟩) pa_nil))))) (pss_one (ps_ret pe_bl)) pss_nil)
    (C8.pss_cut (ps_setLc (i := 2) (own := [("_law_k", 7)]) (g := gName 7) rfl scTo.nd rfl rfl (sw_true rfl rfl rfl (by decide +kernel)) (pi_range1 rfl U.mr (pa_cons (pe_callB call_len_seq rfl U.mn PySem.boot_len (pa_cons (pv 1) pa_nil)) pa_nil)) (blkOk_by (N := nTo) (sc := defScope L_told_so) (by decide +kernel)) (fun _ _ _ _ _ => pg_name (i := 7) scTo.nd rfl (Or.inl rfl))
        (fun _ _ _ _ _ => pts_one (pt_cmpR op_ne (pe_ix (ixt_at K rfl) (pe_ix (ixl_at K rfl) (pv 1) (pv 7) (fun _ _ => rfl)) pe_int (fun _ _ => rfl)) pe_int (nomark _))) (fun _ _ _ _ _ => pv 7))
    (C8.pss_cut (ps_setLc (i := 3) (own := [("_law_k", 7)]) (g := gName 7) rfl scTo.nd rfl rfl (sw_true rfl rfl rfl (by decide +kernel)) (pi_list (pv 2)) (blkOk_by (N := nTo) (sc := defScope L_told_so) (by decide +kernel)) (fun _ _ _ _ _ => pg_name (i := 7) scTo.nd rfl (Or.inl rfl))
        (fun _ _ _ _ _ => pts_one (pt_cmpR op_gt (pv 7) pe_int (nomark _))) (fun _ _ _ _ _ => pv 7))
    (C8.pss_cut (ps_set (i := 4) scTo.nd rfl (Or.inl rfl) (pe_use U.kind hr1 rfl pass0 (pa_cons (pv 1) pa_nil)))
    (C8.pss_cut (ps_set (i := 5) scTo.nd rfl (Or.inl rfl) (pe_lst (pa_cons (pe_callB call_len_seq rfl U.mn PySem.boot_len (pa_cons (pv 1) pa_nil)) (pa_cons (pe_ix ix_list (pv 1) pe_int (fun _ _ => rfl)) (pa_cons (pv 4)
        (pa_cons (pe_cut (pe_ifExp (pt_cmpR (op_neD hr.units) (pv 2) (pe_lst pa_nil) (nomark _)) (pe_op op_add (pe_ix ix_list (pv 2) pe_int (fun _ _ => rfl)) pe_int) pe_non)) (pa_cons (pe_cut (pe_ifExp (pt_cmpR op_eq (pv 4) pe_str (nomark _)) (pe_ix ix_list (pv 3) pe_int (fun _ _ => rfl)) pe_non)) pa_nil)))))))
    (C8.pss_cut (ps_expr (pe_bm PySem.F.plainAttrs_list PySem.F.slot_list_append PySem.F.type_list_append mt_append (pv 5) (pa_cons (pe_cut (pe_ifExp (pt_cmpR op_in_seq (pv 4) (pe_tup (pa_cons pe_str (pa_cons pe_str pa_nil))) rfl) (pe_ix ix_list (pv 1) (pe_ix ix_list (pv 3) pe_int (fun _ _ => rfl)) (fun _ _ => rfl)) pe_non)) pa_nil)))
    (C8.pss_cut (ps_if (PW.pt (pw_or (pt_not (pt_val (pe_use U.lik hr6 rfl pass0 (pa_cons (pe_lst (pa_cons (pe_fld (pv 0) rfl) (pa_cons (pe_fld (pv 0) rfl) (pa_cons (pe_fld (pv 0) rfl) (pa_cons (pe_fld (pv 0) rfl) (pa_cons (pe_fld (pv 0) rfl) (pa_cons (pe_fld (pv 0) rfl) pa_nil))))))) (pa_cons (pv 5) pa_nil)))))
        (pw_or1 (pt_cmpR op_ne (pe_callB (call_lenO U.olen hr2 pass0) rfl U.mn PySem.boot_len (pa_cons (pv 0) pa_nil)) (pe_callB call_len_seq rfl U.mn PySem.boot_len (pa_cons (pv 1) pa_nil)) (nomark _))))) (pss_one (ps_ret pe_bl)) pss_nil)
    (C8.pss_cut (ps_set (i := 6) scTo.nd rfl (Or.inl rfl) (pe_mu0 U.numbers (pv 0) hr1 pass0))
    (C8.pss_cut (ps_if (pt_not (pt_val (pe_use U.lik hr6 rfl pass0 (pa_cons (pv 6) (pa_cons (pv 1) pa_nil))))) (pss_one (ps_ret pe_bl)) pss_nil)
    (C8.pss_cut (ps_asg (pe_tup (pa_cons pe_int (pa_cons pe_int pa_nil))) (pg_sub (pv 6) (pe_op op_sub (pe_callB call_len_seq rfl U.mn PySem.boot_len (pa_cons (pv 1) pa_nil)) pe_int) set_list))
    (C8.pss_cut (ps_expr (pe_bm0 PySem.F.plainAttrs_list PySem.F.slot_list_reverse PySem.F.type_list_reverse mt_reverse (pv 6)))
    (C8.pss_cut (ps_if (pt_not (pt_val (pe_use U.lik hr6 rfl pass0 (pa_cons (pe_lst (pa_cons (pe_mu0 U.numbers (pv 0) hr1 pass0) (pa_cons (pe_lc (own := [("_law_k", 7)]) (g := gName 7) (tt := tYes) rfl scTo.nd (pi_range1 rfl U.mr (pa_cons (pe_callB call_len_seq rfl U.mn PySem.boot_len (pa_cons (pv 1) pa_nil)) pa_nil)) (blkOk_by (N := nTo) (sc := defScope L_told_so) (by decide +kernel)) (fun _ _ _ _ _ => pg_name (i := 7) scTo.nd rfl (Or.inl rfl)) (fun _ _ _ _ _ => pts_nil)
          (fun _ _ _ _ _ => pe_mu (E := fun _ _ _ => False) U.number (pv 0) hr4 passF (pa_cons (pe_op op_add (pv 7) pe_int) pa_nil))) pa_nil))) (pa_cons (pe_lst (pa_cons (pv 1) (pa_cons (pv 1) pa_nil))) pa_nil))))) (pss_one (ps_ret pe_bl)) pss_nil)
    (pss_one (ps_ret (pe_and (pe_use U.lik hr6 rfl pass0 (pa_cons (pe_mu0 U.rnumbers (pe_mu0 (E := fun _ _ _ => False) U.asrow (pv 0) hr passF) hr1 pass0) (pa_cons (pe_op op_cat (pe_lst (pa_cons (pe_tup (pa_cons pe_int (pa_cons pe_int pa_nil))) pa_nil)) (pv 1)) pa_nil)))
      (pe_and (pe_callB call_isi rfl U.mI (by decide +kernel) (pa_cons (pe_mu0 (E := fun _ _ _ => False) U.asrow (pv 0) hr passF) (pa_cons (C8.pe_gc (v := .ref C) rfl ⟨_, U.rk.m, rfl⟩) pa_nil)))
        (pe_one (pe_cmpR (op_eqO U.oeq hr1 pass0) (pv 0) (pe_make (E := fun _ _ _ => False) M FI hr7 rfl U.si.m bI .nil passF (pa_cons (pv 1) pa_nil)) (nomark _)))))))))))))))))), ?_⟩
  obtain ⟨x, dx, b, xs, x0, sv, rfl, hx, hb, nx, hx0, hsv, l2, l24⟩ := id hR
  obtain ⟨a, ys, rfl, ha, ny⟩ := id hL
  have ly : ys.length = qs.length := ny.1
  refine ⟨fun σ H1 => σ = [some (.ref x), some (.ref a), none, none, none, none, none, none] ∧ Same H H1, ?_, ?_⟩
  · exact ⟨_, rfl, .ref x, .ref S, .ref S, .ref S, true, rfl, .own S, U.sk.ty _ _ _ _ hx, U.sk.kit, _, rfl, iteF ⟨rfl, Same.refl _⟩⟩
  rintro σ H1 ⟨rfl, s1⟩
  have a1 := s1 _ _ ha
  have n1 := ny.same s1
  refine ⟨fun σ H2 => ∃ d : Addr, σ = [some (.ref x), some (.ref a), some (.ref d), none, none, none, none, none] ∧ Same H1 H2 ∧ H2 d = some (.lst ((badL (zrs qs) 0).map fun n => V.int (n : Nat))), ?_, ?_⟩
  · refine ⟨_, rfl, a, ys, rfl, .inl (SqL.of a1), _, rfl, by omega, by omega, fun D nD => ?_⟩
    refine lc_range (lo := 0) (n := (((ys.length : Nat) : Int)).toNat) (fun i H' => Same H1 H' ∧ H' D = some (.lst ((badL ((zrs qs).take i) 0).map fun n => V.int (n : Nat)))) ⟨new_same nD _, upd_same⟩ ?_ ?_
    · rintro i H2 hi ⟨s2, hD⟩
      rw [Int.toNat_natCast] at hi
      have hi' : i < qs.length := by omega
      have ex := List.getElem?_eq_getElem (l := ys) (i := i) hi
      have nq := (n1.2 i _ _ ex (List.getElem?_eq_getElem hi')).same s2
      obtain ⟨va, ev, sa, _⟩ := nq.sq
      have er : (zrs qs)[i]? = some (decide (qs[i] = 0)) := by
        unfold zrs
        rw [List.getElem?_map, List.getElem?_eq_getElem hi']
        rfl
      have key : badL ((zrs qs).take (i + 1)) 0 = if decide (qs[i] = 0) = true then badL ((zrs qs).take i) 0 else badL ((zrs qs).take i) 0 ++ [i] := by
        rw [List.take_add_one, er]
        show badL ((zrs qs).take i ++ [_]) 0 = _
        rw [badL_snoc, List.length_take, Nat.min_eq_left (by unfold zrs; rw [List.length_map]; omega), Nat.zero_add]
      refine ⟨rfl, _, rfl, _, rfl, a, ys, _, _, rfl, rfl, SqL.of (s2 _ _ a1), at_of (j := i) (by omega) ex, va, _, 0, _, ev, rfl, sa, rfl, rfl, _, rfl, ?_⟩
      by_cases c : qs[i].num = 0
      · have c0 : qs[i] = 0 := Rat.num_eq_zero.mp c
        rw [decide_eq_true (congrArg V.int c)]
        refine iteF ⟨s2, ?_⟩
        rw [key, if_pos (decide_eq_true c0)]
        exact hD
      · have c0 : ¬ qs[i] = 0 := fun e => c (by rw [e]; rfl)
        rw [decide_eq_false (fun e => c (V.int.inj e))]
        refine iteT ⟨_, rfl, _, hD, small1000 (by rw [List.length_map]; have := badL_len ((zrs qs).take i) 0; rw [List.length_take] at this; omega), fun e o h => by rw [upd_ne (ne_of_none h nD)]; exact s2 _ _ h, ?_⟩
        rw [upd_same, key, if_neg (by rw [decide_eq_false c0]; decide), List.map_append, Int.zero_add]
        rfl
    · rintro H2 ⟨s2, hD⟩
      rw [Int.toNat_natCast, ly, List.take_of_length_le (by unfold zrs; rw [List.length_map]; omega)] at hD
      exact ⟨D, rfl, s2, hD⟩
  rintro σ H2 ⟨d, rfl, s2', hd⟩
  have s2 := s1.trans s2'
  clear s1 a1 n1 s2'
  have bl := badL_len (zrs qs) 0
  rw [zrs_len] at bl
  refine ⟨fun σ H3 => ∃ r : Addr, σ = [some (.ref x), some (.ref a), some (.ref d), some (.ref r), none, none, none, none] ∧ Same H H3 ∧ H3 d = some (.lst ((badL (zrs qs) 0).map fun n => V.int (n : Nat))) ∧ H3 r = some (.lst ((badL (zrs (qs.drop 1)) 1).map fun n => V.int (n : Nat))), ?_, ?_⟩
  · refine ⟨_, rfl, d, rfl, ⟨_, SqL.of hd⟩, fun D nD => ?_⟩
    have nd : D ≠ d := fun e => by rw [e, hd] at nD; cases nD
    refine lc_it (walk_list (K := K) (a := d) (xs := (badL (zrs qs) 0).map fun n => V.int (n : Nat))) (fun i H' => Same H2 H' ∧ H' D = some (.lst ((((badL (zrs qs) 0).take i).filter fun n => decide (0 < n)).map fun n => V.int (n : Nat)))) ⟨new_same nD _, upd_same⟩ (fun i H' _ h => SqL.of (h.1 _ _ hd)) ?_ ?_
    · rintro i z H3 H3' hi ⟨s3, hD⟩ ⟨rfl, ez⟩
      rw [List.length_map] at hi
      rw [List.getElem?_map, List.getElem?_eq_getElem hi] at ez
      obtain rfl : V.int ((badL (zrs qs) 0)[i] : Nat) = z := Option.some.inj ez
      have key : ((badL (zrs qs) 0).take (i + 1)).filter (fun n => decide (0 < n)) = if 0 < (badL (zrs qs) 0)[i] then ((badL (zrs qs) 0).take i).filter (fun n => decide (0 < n)) ++ [(badL (zrs qs) 0)[i]] else ((badL (zrs qs) 0).take i).filter (fun n => decide (0 < n)) := by
        rw [List.take_add_one, List.getElem?_eq_getElem hi, List.filter_append]
        show _ ++ List.filter _ [_] = _
        split
        · rename_i c
          rw [List.filter_cons_of_pos (p := fun n => decide (0 < n)) (decide_eq_true c), List.filter_nil]
        · rename_i c
          rw [List.filter_cons_of_neg (p := fun n => decide (0 < n)) (fun z => c (of_decide_eq_true z)), List.filter_nil, List.append_nil]
      refine ⟨rfl, _, rfl, ((badL (zrs qs) 0)[i] : Nat), 0, rfl, rfl, _, rfl, ?_⟩
      by_cases c : 0 < (badL (zrs qs) 0)[i]
      · rw [decide_eq_true (show (0 : Int) < (((badL (zrs qs) 0)[i] : Nat) : Int) by omega)]
        refine iteT ⟨_, rfl, _, hD, small1000 (by rw [List.length_map]; have := List.length_filter_le (fun n => decide (0 < n)) ((badL (zrs qs) 0).take i); rw [List.length_take] at this; omega), fun e o h => by rw [upd_ne (ne_of_none h nD)]; exact s3 _ _ h, ?_⟩
        rw [upd_same, key, if_pos c, List.map_append]
        rfl
      · rw [decide_eq_false (show ¬ (0 : Int) < (((badL (zrs qs) 0)[i] : Nat) : Int) by omega)]
        refine iteF ⟨s3, ?_⟩
        rw [key, if_neg c]
        exact hD
    · rintro H3 ⟨s3, hD⟩
      rw [List.length_map, List.take_length, bad_flt, zrs_drop] at hD
      exact ⟨D, rfl, s2.trans s3, s3 _ _ hd, hD⟩
  clear s2 hd
  rintro σ H3 ⟨r, rfl, s3, hd, hr3⟩
  have rl := badL_len (zrs (qs.drop 1)) 1
  rw [zrs_len, List.length_drop] at rl
  refine ⟨fun σ H4 => σ = [some (.ref x), some (.ref a), some (.ref d), some (.ref r), some (.str (kindS qs)), none, none, none] ∧ Same H3 H4, ?_, ?_⟩
  · exact ⟨_, rfl, _, qs, rfl, hL.same s3, l2, by omega, fun H4 s4 => ⟨rfl, s4⟩⟩
  rintro σ H4 ⟨rfl, s4'⟩
  have s4 := s3.trans s4'
  have hd4 := s4' _ _ hd
  have hr4' := s4' _ _ hr3
  clear s3 s4' hd hr3
  obtain ⟨y0, ey0, ny0⟩ := ny.get' (i := 0) (by omega)
  refine ⟨fun σ H5 => ∃ u : Addr, σ = [some (.ref x), some (.ref a), some (.ref d), some (.ref r), some (.str (kindS qs)), some (.ref u), none, none] ∧ Same H4 H5 ∧ H u = none ∧ H5 u = some (.lst [.int (qs.length : Nat), y0, .str (kindS qs), hgtV qs 1, flS qs]), ?_, ?_⟩
  · refine ⟨_, rfl, a, ys, rfl, .inl (SqL.of (s4 _ _ ha)), _, rfl, a, _, 0, _, rfl, rfl, SqL.of (s4 _ _ ha), at_of (j := 0) rfl ey0, _, rfl, fun v G => v = hgtV qs 1 ∧ Same H4 G, ?_, ?_⟩
    · refine ⟨_, rfl, (by show 0 ≤ sizeLine; decide), fun e ne => ?_⟩
      have s5 := new_same ne (HO.lst [])
      refine ⟨datI (badL (zrs qs) 0), .list [], .lst (SqL.of (s5 _ _ hd4)) (dp_int _), .lst (SqL.of upd_same) .nil, shaped_int _, rfl, _, rfl, ?_⟩
      have ho := hgtV_bad qs 1
      cases hb : badL (zrs qs) 0 with
      | nil =>
        rw [hb] at ho
        exact iteF ⟨ho.symm, s5⟩
      | cons k ks =>
        rw [hb] at hd4 ho
        refine iteT ⟨_, rfl, d, _, 0, _, rfl, rfl, SqL.of (s5 _ _ hd4), at_of (j := 0) rfl rfl, (k : Nat), 1, rfl, rfl, ?_, s5⟩
        rw [ho]
        exact congrArg V.int (by show (k : Int) + 1 = 1 + (k : Nat); omega)
    rintro v5 G ⟨rfl, s5⟩
    refine ⟨fun v G' => v = flS qs ∧ Same G G', ?_, ?_⟩
    · refine ⟨_, rfl, rfl, _, rfl, ite2 (fun c => ?_) (fun c => ?_)⟩
      · have ck : kindS qs = "creep" := V.str.inj (of_decide_eq_true c)
        obtain ⟨k, hk⟩ : ∃ k, (badL (zrs (qs.drop 1)) 1).head? = some k := by
          obtain ⟨k, _, e⟩ := hgtN_ex (qs.drop 1) 0 (kind_creep ck)
          rw [rest_head, e]
          exact ⟨_, rfl⟩
        have fb := flS_bad ck
        rw [hk] at fb
        obtain ⟨ks, eks⟩ : ∃ ks, badL (zrs (qs.drop 1)) 1 = k :: ks := by
          cases hb : badL (zrs (qs.drop 1)) 1 with
          | nil => rw [hb] at hk; cases hk
          | cons a b => rw [hb] at hk; exact ⟨b, by rw [← Option.some.inj hk]⟩
        have hr5 := s5 _ _ hr4'
        rw [eks] at hr5
        exact ⟨_, rfl, r, _, 0, _, rfl, rfl, SqL.of hr5, at_of (j := 0) rfl rfl, fb.symm, Same.refl _⟩
      · exact ⟨(flS_no fun e => c (decide_eq_true (congrArg V.str e))).symm, Same.refl _⟩
    rintro v6 G' ⟨rfl, s6⟩
    refine ⟨(by show 5 ≤ sizeLine; decide), fun u nu => ⟨u, rfl, (s5.trans s6).trans (new_same nu _), s4.free ((s5.trans s6).free nu), ?_⟩⟩
    rw [upd_same, ly]
  rintro σ H5 ⟨u, rfl, s5', nu, hu⟩
  have s5 := s4.trans s5'
  have hr5 := s5' _ _ hr4'
  clear s4 s5' hd4 hr4'
  refine ⟨fun σ H6 => ∃ st : V, σ = [some (.ref x), some (.ref a), some (.ref d), some (.ref r), some (.str (kindS qs)), some (.ref u), none, none] ∧ Same H H6 ∧ StrV K H6 st qs ∧ H6 u = some (.lst [.int (qs.length : Nat), y0, .str (kindS qs), hgtV qs 1, flS qs, st]), ?_, ?_⟩
  · refine ⟨_, rfl, .inl ⟨rfl, _, SqL.of hu⟩, fun v G => StrV K G v qs ∧ Same H5 G, ?_, ?_⟩
    · refine ⟨_, rfl, (by show 2 ≤ sizeLine; decide), fun e ne => ?_⟩
      have s6 := new_same ne (HO.tup [.str "creep", .str "crush"])
      refine ⟨e, _, rfl, .inr (SqT.of upd_same), rfl, rfl, _, rfl, ?_⟩
      have ein : inV (.str (kindS qs)) [.str "creep", .str "crush"] = (decide (kindS qs = "creep") || decide (kindS qs = "crush")) := by
        show ((("creep" : Str) == kindS qs) || ((("crush" : Str) == kindS qs) || false)) = _
        rw [Bool.or_false]
        congr 1
        · rw [Bool.eq_iff_iff, beq_iff_eq, decide_eq_true_eq]; exact ⟨Eq.symm, Eq.symm⟩
        · rw [Bool.eq_iff_iff, beq_iff_eq, decide_eq_true_eq]; exact ⟨Eq.symm, Eq.symm⟩
      have go : strI qs = (badL (zrs (qs.drop 1)) 1).head? → (∃ k, strI qs = some k) → ∃ (k : Nat) (ks : List Nat) (y : V), badL (zrs (qs.drop 1)) 1 = k :: ks ∧ ys[k]? = some y ∧ ∀ G, Same H G → StrV K G y qs := by
        rintro h1 ⟨k, h2⟩
        cases hb : badL (zrs (qs.drop 1)) 1 with
        | nil => rw [h1, hb] at h2; cases h2
        | cons k' ks =>
          obtain rfl : k' = k := by rw [h1, hb] at h2; exact Option.some.inj h2
          have lt := bad_lt (zrs (qs.drop 1)) 1 k' (by rw [hb]; exact List.mem_cons_self)
          rw [zrs_len, List.length_drop] at lt
          obtain ⟨y, ey, n⟩ := ny.get' (i := k') (by omega)
          refine ⟨k', ks, y, rfl, ey, fun G s => ?_⟩
          unfold StrV
          rw [h2]
          exact ⟨_, List.getElem?_eq_getElem (by omega), n.same s⟩
      have fin : ∀ k ks y, badL (zrs (qs.drop 1)) 1 = k :: ks → ys[k]? = some y → upd H5 e (.tup [.str "creep", .str "crush"]) r = some (.lst (.int (k : Nat) :: ks.map fun n => V.int (n : Nat))) := fun k ks y h _ => by
        have := s6 _ _ hr5
        rw [h] at this
        exact this
      rw [ein]
      by_cases c1 : kindS qs = "creep"
      · rw [decide_eq_true c1, Bool.true_or]
        obtain ⟨k, ks, y, h1, h2, h3⟩ := go (creep_head c1) (by
          obtain ⟨k, _, e⟩ := hgtN_ex (qs.drop 1) 0 (kind_creep c1)
          rw [strI_creep c1, e]
          exact ⟨_, rfl⟩)
        exact iteT ⟨_, rfl, _, rfl, r, _, 0, _, rfl, rfl, SqL.of (fin k ks y h1 h2), at_of (j := 0) rfl rfl, a, ys, (k : Nat), y, rfl, rfl, SqL.of (s6 _ _ (s5 _ _ ha)), at_of (j := k) rfl h2, h3 _ (s5.trans s6), s6⟩
      rw [decide_eq_false c1, Bool.false_or]
      by_cases c2 : kindS qs = "crush"
      · rw [decide_eq_true c2]
        obtain ⟨k, ks, y, h1, h2, h3⟩ := go (crush_head (by omega) c2) (by
          obtain ⟨k, _, e⟩ := hgtN_ex qs 0 (kind_crush c2)
          rw [strI_crush c2, e]
          exact ⟨_, rfl⟩)
        exact iteT ⟨_, rfl, _, rfl, r, _, 0, _, rfl, rfl, SqL.of (fin k ks y h1 h2), at_of (j := 0) rfl rfl, a, ys, (k : Nat), y, rfl, rfl, SqL.of (s6 _ _ (s5 _ _ ha)), at_of (j := k) rfl h2, h3 _ (s5.trans s6), s6⟩
      · rw [decide_eq_false c2]
        refine iteF ⟨?_, s6⟩
        unfold StrV
        rw [strI_no c1 c2]
    rintro st G ⟨hst, s6⟩
    refine ⟨u, _, _, rfl, rfl, s6 _ _ hu, (by show 5 < sizeLine; decide), st, rfl, fun e o h => ?_, ?_, upd_same⟩
    · rw [upd_ne (ne_of_none h nu)]
      exact s6 _ _ (s5 _ _ h)
    · exact hst.wk (.set (s6 _ _ hu))
  clear hr5 hu s5
  rintro σ H6 ⟨st, rfl, s6, hst, hu6⟩
  have stf : ∀ {f : Str}, f ∈ stN → NoAttr K S f := fun h => U.sk.nA _ h
  have flath : ∀ f, flatV (hgtV qs f) = true := fun f => by unfold hgtV; cases hgtN qs 0 <;> rfl
  have flatf : flatV (flS qs) = true := by
    unfold flS hgtV
    split
    · cases hgtN (qs.drop 1) 0 <;> rfl
    · rfl
  refine ⟨fun σ H7 => σ = [some (.ref x), some (.ref a), some (.ref d), some (.ref r), some (.str (kindS qs)), some (.ref u), none, none] ∧ Same H H7, ?_, ?_⟩
  · have hx6 := s6 _ _ hx
    refine ⟨_, rfl, x, S, dx, _, _, rfl, hx6, U.sk.c, stf (by simp [stN]), rfl, _, rfl, x, S, dx, _, _, rfl, hx6, U.sk.c, stf (by simp [stN]), rfl, _, rfl, x, S, dx, _, _, rfl, hx6, U.sk.c, stf (by simp [stN]), rfl,
      _, rfl, x, S, dx, _, _, rfl, hx6, U.sk.c, stf (by simp [stN]), rfl, _, rfl, x, S, dx, _, _, rfl, hx6, U.sk.c, stf (by simp [stN]), rfl, _, rfl, x, S, dx, _, _, rfl, hx6, U.sk.c, stf (by simp [stN]), rfl, (by show 6 ≤ sizeLine; decide), fun t nt => ?_⟩
    have s7 := new_same nt (HO.lst [.int (qs.length : Nat), x0, .str (kindS qs), hgtV qs 1, flS qs, sv])
    have s67 := s6.trans s7
    obtain ⟨x0', ex0, nx0⟩ := nx.get' (i := 0) (by omega)
    obtain rfl : x0' = x0 := Option.some.inj (ex0.symm.trans hx0)
    have lks : Lk K S 3 (upd H6 t (HO.lst [.int (qs.length : Nat), x0', .str (kindS qs), hgtV qs 1, flS qs, sv])) sv st := by
      have h1 := hsv.same s67
      have h2 := hst.same s7
      unfold StrV at h1 h2
      cases e : strI qs with
      | none =>
        rw [e] at h1 h2
        obtain rfl : sv = .non := h1
        obtain rfl : st = .non := h2
        exact Lk.flat rfl
      | some i =>
        rw [e] at h1 h2
        obtain ⟨r1, e1, n1⟩ := h1
        obtain ⟨r2, e2, n2⟩ := h2
        obtain rfl : r1 = r2 := Option.some.inj (e1.symm.trans e2)
        exact Nq.lk (n := 2) n1 n2
    refine ⟨_, rfl, _, _, rfl, Lk.lst (n := 3) upd_same (s7 _ _ hu6) (by show 6 ≤ 60; decide) (.cons (Lk.flat rfl) (.cons (Nq.lk (n := 2) (nx0.same s67) (ny0.same s67)) (.cons (Lk.flat rfl) (.cons (Lk.flat (flath 1)) (.cons (Lk.flat flatf) (.cons lks .nil)))))), fun H7 s8 => ⟨_, rfl, iteF ?_⟩⟩
    have s9 := s67.trans s8
    refine ⟨_, rfl, x, dx, _, rfl, s9 _ _ hx, _, qs, rfl, (hR.same s9).st, qs.length, rfl, by omega, _, rfl, a, ys, rfl, .inl (SqL.of (s9 _ _ ha)), rfl, _, rfl, ?_⟩
    rw [ly, decide_eq_true rfl]
    exact iteF ⟨rfl, s9⟩
  clear hu6 hst s6
  rintro σ H7 ⟨rfl, s7⟩
  refine ⟨fun σ H8 => ∃ (t : Addr) (zs : List V), σ = [some (.ref x), some (.ref a), some (.ref d), some (.ref r), some (.str (kindS qs)), some (.ref u), some (.ref t), none] ∧ Same H H8 ∧ H t = none ∧ H8 t = some (.lst zs) ∧ Nl K H8 zs qs, ?_, ?_⟩
  · exact ⟨_, rfl, x, dx, _, rfl, s7 _ _ hx, rfl, _, qs, rfl, (hR.same s7).st, fun t H8 zs s8 nt et nz => ⟨t, zs, rfl, s7.trans s8, s7.free nt, et, nz⟩⟩
  clear s7
  rintro σ H8 ⟨t, zs, rfl, s8, nt, et, nz⟩
  refine ⟨fun σ H9 => σ = [some (.ref x), some (.ref a), some (.ref d), some (.ref r), some (.str (kindS qs)), some (.ref u), some (.ref t), none] ∧ Same H H9 ∧ H9 t = some (.lst zs), ?_, ?_⟩
  · exact ⟨_, rfl, _, rfl, _, _, rfl, Ls.lk (n := 2) ⟨t, zs, rfl, et, nz⟩ (hL.same s8) (by omega), fun H' s' => ⟨_, rfl, iteF ⟨rfl, s8.trans s', s' _ _ et⟩⟩⟩
  have lz : zs.length = qs.length := nz.1
  clear s8 et nz
  rintro σ H9 ⟨rfl, s9, et⟩
  refine ⟨fun σ H6 => ∃ zs : List V, σ = [some (.ref x), some (.ref a), some (.ref d), some (.ref r), some (.str (kindS qs)), some (.ref u), some (.ref t), none] ∧ Same H H6 ∧ H6 t = some (.lst zs) ∧ zs.length ≤ 30, ?_, ?_⟩
  · refine ⟨(by show 2 ≤ sizeLine; decide), fun p np => ⟨_, rfl, _, rfl, a, ys, rfl, .inl (SqL.of (new_same np _ _ _ (s9 _ _ ha))), (ys.length : Nat), 1, rfl, rfl, t, zs, (ys.length : Nat) - 1, ys.length - 1, rfl, rfl, new_same np _ _ _ et, ?_, _, rfl, fun e o h => ?_, upd_same, by rw [List.length_set]; omega⟩⟩
    · unfold ixN
      rw [if_pos (by omega), if_pos (by omega)]
      exact congrArg some (by omega)
    · rw [upd_ne (ne_of_none h nt)]
      exact new_same np _ _ _ (s9 _ _ h)
  clear s9 et
  rintro σ H6 ⟨zs, rfl, s6, et, lz⟩
  refine ⟨fun σ H7 => σ = [some (.ref x), some (.ref a), some (.ref d), some (.ref r), some (.str (kindS qs)), some (.ref u), some (.ref t), none] ∧ Same H H7, ?_, ?_⟩
  · refine ⟨_, rfl, .inl ⟨rfl, _, SqL.of et⟩, t, zs, rfl, rfl, et, rfl, fun e o h => ?_⟩
    rw [upd_ne (ne_of_none h nt)]
    exact s6 _ _ h
  clear s6 et
  rintro σ H7 ⟨rfl, s7⟩
  have i3 : ∀ (i : Nat) (l : List V), l.length ≤ 25 → l.length < sizeLine := fun i l h => small1000 (by omega)
  refine ⟨fun σ H8 => σ = [some (.ref x), some (.ref a), some (.ref d), some (.ref r), some (.str (kindS qs)), some (.ref u), some (.ref t), none] ∧ Same H H8, ?_, ?_⟩
  · refine ⟨_, rfl, x, dx, _, rfl, s7 _ _ hx, rfl, _, qs, rfl, (hR.same s7).st, fun t2 H8 zs2 s8 nt2 et2 nz2 => ?_⟩
    have s78 := s7.trans s8
    refine ⟨_, rfl, a, ys, rfl, .inl (SqL.of (s78 _ _ ha)), _, rfl, by omega, by omega, fun D nD => ?_⟩
    refine lc_range (lo := 0) (n := (((ys.length : Nat) : Int)).toNat) (fun i H' => Same H8 H' ∧ ∃ vs, H' D = some (.lst vs) ∧ Nl K H' vs (qs.take i)) ⟨new_same nD _, [], upd_same, Nl.nil⟩ ?_ ?_
    · rintro i H10 hi ⟨s10, vs, hD, nv⟩
      rw [Int.toNat_natCast] at hi
      have hi' : i < qs.length := by omega
      have sx := s78.trans s10
      refine ⟨rfl, yesT ?_⟩
      refine ⟨_, rfl, x, dx, _, rfl, sx _ _ hx, rfl, _, rfl, _, 1, rfl, rfl, _, _, qs, true, rfl, (hR.same sx).st, .yes (by omega) (by omega), fun z => Bool.noConfusion z, fun _ j y q ej hq hn => ?_⟩
      obtain rfl : j = i := by have := V.int.inj ej; omega
      have lv : vs.length = j := by rw [nv.1, List.length_take, Nat.min_eq_left (by omega)]
      have sD := but_put (x := D) (H := H10) (o := HO.lst (vs ++ [y]))
      refine ⟨vs, hD, i3 j vs (by omega), fun e o h => by rw [upd_ne (ne_of_none h nD)]; exact s10 _ _ h, vs ++ [y], upd_same, ?_⟩
      rw [List.take_add_one, hq]
      exact Nl.snoc (⟨nv.1, fun i x q h1 h2 => (nv.2 i x q h1 h2).butL hD sD⟩) (hn.butL hD sD)
    · rintro H10 ⟨s10, vs, hD, nv⟩
      rw [Int.toNat_natCast, ly, List.take_length] at nv
      refine ⟨(by show 2 ≤ sizeLine; decide), fun l1 n1 => ⟨_, rfl, _, rfl, (by show 2 ≤ sizeLine; decide), fun l2 n2 => ?_⟩⟩
      have z1 := new_same n1 (HO.lst [V.ref t2, V.ref D])
      have z2 := new_same n2 (HO.lst [V.ref a, V.ref a])
      have z12 := z1.trans z2
      have sA := (s78.trans s10).trans z12
      refine ⟨_, _, rfl, Lk.lst (n := 3) (z2 _ _ upd_same) upd_same (by show 2 ≤ 60; decide) (.cons (Ls.lk (n := 1) ((Ls.same ⟨t2, zs2, rfl, et2, nz2⟩ s10).same z12) (hL.same sA) (by omega)) (.cons (Ls.lk (n := 1) (Ls.same ⟨D, vs, rfl, hD, nv⟩ z12) (hL.same sA) (by omega)) .nil)), fun H' s' => ⟨_, rfl, iteF ⟨rfl, sA.trans s'⟩⟩⟩
  clear s7
  rintro σ H8 ⟨rfl, s8⟩
  refine ⟨_, rfl, x, dx, _, rfl, s8 _ _ hx, rfl, _, qs, rfl, hR.same s8, fun H9 y s9 r9 => ?_⟩
  have s89 := s8.trans s9
  obtain ⟨y', dy, _, _, rfl, hy, _⟩ := id r9
  refine ⟨y', dy, _, rfl, hy, rfl, _, _, rfl, r9, fun t3 H10 zs3 s10 nt3 et3 nz3 => ?_⟩
  have s10' := s89.trans s10
  refine ⟨(by show 2 ≤ sizeLine; decide), fun t1 m1 => ⟨(by show 1 ≤ sizeLine; decide), fun l1 n1 => ⟨_, rfl, l1, a, _, _, rfl, rfl, upd_same, new_same n1 _ _ _ (new_same m1 _ _ _ (s10' _ _ ha)), Nat.le_of_lt (small1000 (by show 1 + _ ≤ _; omega)), fun e ne => ?_⟩⟩⟩
  have z1 := new_same m1 (HO.tup [.int 0, .int 1])
  have z2 := new_same n1 (HO.lst [V.ref t1])
  have z3 := new_same ne (HO.lst ([V.ref t1] ++ ys))
  have zA := z1.trans (z2.trans z3)
  have q0 : Nq K _ (.ref t1) 0 := .at (K := K) ((z2.trans z3) _ _ (show upd H10 t1 (HO.tup [.int 0, .int 1]) t1 = some (rT 0) from upd_same))
  have sA := s10'.trans zA
  refine ⟨_, _, rfl, Ls.lk (n := 2) (qs := 0 :: qs) ⟨t3, zs3, rfl, zA _ _ et3, nz3.same zA⟩ ⟨e, _, rfl, upd_same, Nl.cons q0 (ny.same sA)⟩ (by rw [List.length_cons]; omega), fun H11 s11' => ⟨_, rfl, iteT ?_⟩⟩
  have s11 := sA.trans s11'
  clear q0 zA z3 z2 z1 sA s11'
  refine ⟨_, rfl, x, dx, _, rfl, s11 _ _ hx, rfl, _, qs, rfl, hR.same s11, fun H12 y2 s12' r12 => ?_⟩
  have s12 := s11.trans s12'
  obtain ⟨y2', dy2, _, _, rfl, hy2, _⟩ := id r12
  refine ⟨.ref y2', .ref C, .ref C, .ref C, true, rfl, .own C, U.rk.ty _ _ _ _ hy2, U.rk.kit, _, rfl, iteT ?_⟩
  refine ⟨_, rfl, _, rfl, fun z dz nz ndz en => ?_⟩
  refine step_newF (E := fun _ _ _ => False) (.inl (s12 _ _ ha)) (ny.same s12) l2 l24 nz ndz en fun H13 s13' r13 => ⟨rfl, ?_⟩
  have s13 := s12.trans s13'
  refine rd_eqS U.sk (hR.same s13).st r13.st ?_
  rw [decide_eq_true rfl]
  exact q _ s13
end
end Kx
end
section
set_option maxHeartbeats 4000000
namespace Kx
open PySem PySem.Spec PyProof.Rows L2 RZ
/-- no list, no tuple, seen at once -/
def Nls (S : Addr) (H : Hp) (v : V) : Prop := flatV v = true ∨ ∃ x dx fs, v = .ref x ∧ H x = some (.ins S dx fs)
/-- refused, and how -/
def LiG (K : PySem.W.Frag) (S : Addr) (H : Hp) (v : V) (fu : Int) (code : Str) (i : Int) : Prop := (Nls S H v ∧ code = "InvalidFraction" ∧ i = -1) ∨
  ∃ a xs, v = .ref a ∧ SqH H a xs ∧ (((xs.length : Int) + fu < 2 ∨ 24 < (xs.length : Int) + fu) ∧ code = "InvalidOrder" ∧ i = (xs.length : Int) + fu ∨ 2 ≤ (xs.length : Int) + fu ∧ (xs.length : Int) + fu ≤ 24 ∧ ∃ (rs : List Bool) (k : Nat), Ims K S H xs rs ∧ badAt rs 0 = some k ∧ code = "InvalidFraction" ∧ i = (k : Nat))
section
variable {P : Program} {w : World} {K : PySem.W.Frag} {mg : Str → Option Value} {base : Heap} {C S CF CO : Addr} {cs : Fin 6 → Addr} {H H' : Hp} {v : V} {code : Str} {i fu : Int} {qs : List Rat}
theorem Nls.lsv (h : Nls S H v) (k : StepK P w K mg base C S CF CO) : LsV K H v false := by
  rcases h with h | ⟨x, dx, fs, rfl, h⟩
  · exact flat_lsv h
  · exact fun H' s => ⟨_, k.ty _ _ _ _ (s _ _ h), kitAny_cons (k.kB "list" (by simp)) (fun _ => kitAny_cons (k.kB "tuple" (by simp)) (fun _ => kitAny_nil) (fun z => Bool.noConfusion z)) (fun z => Bool.noConfusion z)⟩
theorem SqH.ext {a : Addr} {xs : List V} (h : SqH H a xs) (s : LamX.ExtN H H') : SqH H' a xs := h.imp (fun h => s _ _ h (fun ps z => by cases z)) (fun h => s _ _ h (fun ps z => by cases z))
theorem LiG.ext (h : LiG K S H v fu code i) (s : LamX.ExtN H H') : LiG K S H' v fu code i := by
  rcases h with ⟨h, e⟩ | ⟨a, xs, e, ha, h⟩
  · exact .inl ⟨h.imp id fun ⟨x, dx, fs, e, h⟩ => ⟨x, dx, fs, e, s _ _ h (fun ps z => by cases z)⟩, e⟩
  · exact .inr ⟨a, xs, e, ha.ext s, h.imp id fun ⟨l1, l2, rs, k, hI, z⟩ => ⟨l1, l2, rs, k, hI.wk (.ext s), z⟩⟩
theorem LiG.ne (h : LiG K S H v fu code i) (a : Addr) (e : v = .ref a) : H a ≠ none := by
  rcases h with ⟨h | ⟨x, dx, fs, rfl, h⟩, _⟩ | ⟨b, xs, rfl, ha, _⟩
  · rw [e] at h; cases h
  · rw [← V.ref.inj e, h]; exact fun z => nomatch z
  · rw [← V.ref.inj e]
    rcases ha with h | h <;> rw [h] <;> exact fun z => nomatch z
theorem LiG.giv (h : LiG K S H v fu code i) (k : StepK P w K mg base C S CF CO) {E : XK} {good : List V → List Rat → Prop} (h1 : code = "InvalidFraction" → Air H CF (fs1 "InvalidFraction" "at" [.int i]) E) (h2 : code = "InvalidOrder" → Air H CO (fs1 "InvalidOrder" "value" [.int i]) E) : Giv K CF CO H v fu E good := by
  rcases h with ⟨h, e, rfl⟩ | ⟨a, xs, e, ha, ⟨l, e2, rfl⟩ | ⟨l1, l2, rs, j, hI, hb, e2, rfl⟩⟩
  · exact .inl ⟨h.lsv k, h1 e⟩
  · exact .inr ⟨a, xs, e, ha, .inl ⟨by omega, h2 e2⟩⟩
  · exact .inr ⟨a, xs, e, ha, .inr ⟨by omega, by omega, .inl ⟨rs, j, hI.its k, hb, h1 e2⟩⟩⟩
/-- Step(..) that is refused, asked -/
theorem rd_badS {E : XK} {Q R : VK} {x dx : Addr} (h : LiG K S H v 0 code i) (k : StepK P w K mg base C S (cs 1) (cs 2)) (nx : H x = none) (ndx : H dx = none) (ne : dx ≠ x) (hE : ∀ cls d H', Flt H' cs cls d Q → E cls d H') (q : ∀ t H', Same H H' → H' t = some (.lst [.str code, .int i]) → Q (.ref t) H') :
    spSIF K S (cs 1) (cs 2) [.ref x, v] (upd (upd H dx (.own x)) x (.ins S dx [])) R E := by
  have hx2 : upd (upd H dx (.own x)) x (.ins S dx []) x = some (.ins S dx []) := upd_same
  have sm : Same H (upd (upd H dx (.own x)) x (.ins S dx [])) := (new_same ndx _).trans (new_same (by rw [upd_ne (Ne.symm ne)]; exact nx) _)
  refine ⟨x, dx, v, rfl, fun e => h.ne x e nx, hx2, (h.ext (.of sm)).giv k (fun e d H' s n e2 => ?_) (fun e d H' s n e2 => ?_)⟩
  · exact hE _ _ _ (.inr (.inl ⟨rfl, d, _, rfl, e2, fun t H2 s2 n2 e3 => q t H2 (sm.trans (s.trans s2)) (by rw [e]; exact e3)⟩))
  · exact hE _ _ _ (.inr (.inr (.inl ⟨rfl, d, _, rfl, e2, fun t H2 s2 n2 e3 => q t H2 (sm.trans (s.trans s2)) (by rw [e]; exact e3)⟩)))
/-- Step(..) from a list of numbers: its own list is new -/
theorem step_newH {a : Addr} {xs : List V} {E : XK} {R : VK} {x dx : Addr} (ha : SqH H a xs) (hn : Nl K H xs qs) (l1 : 2 ≤ qs.length) (l2 : qs.length ≤ 24) (nx : H x = none) (ndx : H dx = none) (ne : dx ≠ x)
    (q : ∀ H' b x0 sv, Same H H' → H b = none → H' x = some (.ins S dx (stF b (qs.length : Int) x0 (kindS qs) (hgtV qs 1) (flS qs) sv)) → H' b = some (.lst xs) → xs[0]? = some x0 → StrV K H' sv qs → R .non H') :
    spSIF K S CF CO [.ref x, .ref a] (upd (upd H dx (.own x)) x (.ins S dx [])) R E := by
  have hx2 : upd (upd H dx (.own x)) x (.ins S dx []) x = some (.ins S dx []) := upd_same
  have sm : Same H (upd (upd H dx (.own x)) x (.ins S dx [])) := (new_same ndx _).trans (new_same (by rw [upd_ne (Ne.symm ne)]; exact nx) _)
  refine ⟨x, dx, .ref a, rfl, fun e => ?_, hx2, .inr ⟨a, xs, rfl, ha.same sm, .inr ⟨by rw [hn.1]; omega, by rw [hn.1]; omega, .inr ⟨qs, hn.same sm, fun H' b x0 fv sv h0 u nb hx hb e1 e2 => ?_⟩⟩⟩⟩
  · rw [V.ref.inj e] at ha
    rcases ha with h | h <;> rw [nx] at h <;> cases h
  · have s' : Same H H' := fun e o he => u e o (fun z => by rw [z, nx] at he; cases he) (sm e o he)
    subst e1
    exact q H' b x0 sv s' (sm.free nb) hx hb h0 e2
end
/-- what the law's later defs stand on -/
structure KitS (P : Program) (w : World) (K : PySem.W.Frag) (mg : Str → Option Value) (base : Heap) (C S : Addr) (cs : Fin 6 → Addr) (CE : Addr) : Prop where
  rk : RowK P w K mg base C (cs 1) (cs 2)
  sk : StepK P w K mg base C S (cs 1) (cs 2)
  si : StepI P w K mg base S (cs 1) (cs 2)
  numbers : MUse P w K mg base CX0 1 S "numbers" ["self"] (spNuS K S) []
  number : MUse P w K mg base (L2.CX P w) 4 S "number" ["self", "place"] (spNmS K S (cs 5)) [["place"]]
  asrow : MUse P w K mg base (L2.CX P w) 8 S "as_row" ["self"] (spArF K C S) []
  cut : MUse P w K mg base (L2.CX P w) 8 S "cut" ["self", "order"] (spCuF K S (cs 2) (cs 3)) [["order"]]
  gone : MUse P w K mg base (L2.CX P w) 8 S "gone_on" ["self", "numbers"] (spGoF K S (cs 1) (cs 2)) [["numbers"]]
  oeq : OpM P w K mg base CX0 1 S "__eq__" (spEqF K S)
  roeq : OpM P w K mg base CX0 1 C "__eq__" (spEqR K C)
  still : ∃ (mc : Value) (p g : Addr) (fd : FuncData), ClX.CRead K S mc ∧ CSta K S mc "still" p g ∧ FnOk P w K mg base (L2.CX P w) 8 g fd ["order"] (spStF K S (cs 2)) ∧ Binds K fd ["order"] [] ∧ KBn K fd ["order"] 0 ["order"] revB revA
  scaling : ∃ (mc : Value) (p g : Addr) (fd : FuncData), ClX.CRead K S mc ∧ CSta K S mc "scaling" p g ∧ FnOk P w K mg base (L2.CX P w) 8 g fd ["lead", "order"] (spScF K S (cs 0) (cs 2)) ∧ Binds K fd ["lead", "order"] [] ∧ KBn K fd ["lead", "order"] 0 ["order", "lead"] revB revA
  bag : Use P w K mg base CX0 1 "_law_bag" ["_law_script"] (spBag K) []
  draw : Use P w K mg base CX0 1 "_law_draw" ["_law_bag_here", "_law_limit"] spDraw []
  ofL : Use P w K mg base CX0 2 "_law_of" ["_law_bag_here", "_law_things"] spOfL []
  num : Use P w K mg base CX0 3 "_law_number" ["_law_bag_here"] (spNum K) []
  lstill : Use P w K mg base CX0 1 "_law_still" ["_law_size"] (spLst K) []
  step : Use P w K mg base CX0 6 "_law_step" ["_law_bag_here", "_law_size"] (spStp K) []
  odd : Use P w K mg base CX0 9 "_law_odd" ["_law_bag_here"] (spOdd K S) []
  spoilt : Use P w K mg base CX0 6 "_law_spoilt" ["_law_bag_here", "_law_a"] (spSpoilt K) []
  lis : Use P w K mg base CX0 2 "_law_is" ["_law_thing"] (spIs K) []
  size : Use P w K mg base CX0 3 "_law_any_size" ["_law_bag_here"] spSize []
  no : Use P w K mg base CX0 3 "_law_not_order" ["_law_bag_here"] (spNo K S) []
  list : Use P w K mg base CX0 10 "_law_list" ["_law_bag_here"] (spLi2 K S) []
  refused : Use P w K mg base CX0 3 "_law_refused" ["_law_some", "_law_less"] (spRf K) []
  told : Use P w K mg base CX0 9 "_law_told_so" ["_law_f", "_law_a"] (spTo K S) []
  lik : Use P w K mg base CX0 6 "_law_like" ["_law_told", "_law_due"] (spLike K S 4) []
  flt : ∃ (fF : Addr) (fdF : FuncData), FnP P w K mg base C8.CX0 1 fF fdF ["_law_error"] (spFlt cs) ∧ Binds K fdF ["_law_error"] [] ∧ PySem.W.keepIn K (.ref fF) = true ∧ mg "_law_fault" = some (.ref fF)
  ask : ∃ (g : Addr) (fd : FuncData), Fun K "_law_ask" "_law_ask" L_ask g fd ∧ Binds K fd ["_law_deed"] [] ∧ mg "_law_ask" = some (.ref g)
  mC : mg "CreepError" = some (.ref CE)
  e1 : ∀ i, PySem.W.exmOne K (.ref (cs i)) (.ref CE) = some true
  mn : mg "len" = none
  mI : mg "isinstance" = none
  ml : mg "list" = none
  mt : mg "tuple" = none
  mi : mg "int" = none
  mb : mg "bool" = none
  mr : mg "range" = none
abbrev nMd : List Str := ["_law_bag_here", "_law_some", "_law_due", "_law_kept", "_law_f", "_law_g"]
def spSo (T : List (Addr × Str)) : Sp := fun vs H Q _ => ∃ B p : Addr, vs = [.ref B] ∧ Bag H B p ∧ LamX.Tabs T H ∧ ∀ H', Bag H' B p → Go B H H' → LamX.Tabs T H' → Q (.bl true) H'
end Kx
end
section
set_option maxHeartbeats 4000000
namespace Kx
open PySem PySem.Spec PyProof.Rows L2 RZ
section
variable {P : Program} {w : World} {K : PySem.W.Frag} {mg : Str → Option Value} {base : Heap} {f c Pt C S CE : Addr} {cs : Fin 6 → Addr} {fd : FuncData} {T : List (Addr × Str)}
theorem scMd : FnScope nMd ["_law_bag_here"] (defScope L_made_so) := ⟨rfl, rfl, rfl, by decide +kernel, rfl, by decide +kernel, by decide +kernel⟩
theorem ok_made (F : FunC K "_law_made_so" "_law_made_so" L_made_so f fd c) (U : KitS P w K mg base C S cs CE)
    (TB : LamX.TabB base mg c Pt) (hmT : (Pt, ((("_law_made_so" : Str) ++ ".<locals>.") ++ "<lambda>" : Str)) ∈ T) (hu : ∀ p ∈ T, p.1 = Pt → p.2 = ((("_law_made_so" : Str) ++ ".<locals>.") ++ "<lambda>" : Str)) : FnOk P w K mg base CX0 11 f fd ["_law_bag_here"] (spSo T) := by
  refine F.ok scMd (fun vs H Q E h => ?_) (fun A outer s H vs Q E hr h => ?_)
  · obtain ⟨B, p, rfl, _⟩ := h
    rfl
  obtain ⟨B, p, rfl, hb, hT, q⟩ := h
  have hr1 := hr.mono (show 1 ≤ 10 by decide)
  have hr3 := hr.mono (show 3 ≤ 10 by decide)
  have hr6 := hr.mono (show 6 ≤ 10 by decide)
  have hr7 := hr.mono (show 7 ≤ 10 by decide)
  have hr9 := hr.mono (show 9 ≤ 10 by decide)
  obtain ⟨fI, fdI, M, FI, bI, bK⟩ := U.si.ini
  obtain ⟨gA, fdA, FA, bA, mA⟩ := U.ask
  obtain ⟨oc, od, kV, doc, pm, an, cdv, ct, osl, rfl, lkA, hcdA⟩ := FA.ex
  obtain ⟨fF, fdF, PF, bF, kF, mF⟩ := U.flt
  refine ⟨_, C8.pss_cut (ps_set (i := 1) scMd.nd rfl (Or.inr rfl) (pe_use U.list hr rfl pass0 (pa_cons (pv 0) pa_nil)))
    (C8.pss_cut (ps_set (i := 2) scMd.nd rfl (Or.inl rfl) (pe_use U.refused hr3 rfl pass0 (pa_cons (pv 1) (pa_cons pe_int pa_nil))))
    (C8.pss_cut (ps_if (pt_cmpR op_notN (pv 2) pe_non (nomark _)) (pss_one (ps_ret (pe_use U.lik hr6 rfl pass0 (pa_cons (pe_lst (pa_cons
        (LamX.pe_lamcall (k := 7) (t := fun E => tMake S (spSIF K S (cs 1) (cs 2)) [] E (tCons (tVar 1) tNil)) (TT := TAsk cs) rfl mA FA.kp lkA hcdA bA scAsk rfl (Or.inl rfl) (ask_gives (hr.mono (by decide)) PF bF kF mF U.mC U.e1) TB rfl hmT hu hr9 (LamX.lamS_by (show LamX.lamSB (defScope L_made_so) _ = true by decide +kernel)) rfl (fun _ _ _ _ _ => rfl)
          (fun A outer s H E f c' hk => pe_make M FI hk rfl U.si.m bI .nil (passes_call (takes_of rfl rfl rfl rfl) (fun _ _ _ _ h => h)) (pa_cons (pv 1) pa_nil)))
        (pa_cons (LamX.pe_lamcallD (k := 7) (kd := 0) (px := "_law_x") (t := fun E => tMakeK S 0 1 (spSIF K S (cs 1) (cs 2)) appA E tNil (tCons (tVar 1) tNil)) (TT := TAsk cs) rfl mA FA.kp lkA hcdA bA scAsk rfl (Or.inl rfl) (ask_gives (hr.mono (by decide)) PF bF kF mF U.mC U.e1) TB rfl hmT hu hr9 (LamX.lamD_by (show LamX.lamDB nMd (defScope L_made_so) _ "_law_x" = true by decide +kernel)) rfl (fun _ _ _ _ _ _ _ => ⟨_, rfl, rfl⟩)
          (fun A outer s H E f c' hk => pe_makeK0 (ks := ["numbers"]) M FI hk rfl U.si.m bK (passes_call (takes_of rfl rfl rfl rfl) (fun _ _ _ _ h => h)) (pk_cons (pv 1) pk_nil)))
        pa_nil))) (pa_cons (pe_lst (pa_cons (pv 2) (pa_cons (pv 2) pa_nil))) pa_nil))))) pss_nil)
    (C8.pss_cut (ps_set (i := 3) scMd.nd rfl (Or.inl rfl) (pe_callTy call_list_of rfl U.ml (by decide +kernel) (pa_cons (pv 1) pa_nil)))
    (C8.pss_cut (ps_par (i := 4) (j := 5) rfl scMd.nd rfl rfl (by decide) rfl rfl (pa_cons (pe_make (E := fun _ _ _ => False) M FI hr7 rfl U.si.m bI .nil passF (pa_cons (pv 1) pa_nil)) (pa_cons (pe_makeK0 (ks := ["numbers"]) (E := fun _ _ _ => False) M FI hr7 rfl U.si.m bK passF (pk_cons (pv 1) pk_nil)) pa_nil)) rfl)
    (C8.pss_cut (ps_if (pt_val (pe_callB call_isi rfl U.mI (by decide +kernel) (pa_cons (pv 1) (pa_cons (pe_bltn rfl U.ml boot_list (rel_ty _)) pa_nil))))
        (pss_cons (ps_asg (pe_tup (pa_cons pe_int (pa_cons pe_int pa_nil))) (pg_sub (pv 1) (pe_use U.draw hr1 rfl pass0 (pa_cons (pv 0) (pa_cons (pe_callB call_len_seq rfl U.mn PySem.boot_len (pa_cons (pv 1) pa_nil)) pa_nil))) set_list))
        (pss_one (ps_expr (pe_bm PySem.F.plainAttrs_list PySem.F.slot_list_append PySem.F.type_list_append mt_append (pv 1) (pa_cons (pe_tup (pa_cons pe_int (pa_cons pe_int pa_nil))) pa_nil))))) pss_nil)
    (pss_one (ps_ret (pe_and (pe_use U.told hr9 rfl pass0 (pa_cons (pv 4) (pa_cons (pv 3) pa_nil))) (pe_and (pe_use U.told hr9 rfl pass0 (pa_cons (pv 5) (pa_cons (pv 3) pa_nil)))
      (pe_one (pe_cmpR (op_eqO U.oeq (hr.mono (by decide)) pass0) (pv 4) (pv 5) (nomark _)))))))))))), ?_⟩
  refine ⟨fun σ H1 => ∃ v, σ = [some (.ref B), some v, none, none, none, none] ∧ Bag H1 B p ∧ But B H H1 ∧ LiD2 K S H H1 v, ?_, ?_⟩
  · exact ⟨_, rfl, B, p, rfl, hb, fun H1 v b1 u1 l1 => ⟨v, rfl, b1, u1, l1⟩⟩
  rintro σ H1 ⟨v, rfl, b1, u1, li⟩
  refine ⟨fun σ H2 => ∃ due, σ = [some (.ref B), some v, some due, none, none, none] ∧ Bag H2 B p ∧ But B H H2 ∧ ((∃ code i t, due = .ref t ∧ H2 t = some (.lst [.str code, .int i]) ∧ LiG K S H2 v 0 code i) ∨
      (due = .non ∧ ∃ a xs qs, v = .ref a ∧ SqH H2 a xs ∧ Nl K H2 xs qs ∧ 2 ≤ qs.length ∧ qs.length ≤ 24 ∧ H a = none)), ?_, ?_⟩
  · rcases li with li | ⟨a, xs, rs, rfl, ha, l60, na, hI⟩
    · exact ⟨_, rfl, v, 0, rfl, .inl ⟨Nls.lsv li U.sk, fun H2 t s2 e2 => ⟨_, rfl, b1.same s2, u1.trans (But.same s2), .inl ⟨_, _, t, rfl, e2, .inl ⟨li.imp id fun ⟨x, dx, fs, e, h⟩ => ⟨x, dx, fs, e, s2 _ _ h⟩, rfl, rfl⟩⟩⟩⟩⟩
    by_cases ho : xs.length < 2 ∨ 24 < xs.length
    · exact ⟨_, rfl, _, 0, rfl, .inr ⟨a, xs, rfl, ha, l60, .inl ⟨by omega, fun H2 t s2 e2 => ⟨_, rfl, b1.same s2, u1.trans (But.same s2), .inl ⟨_, _, t, rfl, e2, .inr ⟨a, xs, rfl, ha.same s2, .inl ⟨by omega, rfl, by omega⟩⟩⟩⟩⟩⟩⟩
    · refine ⟨_, rfl, _, 0, rfl, .inr ⟨a, xs, rfl, ha, l60, .inr ⟨by omega, by omega, rs, hI.1, fun i x r h1 h2 => (hI.2 i x r h1 h2).lw U.sk, fun hb H2 s2 => ?_, fun j hb H2 t s2 e2 => ?_⟩⟩⟩
      · obtain ⟨qs, nx⟩ := hI.nl hb
        exact ⟨_, rfl, b1.same s2, u1.trans (But.same s2), .inr ⟨rfl, a, xs, qs, rfl, ha.same s2, nx.same s2, by rw [← nx.1]; omega, by rw [← nx.1]; omega, na⟩⟩
      · exact ⟨_, rfl, b1.same s2, u1.trans (But.same s2), .inl ⟨_, _, t, rfl, e2, .inr ⟨a, xs, rfl, ha.same s2, .inr ⟨by omega, by omega, rs, j, hI.wk (.of s2), hb, rfl, rfl⟩⟩⟩⟩
  clear b1 u1 li
  rintro σ H2 ⟨due, rfl, b2, u2, hd⟩
  have T2 := tabs_but hT hb u2
  refine ⟨fun σ H3 => ∃ a xs qs, σ = [some (.ref B), some (.ref a), some .non, none, none, none] ∧ Bag H3 B p ∧ But B H H3 ∧ SqH H3 a xs ∧ Nl K H3 xs qs ∧ 2 ≤ qs.length ∧ qs.length ≤ 24 ∧ H a = none, ?_, ?_⟩
  · rcases hd with ⟨code, i, t0, rfl, e0, lb⟩ | ⟨rfl, a, xs, qs, rfl, ha, nx, l3, l25, na⟩
    · refine ⟨_, rfl, rfl, _, rfl, iteT ?_⟩
      refine ⟨T2, fun H6 x6 T6 => ?_⟩
      refine ⟨_, rfl, fun x dx nx ndx ne => ?_⟩
      refine rd_badS (lb.ext x6) U.sk nx ndx ne (fun _ _ _ h => h) fun r1 H7 s7 e7 => ?_
      clear x dx nx ndx ne
      refine ⟨T6.ext s7, fun H8 tu x8 T8 htu => ⟨htu, _, rfl, rfl, rfl, fun x dx nx ndx ne => ?_⟩⟩
      refine rd_badS (((lb.ext x6).ext (.of s7)).ext x8) U.sk nx ndx ne (fun _ _ _ h => h) fun r2 H9 s9 e9 => ?_
      clear x dx nx ndx ne
      refine ⟨(by show 2 ≤ sizeLine; decide), fun l1 n1 => ⟨_, rfl, _, rfl, (by show 2 ≤ sizeLine; decide), fun l2 n2 => ?_⟩⟩
      have z1 := new_same n1 (HO.lst [V.ref r1, V.ref r2])
      have z2 := new_same n2 (HO.lst [V.ref t0, V.ref t0])
      have z12 := z1.trans z2
      have nt : ∀ (l : List V) ps, HO.lst l ≠ .tbl ps := fun l ps z => by cases z
      have d0 := z12 _ _ (s9 _ _ (x8 _ _ (s7 _ _ (x6 _ _ e0 (nt _))) (nt _)))
      have d1 := z12 _ _ (s9 _ _ (x8 _ _ e7 (nt _)))
      have d2 := z12 _ _ e9
      have lk : ∀ {G : Hp} {r : Addr}, G r = some (.lst [.str code, .int i]) → G t0 = some (.lst [.str code, .int i]) → Lk K S 3 G (.ref r) (.ref t0) := fun h h' => Lk.lst (n := 2) h h' (by show 2 ≤ 60; decide) (.cons (Lk.flat rfl) (.cons (Lk.flat rfl) .nil))
      refine ⟨_, _, rfl, Lk.lst (n := 3) (z2 _ _ upd_same) upd_same (by show 2 ≤ 60; decide) (.cons (lk d1 d0) (.cons (lk d2 d0) .nil)), fun H' s' => ?_⟩
      have e1 : LamX.ExtN H2 H' := (x6.trans (.of s7)).trans (x8.trans (.of (s9.trans (z12.trans s'))))
      exact q H' (b2.ext e1) ((Go.of u2).trans (Go.ext e1)) (T8.ext (s9.trans (z12.trans s')))
    · exact ⟨_, rfl, rfl, _, rfl, iteF ⟨a, xs, qs, rfl, b2, u2, ha, nx, l3, l25, na⟩⟩
  clear b2 u2 hd T2
  rintro σ H3 ⟨a, xs, qs, rfl, b3, u3, ha, nx, l3, l25, na⟩
  have aB := (hb.at na)
  refine ⟨fun σ H4 => ∃ l, σ = [some (.ref B), some (.ref a), some .non, some (.ref l), none, none] ∧ Bag H4 B p ∧ But B H H4 ∧ SqH H4 a xs ∧ Nl K H4 xs qs ∧ H4 l = some (.lst xs) ∧ l ≠ a ∧ l ≠ B, ?_, ?_⟩
  · refine ⟨_, rfl, a, xs, rfl, ha.imp SqL.of SqT.of, fun l nl => ⟨l, rfl, b3.put nl, u3.trans (But.new nl), ha.same (new_same nl _), nx.same (new_same nl _), upd_same, fun e => ?_, (b3.at nl).1⟩⟩
    rw [e] at nl
    rcases ha with h | h <;> rw [h] at nl <;> cases nl
  clear b3 u3 ha nx
  rintro σ H4 ⟨l, rfl, b4, u4, ha, nx, hl, la, lB⟩
  have lx : xs.length = qs.length := nx.1
  -- a step whose own list is apart from the passed one
  let Ap : Hp → Addr → Prop := fun G x => ∃ (dx b : Addr) (x0 sv : V), G x = some (.ins S dx (stF b (qs.length : Int) x0 (kindS qs) (hgtV qs 1) (flS qs) sv)) ∧ G b = some (.lst xs) ∧ b ≠ a ∧ xs[0]? = some x0 ∧ StrV K G sv qs
  have apS : ∀ {G G' : Hp} {x : Addr}, Ap G x → Same G G' → Ap G' x := fun ⟨dx, b, x0, sv, h1, h2, h3, h4, h5⟩ s => ⟨dx, b, x0, sv, s _ _ h1, s _ _ h2, h3, h4, h5.same s⟩
  refine ⟨fun σ H5 => ∃ x y, σ = [some (.ref B), some (.ref a), some .non, some (.ref l), some (.ref x), some (.ref y)] ∧ Bag H5 B p ∧ But B H H5 ∧ SqH H5 a xs ∧ Nl K H5 xs qs ∧ H5 l = some (.lst xs) ∧ Ap H5 x ∧ Ap H5 y, ?_, ?_⟩
  · refine ⟨_, rfl, ?_⟩
    have na' : ∀ {G : Hp} {b : Addr}, SqH G a xs → G b = none → b ≠ a := fun h n e => by
      rw [e] at n
      rcases h with h | h <;> rw [h] at n <;> cases n
    refine fun x dx xn dn en => ?_
    refine step_newH ha nx l3 l25 xn dn en fun H5 b x0 sv s5 nb hx hb' h0 hs => ⟨rfl, ?_⟩
    clear xn dn en
    refine ⟨_, rfl, rfl, rfl, fun y dy xn dn en => ?_⟩
    refine step_newH (ha.same s5) (nx.same s5) l3 l25 xn dn en fun H6 d y0 sw s6 nd hy hd h0' hs' => ⟨rfl, ?_⟩
    clear xn dn en
    have s56 := s5.trans s6
    exact ⟨_, _, rfl, x, y, rfl, b4.same s56, u4.trans (But.same s56), ha.same s56, nx.same s56, s56 _ _ hl, apS ⟨dx, b, x0, sv, hx, hb', na' ha nb, h0, hs⟩ s6, ⟨dy, d, y0, sw, hy, hd, na' (ha.same s5) nd, h0', hs'⟩⟩
  clear b4 u4 ha nx hl
  rintro σ H5 ⟨x, y, rfl, b5, u5, ha, nx, hl, hx, hy⟩
  refine ⟨fun σ H6 => σ = [some (.ref B), some (.ref a), some .non, some (.ref l), some (.ref x), some (.ref y)] ∧ Bag H6 B p ∧ But B H H6 ∧ StF K S H6 (.ref x) qs ∧ StF K S H6 (.ref y) qs ∧ Ls K H6 (.ref l) qs, ?_, ?_⟩
  · rcases ha with ha | ha
    · refine ⟨_, rfl, .ref a, _, _, _, _, rfl, .ty _, .base (.lst ha), kit_ty kb_l.1, _, rfl, iteT ?_⟩
      refine ⟨(by show 2 ≤ sizeLine; decide), fun t nt => ?_⟩
      have s6 := new_same nt (HO.tup [.int 9, .int 7])
      refine ⟨_, rfl, _, rfl, _, rfl, a, xs, rfl, .inl (SqL.of (s6 _ _ ha)), B, p, (xs.length : Nat), rfl, by omega, by omega, b5.same s6, fun H7 j b7 u7 j0 j1 => ?_⟩
      have ha7 := u7 _ _ aB.1 (s6 _ _ ha)
      refine ⟨a, xs, j, j.toNat, rfl, rfl, ha7, ?_, ?_⟩
      · unfold ixN
        rw [if_pos j0, if_pos (by omega)]
      have W0 : Wk H5 (upd H7 a (HO.lst (xs.set j.toNat (V.ref t)))) := ((Wk.of s6).trans (.but (b5.same s6) b7 u7)).trans (Wk.set ha7)
      refine ⟨_, rfl, .inl ⟨rfl, _, SqL.of upd_same⟩, (by show 2 ≤ sizeLine; decide), fun t2 nt2 => ?_⟩
      have a2 : a ≠ t2 := fun e => by rw [← e, upd_same] at nt2; cases nt2
      have z2 := new_same nt2 (HO.tup [.int 2, .int 1])
      have e2 := z2 _ _ (show upd H7 a (HO.lst (xs.set j.toNat (V.ref t))) a = _ from upd_same)
      refine ⟨a, _, _, rfl, rfl, e2, small1000 (by rw [List.length_set]; omega), rfl, ?_⟩
      have bB : ∀ {e : Addr}, H5 e = some (.lst xs) → e ≠ B := fun h => nx.ne (by omega) h b5
      have b8 := (b7.upd (o := HO.lst (xs.set j.toNat (V.ref t))) aB.1 aB.2).same z2
      have st : ∀ {e : Addr} {o : HO}, e ≠ B → e ≠ a → H5 e = some o → upd (upd H7 a (HO.lst (xs.set j.toNat (V.ref t)))) t2 (HO.tup [.int 2, .int 1]) e = some o := fun h1 h2 h3 => z2 _ _ (by rw [upd_ne h2]; exact u7 _ _ h1 (s6 _ _ h3))
      have W1 := W0.trans (Wk.of z2)
      generalize upd (upd H7 a (HO.lst (xs.set j.toNat (V.ref t)))) t2 (HO.tup [.int 2, .int 1]) = H8 at e2 b8 st W1
      have W : Wk H5 (upd H8 a (.lst (xs.set j.toNat (V.ref t) ++ [V.ref t2]))) := W1.trans (Wk.set e2)
      have st2 : ∀ {e : Addr} {o : HO}, e ≠ B → e ≠ a → H5 e = some o → upd H8 a (.lst (xs.set j.toNat (V.ref t) ++ [V.ref t2])) e = some o := fun h1 h2 h3 => by rw [upd_ne h2]; exact st h1 h2 h3
      have fs : ∀ {x : Addr}, Ap H5 x → StF K S (upd H8 a (.lst (xs.set j.toNat (V.ref t) ++ [V.ref t2]))) (.ref x) qs := fun {x} ⟨dx, b, x0, sv, h1, h2, h3, h4, h5⟩ => ⟨x, dx, b, xs, x0, sv, rfl, W.ins h1, st2 (bB h2) h3 h2, nx.wk W, h4, h5.wk W, l3, l25⟩
      exact ⟨b8.upd aB.1 aB.2, fun e o h1 h2 => st2 h1 (fun z => by rw [z, na] at h2; cases h2) (u5 e o h1 h2), fs hx, fs hy, ⟨l, xs, rfl, st2 lB la hl, nx.wk W⟩⟩
    · have fs : ∀ {x : Addr}, Ap H5 x → StF K S H5 (.ref x) qs := fun {x} ⟨dx, b, x0, sv, h1, h2, h3, h4, h5⟩ => ⟨x, dx, b, xs, x0, sv, rfl, h1, h2, nx, h4, h5, l3, l25⟩
      exact ⟨_, rfl, .ref a, _, _, _, _, rfl, .ty _, .base (.tup ha), kit_ty kb_l.2.2.1, _, rfl, iteF ⟨rfl, b5, u5, fs hx, fs hy, ⟨l, xs, rfl, hl, nx⟩⟩⟩
  clear b5 u5 ha nx hl hx hy
  rintro σ H6 ⟨rfl, b6, u6, hX, hY, hL⟩
  refine ⟨_, rfl, _, rfl, _, _, qs, rfl, hX, hL, fun H7 s7 => ⟨_, rfl, iteT ⟨_, rfl, _, rfl, _, _, qs, rfl, hY.same s7, hL.same s7, fun H8 s8 => ⟨_, rfl, iteT ?_⟩⟩⟩⟩
  have s78 := s7.trans s8
  refine ⟨_, rfl, _, rfl, rd_eqS U.sk (hX.same s78).st (hY.same s78).st ?_⟩
  rw [decide_eq_true rfl]
  have u8 := u6.trans (But.same s78)
  exact q _ (b6.same s78) (Go.of u8) (tabs_but hT hb u8)
end
end Kx
end
section
set_option maxHeartbeats 4000000
namespace Kx
open PySem PySem.Spec PyProof.Rows L2 RZ
/-! ### further rules -/
/-- an index into a list or a tuple -/
def rIxH (K : PySem.W.Frag) : R2 := fun x y H Q => ∃ p xs i v, x = .ref p ∧ y = .int i ∧ SqH H p xs ∧ atI xs i = some v ∧ Q v H
theorem ixh_at {X : Cx} (K : PySem.W.Frag) (h : X.K = K) : IxR X (rIxH K) := by
  subst h
  intro value slice pins s σ H x y v u Q I rx ry hq hs
  obtain ⟨p, xs, i, z, e1, e2, hq | hq, ea, q⟩ := hq
  · exact ix_list value slice pins s σ H x y v u Q I rx ry ⟨p, xs, i, z, e1, e2, SqL.of hq, ea, q⟩ hs
  · exact ix_tup value slice pins s σ H x y v u Q I rx ry ⟨p, xs, i, z, e1, e2, SqT.of hq, ea, q⟩ hs
/-- xs != [] -/
def rNeE (K : PySem.W.Frag) : R2 := fun x y H Q => ∃ a b xs, x = .ref a ∧ y = .ref b ∧ SqL K H a xs ∧ SqL K H b [] ∧ Q (.bl (decide (xs.length ≠ 0))) H
theorem op_neE {X : Cx} (hu : X.A.units + 64 < cLine) : OpR X (compareOp .NotEq) (rNeE X.K) := by
  intro pins s σ H x y v u Q I rx ry h
  obtain ⟨a, b, xs, rfl, rfl, ha, hb, q⟩ := h
  cases (show v = Value.ref a from rx)
  cases (show u = Value.ref b from ry)
  obtain ⟨us, r1, p1, _⟩ := I.list ha
  obtain ⟨ws, r2, p2, _⟩ := I.list hb
  obtain rfl : ws = [] := by cases r2; rfl
  obtain ⟨⟨cls, dd, data, sl⟩, ho, hc, n, hd⟩ := id p1.isList
  obtain ⟨⟨cls2, dd2, data2, sl2⟩, ho2, hc2, n2, hd2⟩ := id p2.isList
  simp only at hc hd hc2 hd2
  subst hc hd hc2 hd2
  have ta : s.TypeIs (.ref a) "list" := ⟨_, ho, rfl⟩
  have tb : s.TypeIs (.ref b) "list" := ⟨_, ho2, rfl⟩
  have lx := r1.length
  show wpAny (model X.prog X.w) X.A (richCompare .NotEq (.ref a) (.ref b)) (EP X pins σ Q) X.xe s
  by_cases c : xs.length = 0
  · rw [decide_eq_false (fun z => z c)] at q
    have us0 : us = [] := List.eq_nil_of_length_eq_zero (by rw [← lx]; exact c)
    subst us0
    refine wpAny_richCompare_same_room (op := .NotEq) ta tb PySem.F.slot_list_ne (call_meets PySem.F.slot_list_ne ta PySem.F.entry_list_ne (PySem.F.args_list_ne_2 _ _) (SeqAt.list_neAt a b _ _ n n2 dd dd2 sl sl2 rfl (fun _ => true))
      ⟨ho, ho2, fun j h1 h2 => absurd h1 (by simp), ⟨(fun x => nomatch x), ⟨.bl false, H, I, rfl, q⟩⟩⟩) (by omega)
  · rw [decide_eq_true c] at q
    refine wpAny_richCompare_same_room (op := .NotEq) ta tb PySem.F.slot_list_ne (call_meets PySem.F.slot_list_ne ta PySem.F.entry_list_ne (PySem.F.args_list_ne_2 _ _) (SeqAt.list_ne_lengthsAt a b _ _ n n2 dd dd2 sl sl2 ?_)
      ⟨ho, ho2, ⟨(fun x => nomatch x), ⟨.bl true, H, I, rfl, q⟩⟩⟩) (by omega)
    rw [List.size_toArray, List.size_toArray, ← lx]
    exact bne_iff_ne.mpr c
section
variable {K : PySem.W.Frag} {S : Addr}
def RSt (K : PySem.W.Frag) (S : Addr) (a b : Addr) (H : Hp) : Prop := ∃ qs, StAt K S H (.ref a) qs ∧ StAt K S H (.ref b) qs
/-- ["told", a step] == ["told", an equal one] -/
def rTl (K : PySem.W.Frag) (S : Addr) : R2 := fun x y H Q => ∃ a b v u c qs, x = .ref a ∧ y = .ref b ∧ H a = some (.lst [.str c, v]) ∧ H b = some (.lst [.str c, u]) ∧ StAt K S H v qs ∧ StAt K S H u qs ∧ ∀ H', Same H H' → Q (.bl true) H'
theorem op_tl {X : Cx} (O : OpM X.prog X.w X.K X.mg X.base CX0 1 S "__eq__" (spEqF X.K S)) (hr : Room 2 X.A) : OpR X (compareOp .Eq) (rTl X.K S) := by
  intro pins s σ H x y v u Q I rx ry h
  obtain ⟨a, b, v1, u1, c, qs, rfl, rfl, ha, hb, hv, hu, q⟩ := h
  obtain ⟨g, fd, ps, h1, h2, F, hb'⟩ := O.ex
  have F2 : FnOk X.prog X.w X.K X.mg X.base CX0 1 g fd ps (spEq (RSt X.K S)) := F.imp fun vs H Q E ⟨a, b, e, ⟨qs, ha, hb⟩, q⟩ => ⟨.ref a, .ref b, qs, e, ha, .inl ⟨qs, hb, by rw [decide_eq_true rfl]; exact q H Ext.rfl'⟩⟩
  have mS : Mon (DIns S (RSt X.K S)) := mon_ins fun a b H H' e ⟨qs, h, h'⟩ => ⟨qs, h.same e, h'.same e⟩
  have G : EqG X 1 (fun x y H => DFlat x y H ∨ DIns S (RSt X.K S) x y H) := (eqG_flat.mono (Nat.zero_le 1)).or (eqG_ins F2 h1 h2 hb' pass0)
  refine op_eqG (rcG_list (mon_flat.or mS) G) hr pins s σ H _ _ _ _ Q I rx ry ⟨⟨a, b, _, _, rfl, rfl, ha, hb, .cons (.inl ⟨rfl, rfl, by show (c == c) = true; exact beq_self_eq_true c⟩) (.cons (.inr ?_) .nil)⟩, q⟩
  obtain ⟨x1, d1, _, _, _, _, _, rfl, e1, _⟩ := id hv
  obtain ⟨x2, d2, _, _, _, _, _, rfl, e2, _⟩ := id hu
  exact ⟨x1, x2, d1, d2, _, _, rfl, rfl, e1, e2, qs, hv, hu⟩
end
end Kx
end
section
set_option maxHeartbeats 4000000
namespace Kx
open PySem PySem.Spec PyProof.Rows L2 RZ
abbrev nGo : List Str := ["_law_bag_here", "_law_a", "_law_f", "_law_more", "_law_due", "_law_bad", "_law_told", "_law_kept", "_law_k"]
theorem scGo : FnScope nGo ["_law_bag_here", "_law_a"] (defScope L_gone_so) := ⟨rfl, rfl, rfl, by decide +kernel, rfl, by decide +kernel, by decide +kernel⟩
def spGo (K : PySem.W.Frag) (T : List (Addr × Str)) : Sp := fun vs H Q _ => ∃ (B p : Addr) (va : V) (qs : List Rat), vs = [.ref B, va] ∧ Bag H B p ∧ Ls K H va qs ∧ 2 ≤ qs.length ∧ qs.length ≤ 24 ∧ LamX.Tabs T H ∧ ∀ H', Bag H' B p → Go B H H' → LamX.Tabs T H' → Q (.bl true) H'
/-- a step stands on when another list is written -/
theorem StF.setL {K : PySem.W.Frag} {S m : Addr} {G : Hp} {v : V} {qs : List Rat} {ms ms' : List V} (h : StF K S G v qs) (e : G m = some (.lst ms)) (n : ms.length ≠ qs.length) : StF K S (upd G m (.lst ms')) v qs := by
  obtain ⟨x, dx, b, xs, x0, sv, e0, h1, h2, h3, h4, h5, h6⟩ := h
  have W : Wk G (upd G m (.lst ms')) := .set e
  refine ⟨x, dx, b, xs, x0, sv, e0, W.ins h1, ?_, h3.wk W, h4, h5.wk W, h6⟩
  rw [upd_ne (fun z => ?_)]
  · exact h2
  · rw [z, e] at h2
    exact n (by rw [HO.lst.inj (Option.some.inj h2), h3.1])
theorem Ls.setL {K : PySem.W.Frag} {m : Addr} {G : Hp} {v : V} {qs : List Rat} {ms ms' : List V} (h : Ls K G v qs) (e : G m = some (.lst ms)) (n : ms.length ≠ qs.length) : Ls K (upd G m (.lst ms')) v qs := by
  obtain ⟨a, xs, e0, h1, h2⟩ := h
  refine ⟨a, xs, e0, ?_, h2.wk (.set e)⟩
  rw [upd_ne (fun z => ?_)]
  · exact h1
  · rw [z, e] at h1
    exact n (by rw [HO.lst.inj (Option.some.inj h1), h2.1])
theorem LiD2.but {K : PySem.W.Frag} {S B p : Addr} {H0 H H' : Hp} {v : V} (h : LiD2 K S H0 H v) (b0 : Bag H0 B p) (b : Bag H B p) (b' : Bag H' B p) (u : But B H H') : LiD2 K S H0 H' v := by
  rcases h with h | ⟨a, xs, rs, e, ha, l, n, hI⟩
  · exact .inl (h.imp id fun ⟨x, dx, fs, e, h⟩ => ⟨x, dx, fs, e, (Wk.but b b' u).ins h⟩)
  · exact .inr ⟨a, xs, rs, e, ha.imp (fun h => u _ _ (b0.at n).1 h) (fun h => u _ _ (b0.at n).1 h), l, n, hI.wk (.but b b' u)⟩
theorem LiD2.same {K : PySem.W.Frag} {S : Addr} {H0 H H' : Hp} {v : V} (h : LiD2 K S H0 H v) (s : Same H H') : LiD2 K S H0 H' v := by
  rcases h with h | ⟨a, xs, rs, e, ha, l, n, hI⟩
  · exact .inl (h.imp id fun ⟨x, dx, fs, e, h⟩ => ⟨x, dx, fs, e, s _ _ h⟩)
  · exact .inr ⟨a, xs, rs, e, ha.same s, l, n, hI.wk (.of s)⟩
theorem LiD2.le {K : PySem.W.Frag} {S : Addr} {H0 H0' H : Hp} {v : V} (h : LiD2 K S H0' H v) (s : ∀ a, H0' a = none → H0 a = none) : LiD2 K S H0 H v := h.imp id fun ⟨a, xs, rs, e, ha, l, n, hI⟩ => ⟨a, xs, rs, e, ha, l, s a n, hI⟩
/-- what stands at a point of a law's def that draws: all of HF but the bag, the tables and lists made since -/
structure Jg (T : List (Addr × Str)) (B p : Addr) (HF G : Hp) : Prop where
  b : Bag G B p
  t : LamX.Tabs T G
  g : Go B HF G
section
variable {T : List (Addr × Str)} {B p : Addr} {HF G G' : Hp}
theorem Jg.same (j : Jg T B p HF G) (s : Same G G') : Jg T B p HF G' := ⟨j.b.same s, j.t.ext s, j.g.trans (Go.same s)⟩
theorem Jg.ext (j : Jg T B p HF G) (s : LamX.ExtN G G') (t : LamX.Tabs T G') : Jg T B p HF G' := ⟨j.b.ext s, t, j.g.trans (Go.ext s)⟩
theorem Jg.but (j : Jg T B p HF G) (b : Bag G' B p) (u : But B G G') : Jg T B p HF G' := ⟨b, tabs_but j.t j.b u, j.g.trans (Go.of u)⟩
theorem Jg.tabset {D : Addr} {xs ys : List V} (t : LamX.Tabs T G) (h : G D = some (.lst xs)) : LamX.Tabs T (upd G D (.lst ys)) := by
  intro q hq
  obtain ⟨ps, e1, e2, e3⟩ := t q hq
  refine ⟨ps, ?_, e2, fun pos cv hc => ?_⟩
  · rw [upd_ne (fun z => by rw [z, h] at e1; cases e1)]
    exact e1
  · obtain ⟨c0, z1, z2⟩ := e3 pos cv hc
    refine ⟨c0, z1, ?_⟩
    rw [upd_ne (fun z => by rw [z, h] at z2; cases z2)]
    exact z2
theorem Jg.set {m : Addr} {ms ms' : List V} (j : Jg T B p HF G) (n : HF m = none) (b0 : Bag HF B p) (h : G m = some (.lst ms)) : Jg T B p HF (upd G m (.lst ms')) :=
  ⟨j.b.upd (b0.at n).1 (b0.at n).2, Jg.tabset j.t h, fun e o h1 h2 h3 => by rw [upd_ne (fun z => by rw [z, n] at h3; cases h3)]; exact j.g e o h1 h2 h3⟩
end
section
variable {P : Program} {w : World} {K : PySem.W.Frag} {mg : Str → Option Value} {base : Heap} {C S : Addr} {cs : Fin 6 → Addr} {H : Hp} {vx v : V} {qs rs : List Rat} {code : Str} {i : Int}
theorem rd_goB {E : XK} {Q R : VK} (hX : StF K S H vx qs) (h : LiG K S H v (qs.length : Int) code i) (k : StepK P w K mg base C S (cs 1) (cs 2)) (hE : ∀ cls d H', Flt H' cs cls d Q → E cls d H') (q : ∀ t H', Same H H' → H' t = some (.lst [.str code, .int i]) → Q (.ref t) H') : spGoF K S (cs 1) (cs 2) [vx, v] H R E :=
  ⟨vx, v, qs, rfl, hX, h.giv k (fun e d H' s n e2 => hE _ _ _ (.inr (.inl ⟨rfl, d, _, rfl, e2, fun t H2 s2 n2 e3 => q t H2 (s.trans s2) (by rw [e]; exact e3)⟩)))
    (fun e d H' s n e2 => hE _ _ _ (.inr (.inr (.inl ⟨rfl, d, _, rfl, e2, fun t H2 s2 n2 e3 => q t H2 (s.trans s2) (by rw [e]; exact e3)⟩))))⟩
theorem rd_goG {CF CO : Addr} {m : Addr} {ms : List V} {E : XK} {R : VK} (hX : StF K S H vx qs) (ha : SqH H m ms) (hn : Nl K H ms rs) (l : qs.length + rs.length ≤ 24) (q : ∀ H' y, Same H H' → StF K S H' y (qs ++ rs) → R y H') : spGoF K S CF CO [vx, .ref m] H R E := by
  have l2 : 2 ≤ qs.length := by obtain ⟨_, _, _, _, _, _, _, _, _, _, _, _, h, _⟩ := hX; exact h
  refine ⟨vx, _, qs, rfl, hX, giv_ok ha hn (by omega) (by omega) ⟨fun e H' s => q H' vx s ?_, fun _ H' y s h => q H' y s h⟩⟩
  subst e
  rw [List.append_nil]
  exact hX.same s
theorem StF.ins (h : StF K S H vx qs) : ∃ x dx fs, vx = .ref x ∧ H x = some (.ins S dx fs) ∧ fs.lookup ("gone_on" : Str) = none ∧ fs.lookup ("cut" : Str) = none ∧ fs.lookup ("number" : Str) = none ∧ fs.lookup ("numbers" : Str) = none ∧ fs.lookup ("as_row" : Str) = none := by
  obtain ⟨x, dx, _, _, _, _, e, h, _⟩ := h
  exact ⟨x, dx, _, e, h, rfl, rfl, rfl, rfl, rfl⟩
theorem StF.len (h : StF K S H vx qs) : 2 ≤ qs.length ∧ qs.length ≤ 24 := by
  obtain ⟨_, _, _, _, _, _, _, _, _, _, _, _, h⟩ := h
  exact h
end
section
variable {P : Program} {w : World} {K : PySem.W.Frag} {mg : Str → Option Value} {base : Heap} {f c Pt C S CE : Addr} {cs : Fin 6 → Addr} {fd : FuncData} {T : List (Addr × Str)}
theorem ok_gone (F : FunC K "_law_gone_so" "_law_gone_so" L_gone_so f fd c) (U : KitS P w K mg base C S cs CE)
    (TB : LamX.TabB base mg c Pt) (hmT : (Pt, ((("_law_gone_so" : Str) ++ ".<locals>.") ++ "<lambda>" : Str)) ∈ T) (hu : ∀ p ∈ T, p.1 = Pt → p.2 = ((("_law_gone_so" : Str) ++ ".<locals>.") ++ "<lambda>" : Str)) : FnOk P w K mg base CX0 11 f fd ["_law_bag_here", "_law_a"] (spGo K T) := by
  refine F.ok scGo (fun vs H Q E h => ?_) (fun A outer s H vs Q E hr h => ?_)
  · obtain ⟨B, p, va, qs, rfl, _⟩ := h
    rfl
  obtain ⟨B, p, va, qs, rfl, hb, hL, l2, l24, hT, q⟩ := h
  have hr1 := hr.mono (show 1 ≤ 10 by decide)
  have hr2 := hr.mono (show 2 ≤ 10 by decide)
  have hr3 := hr.mono (show 3 ≤ 10 by decide)
  have hr6 := hr.mono (show 6 ≤ 10 by decide)
  have hr7 := hr.mono (show 7 ≤ 10 by decide)
  have hr8 := hr.mono (show 8 ≤ 10 by decide)
  have hr9 := hr.mono (show 9 ≤ 10 by decide)
  obtain ⟨fI, fdI, M, FI, bI, bK⟩ := U.si.ini
  obtain ⟨gA, fdA, FA, bA, mA⟩ := U.ask
  obtain ⟨oc, od, kV, doc, pm, an, cdv, ct, osl, rfl, lkA, hcdA⟩ := FA.ex
  obtain ⟨fF, fdF, PF, bF, kF, mF⟩ := U.flt
  refine ⟨_, C8.pss_cut (ps_set (i := 2) scGo.nd rfl (Or.inr rfl) (pe_make (E := fun _ _ _ => False) M FI hr7 rfl U.si.m bI .nil passF (pa_cons (pv 1) pa_nil)))
    (C8.pss_cut (ps_set (i := 3) scGo.nd rfl (Or.inr rfl) (pe_use U.ofL hr2 rfl pass0 (pa_cons (pv 0) (pa_cons (pe_lst (pa_cons (pe_lst pa_nil) (pa_cons (pe_lst (pa_cons (pe_use U.num hr3 rfl pass0 (pa_cons (pv 0) pa_nil)) pa_nil))
        (pa_cons (pe_cut (pe_lc (own := [("_law_k", 8)]) (g := gName 8) (tt := tYes) rfl scGo.nd (pi_range1 rfl U.mr (pa_cons (pe_use U.draw hr1 rfl pass0 (pa_cons (pv 0) (pa_cons (pe_op op_sub pe_int (pe_callB call_len_seq rfl U.mn PySem.boot_len (pa_cons (pv 1) pa_nil))) pa_nil))) pa_nil)) (blkOk_by (N := nGo) (sc := defScope L_gone_so) (by decide +kernel)) (fun _ _ _ _ _ => pg_name (i := 8) scGo.nd rfl (Or.inl rfl)) (fun _ _ _ _ _ => pts_nil) (fun _ _ _ _ _ => pe_use U.num hr3 rfl pass0 (pa_cons (pv 0) pa_nil))))
        (pa_cons (pe_use U.list hr rfl pass0 (pa_cons (pv 0) pa_nil)) pa_nil))))) pa_nil))))
    (C8.pss_cut (ps_if (PW.pt (pw_and (pt_val (pe_callB call_isi rfl U.mI (by decide +kernel) (pa_cons (pv 3) (pa_cons (pe_bltn rfl U.ml boot_list (rel_ty _)) pa_nil)))) (pw_and (pt_cmpR (op_neE hr.units) (pv 3) (pe_lst pa_nil) (nomark _)) (pw_and1 (pt_cmpR op_eq (pe_use U.draw hr1 rfl pass0 (pa_cons (pv 0) (pa_cons pe_int pa_nil))) pe_int (nomark _))))))
        (pss_one (ps_asg (pe_use U.odd hr9 rfl pass0 (pa_cons (pv 0) pa_nil)) (pg_sub (pv 3) (pe_use U.draw hr1 rfl pass0 (pa_cons (pv 0) (pa_cons (pe_callB call_len_seq rfl U.mn PySem.boot_len (pa_cons (pv 3) pa_nil)) pa_nil))) set_list))) pss_nil)
    (C8.pss_cut (ps_set (i := 4) scGo.nd rfl (Or.inl rfl) pe_non)
    (C8.pss_cut (ps_if (pt_not (pt_val (pe_callB call_isiT rfl U.mI (by decide +kernel) (pa_cons (pv 3) (pa_cons (pe_tup (pa_cons (pe_bltn rfl U.ml boot_list (rel_ty _)) (pa_cons (pe_bltn rfl U.mt boot_tuple (rel_ty _)) pa_nil))) pa_nil))))) (pss_one (ps_set (i := 4) scGo.nd rfl (Or.inl rfl) (pe_lst (pa_cons pe_str (pa_cons (pe_un un_neg pe_int) pa_nil)))))
        (pss_one (ps_if (pt_cmpR op_gt (pe_op op_add (pe_callB call_len_seq rfl U.mn PySem.boot_len (pa_cons (pv 1) pa_nil)) (pe_callB call_len_seq rfl U.mn PySem.boot_len (pa_cons (pv 3) pa_nil))) pe_int (nomark _)) (pss_one (ps_set (i := 4) scGo.nd rfl (Or.inl rfl) (pe_lst (pa_cons pe_str (pa_cons (pe_op op_add (pe_callB call_len_seq rfl U.mn PySem.boot_len (pa_cons (pv 1) pa_nil)) (pe_callB call_len_seq rfl U.mn PySem.boot_len (pa_cons (pv 3) pa_nil))) pa_nil)))))
          (C8.pss_cut (ps_setLc (i := 5) (own := [("_law_k", 8)]) (g := gName 8) rfl scGo.nd rfl rfl (sw_true rfl rfl rfl (by decide +kernel)) (pi_range1 rfl U.mr (pa_cons (pe_callB call_len_seq rfl U.mn PySem.boot_len (pa_cons (pv 3) pa_nil)) pa_nil)) (blkOk_by (N := nGo) (sc := defScope L_gone_so) (by decide +kernel)) (fun _ _ _ _ _ => pg_name (i := 8) scGo.nd rfl (Or.inl rfl))
            (fun _ _ _ _ _ => pts_one (pt_not (pt_val (pe_use U.lis hr2 rfl pass0 (pa_cons (pe_ix (ixh_at K rfl) (pv 3) (pv 8) (fun _ _ => rfl)) pa_nil))))) (fun _ _ _ _ _ => pv 8))
          (pss_one (ps_if (pt_cmpR (op_neD hr.units) (pv 5) (pe_lst pa_nil) (nomark _)) (pss_one (ps_set (i := 4) scGo.nd rfl (Or.inl rfl) (pe_lst (pa_cons pe_str (pa_cons (pe_ix ix_list (pv 5) pe_int (fun _ _ => rfl)) pa_nil))))) pss_nil))))))
    (C8.pss_cut (ps_set (i := 6) scGo.nd rfl (Or.inl rfl) (pe_lst (pa_cons
        (LamX.pe_lamcall (k := 8) (t := fun E => tMeth S "gone_on" (spGoF K S (cs 1) (cs 2)) [] E (tVar 2) (tCons (tVar 3) tNil)) (TT := TAsk cs) rfl mA FA.kp lkA hcdA bA scAsk rfl (Or.inl rfl) (ask_gives (hr.mono (by decide)) PF bF kF mF U.mC U.e1) TB rfl hmT hu hr (LamX.lamS_by (show LamX.lamSB (defScope L_gone_so) _ = true by decide +kernel)) rfl (fun _ _ _ _ _ => rfl)
          (fun A outer s H E f c' hk => pe_mu U.gone (pv 2) hk (passes_call (takes_of rfl rfl rfl rfl) (fun _ _ _ _ h => h)) (pa_cons (pv 3) pa_nil)))
        (pa_cons (LamX.pe_lamcallD (k := 8) (kd := 0) (px := "_law_x") (t := fun E => tMethR S "gone_on" 1 (spGoF K S (cs 1) (cs 2)) E (tVar 2) (tCons (tVar 3) tNil)) (TT := TAsk cs) rfl mA FA.kp lkA hcdA bA scAsk rfl (Or.inl rfl) (ask_gives (hr.mono (by decide)) PF bF kF mF U.mC U.e1) TB rfl hmT hu hr (LamX.lamD_by (show LamX.lamDB nGo (defScope L_gone_so) _ "_law_x" = true by decide +kernel)) rfl (fun _ _ _ _ _ _ _ => ⟨_, rfl, rfl⟩)
          (fun A outer s H E f c' hk => pe_muR (ks := ["numbers"]) U.gone (pv 2) hk (passes_call (takes_of rfl rfl rfl rfl) (fun _ _ _ _ h => h)) (pk_cons (pv 3) pk_nil) (by simp)))
        pa_nil))))
    (C8.pss_cut (ps_if (pt_cmpR op_notN (pv 4) pe_non (nomark _)) (pss_one (ps_ret (pe_and (pe_use U.lik hr6 rfl pass0 (pa_cons (pv 6) (pa_cons (pe_lst (pa_cons (pv 4) (pa_cons (pv 4) pa_nil))) pa_nil))) (pe_one (pe_use U.told hr9 rfl pass0 (pa_cons (pv 2) (pa_cons (pv 1) pa_nil))))))) pss_nil)
    (C8.pss_cut (ps_set (i := 7) scGo.nd rfl (Or.inl rfl) (pe_op op_cat (pv 1) (pe_callTy call_list_of rfl U.ml (by decide +kernel) (pa_cons (pv 3) pa_nil))))
    (C8.pss_cut (ps_if (pt_val (pe_callB call_isi rfl U.mI (by decide +kernel) (pa_cons (pv 3) (pa_cons (pe_bltn rfl U.ml boot_list (rel_ty _)) pa_nil))))
        (pss_cons (ps_expr (pe_bm PySem.F.plainAttrs_list PySem.F.slot_list_append PySem.F.type_list_append mt_append (pv 3) (pa_cons (pe_tup (pa_cons pe_int (pa_cons pe_int pa_nil))) pa_nil)))
        (pss_one (ps_asg (pe_tup (pa_cons pe_int (pa_cons pe_int pa_nil))) (pg_sub (pv 3) pe_int set_list)))) pss_nil)
    (C8.pss_cut (ps_if (PW.pt (pw_or (pt_cmpR op_ne (pe_ix ix_list (pe_ix ix_list (pv 6) pe_int (fun _ _ => rfl)) pe_int (fun _ _ => rfl)) pe_str (nomark _))
        (pw_or (pt_not (pt_val (pe_use U.told hr9 rfl pass0 (pa_cons (pe_ix ix_list (pe_ix ix_list (pv 6) pe_int (fun _ _ => rfl)) pe_int (fun _ _ => rfl)) (pa_cons (pv 7) pa_nil)))))
        (pw_or1 (pt_not (pt_cmpR (op_tl U.oeq hr2) (pe_ix ix_list (pv 6) pe_int (fun _ _ => rfl)) (pe_ix ix_list (pv 6) pe_int (fun _ _ => rfl)) (nomark _))))))) (pss_one (ps_ret pe_bl)) pss_nil)
    (C8.pss_cut (ps_if (PW.pt (pw_and (pt_cmpR op_lt (pe_callB call_len_seq rfl U.mn PySem.boot_len (pa_cons (pv 1) pa_nil)) pe_int (nomark _))
        (pw_and1 (pt_not (pt_val (pe_use U.told hr9 rfl pass0 (pa_cons (pe_mu (E := fun _ _ _ => False) U.gone (pv 2) hr8 passF (pa_cons (pe_lst (pa_cons (pe_tup (pa_cons pe_int (pa_cons pe_int pa_nil))) pa_nil)) pa_nil)) (pa_cons (pe_op op_cat (pv 1) (pe_lst (pa_cons (pe_tup (pa_cons pe_int (pa_cons pe_int pa_nil))) pa_nil))) pa_nil)))))))) (pss_one (ps_ret pe_bl)) pss_nil)
    (pss_one (ps_ret (pe_and (pe_cmpR (op_eqO U.oeq hr1 pass0) (pe_mu (E := fun _ _ _ => False) U.cut (pe_ix ix_list (pe_ix ix_list (pv 6) pe_int (fun _ _ => rfl)) pe_int (fun _ _ => rfl)) hr8 passF (pa_cons (pe_callB call_len_seq rfl U.mn PySem.boot_len (pa_cons (pv 1) pa_nil)) pa_nil)) (pv 2) (nomark _))
      (pe_and (pe_cmpR op_eq (pe_cmpR (op_eqO U.oeq hr1 pass0) (pe_ix ix_list (pe_ix ix_list (pv 6) pe_int (fun _ _ => rfl)) pe_int (fun _ _ => rfl)) (pv 2) (nomark _)) (pe_cmpR (op_eqD hr.units) (pv 7) (pv 1) (nomark _)) (nomark _))
        (pe_one (pe_use U.told hr9 rfl pass0 (pa_cons (pv 2) (pa_cons (pv 1) pa_nil)))))))))))))))))), ?_⟩
  obtain ⟨a, ys, rfl, ha, ny⟩ := id hL
  have ly : ys.length = qs.length := ny.1
  refine ⟨fun σ HF => ∃ x, σ = [some (.ref B), some (.ref a), some (.ref x), none, none, none, none, none, none] ∧ Same H HF ∧ StF K S HF (.ref x) qs, ?_, ?_⟩
  · refine ⟨_, rfl, fun x dx xn dn en => ?_⟩
    exact step_newF (E := fun _ _ _ => False) (.inl ha) ny l2 l24 xn dn en fun HF sF rF => ⟨rfl, x, rfl, sF, rF⟩
  rintro σ HF ⟨x, rfl, sF, hX⟩
  have bF := hb.same sF
  have tF := hT.ext sF
  have hLF := hL.same sF
  have aF := sF _ _ ha
  clear hb hT hL ha
  refine ⟨fun σ G => ∃ v, σ = [some (.ref B), some (.ref a), some (.ref x), some v, none, none, none, none, none] ∧ Jg T B p HF G ∧ LiD2 K S HF G v, ?_, ?_⟩
  · have j0 : Jg T B p HF HF := ⟨bF, tF, Go.refl⟩
    refine ⟨_, rfl, (by show 0 ≤ sizeLine; decide), fun e1 n1 => ?_⟩
    have s1 := new_same n1 (HO.lst [])
    have h1 : upd HF e1 (.lst []) e1 = some (.lst []) := upd_same
    have j1 := j0.same s1
    have b1 := bF.same s1
    have u1 : But B HF (upd HF e1 (.lst [])) := But.new n1
    have k1 : LiD2 K S HF (upd HF e1 (.lst [])) (.ref e1) := .inr ⟨e1, [], [], rfl, .inl h1, by decide, n1, rfl, fun i x r h => by simp at h⟩
    generalize upd HF e1 (.lst []) = G1 at s1 h1 j1 b1 u1 k1
    refine ⟨_, rfl, B, p, rfl, b1, fun G2 y r b2 u2 nr br => ⟨(by show 1 ≤ sizeLine; decide), fun e2 n2 => ?_⟩⟩
    have s2 := new_same n2 (HO.lst [y])
    have j2 := (j1.but b2 u2).same s2
    have n2' : HF e2 = none := (u1.trans u2).free b2 n2
    have k2 : LiD2 K S HF (upd G2 e2 (.lst [y])) (.ref e2) := .inr ⟨e2, [y], [true], rfl, .inl upd_same, (by show 1 ≤ 60; decide), n2', rfl, fun i x r' h h' => by
      match i, h, h' with
      | 0, h, h' =>
        rw [← Option.some.inj h, ← Option.some.inj h']
        exact .inl ⟨rfl, r, nr.same s2, br⟩⟩
    have k1 := (k1.but bF b1 b2 u2).same s2
    have b2 := b2.same s2
    have u2 := (u1.trans u2).trans (But.same s2)
    clear s1 h1 j1 b1 u1 nr
    generalize upd G2 e2 (.lst [y]) = G3 at s2 j2 k2 k1 b2 u2
    refine ⟨fun v G => ∃ e3, v = .ref e3 ∧ Jg T B p HF G ∧ But B G3 G ∧ LiD2 K S HF G v, ?_, ?_⟩
    · refine ⟨_, rfl, _, rfl, a, ys, rfl, .inl (SqL.of (j2.g _ _ (ny.same sF |>.ne (by omega) aF bF) (fun ps z => by cases z) aF)), 26, (ys.length : Nat), rfl, rfl, B, p, _, rfl, by omega, by omega, b2, fun G4 n b4 u4 n0 n1 => ?_⟩
      refine ⟨_, rfl, by omega, by omega, fun D nD => ?_⟩
      have DB := b4.at nD
      have j4 := j2.but b4 u4
      refine lc_range (lo := 0) (n := n.toNat) (fun i H' => Bag H' B p ∧ But B G4 H' ∧ ∃ xs qs, H' D = some (.lst xs) ∧ Nl K H' xs qs ∧ qs.length = i ∧ AllB 21 qs) ⟨b4.put nD, But.new nD, [], [], upd_same, Nl.nil, rfl, fun _ h => nomatch h⟩ ?_ ?_
      · rintro i H' hi ⟨b', u', xs, qs, hD, nx, ql, bq⟩
        have xl : xs.length = i := by rw [nx.1, ql]
        refine ⟨rfl, yesT ⟨_, rfl, B, p, rfl, b', fun H5 v q b5 u5 nv bv => ?_⟩⟩
        have hD5 := u5 _ _ DB.1 hD
        refine ⟨xs, hD5, small1000 (by omega), b5.upd DB.1 DB.2, ?_, xs ++ [v], qs ++ [q], upd_same, ?_, by rw [List.length_append, ql]; rfl, ?_⟩
        · intro b o hb he
          rw [upd_ne (fun z => by rw [z, nD] at he; cases he)]
          exact u5 _ _ hb (u' _ _ hb he)
        · exact ((nx.go b' (Go.of u5)).snoc nv).wk (.set hD5)
        · intro r hr
          rcases List.mem_append.mp hr with hr | hr
          · exact bq r hr
          · rw [List.mem_singleton.mp hr]
            exact bv
      · rintro H' ⟨b', u', xs, qs, hD, nx, ql, bq⟩
        have nD3 : G3 D = none := u4.free b4 nD
        exact ⟨D, rfl, j4.but b' u', u4.trans u', .inr ⟨D, xs, _, rfl, .inl hD, by rw [nx.1]; omega, u2.free b2 nD3, nx.ims bq⟩⟩
    rintro _ G5 ⟨e3, rfl, j5, u5, k3⟩
    have k1 := k1.but bF b2 j5.b u5
    have k2 := k2.but bF b2 j5.b u5
    refine ⟨_, rfl, B, p, rfl, j5.b, fun G6 v4 b6 u6 k4 => ?_⟩
    have j6 := j5.but b6 u6
    have k1 := k1.but bF j5.b b6 u6
    have k2 := k2.but bF j5.b b6 u6
    have k3 := k3.but bF j5.b b6 u6
    have k4 : LiD2 K S HF G6 v4 := k4.le fun a h => (u2.trans u5).free j5.b h
    refine ⟨(by show 4 ≤ sizeLine; decide), fun L nL => ?_⟩
    have s7 := new_same nL (HO.lst [V.ref e1, V.ref e2, V.ref e3, v4])
    refine ⟨B, p, L, _, rfl, upd_same, (b6.at nL).1, (by show 0 < 4; decide), (by show 4 ≤ 1000; decide), b6.put nL, fun G8 z b8 u8 hz => ?_⟩
    have j8 := (j6.same s7).but b8 u8
    have fin : ∀ v, LiD2 K S HF G6 v → LiD2 K S HF G8 v := fun v k => (k.same s7).but bF (b6.put nL) b8 u8
    simp only [List.mem_cons, List.not_mem_nil, or_false] at hz
    rcases hz with rfl | rfl | rfl | rfl
    · exact ⟨_, rfl, j8, fin _ k1⟩
    · exact ⟨_, rfl, j8, fin _ k2⟩
    · exact ⟨_, rfl, j8, fin _ k3⟩
    · exact ⟨_, rfl, j8, fin _ k4⟩
  rintro σ G ⟨v, rfl, j, k⟩
  refine ⟨fun σ G => σ = [some (.ref B), some (.ref a), some (.ref x), some v, none, none, none, none, none] ∧ Jg T B p HF G ∧ LiD2 K S HF G v, ?_, ?_⟩
  · rcases k with k | ⟨m, ms, rs, rfl, hm, l60, nm, hI⟩
    · obtain ⟨T1, ty, kt⟩ : ∃ T1, TyX K G v T1 ∧ PySem.W.kitOne K T1 (.type "list") = some false := by
        rcases k with k | ⟨y, dy, fs, rfl, hy⟩
        · exact ⟨_, ty_flat k, kit_ty (kb_seq _ (tyS_in k)).1⟩
        · exact ⟨_, U.sk.ty _ _ _ _ hy, U.sk.kB "list" (by simp)⟩
      exact ⟨_, rfl, v, _, _, _, _, rfl, .ty _, ty, kt, _, rfl, iteF (iteF ⟨rfl, j, .inl k⟩)⟩
    rcases hm with hm | hm
    · have lI := hI.1
      refine ⟨_, rfl, .ref m, _, _, _, _, rfl, .ty _, .base (.lst hm), kit_ty kb_l.1, _, rfl, iteT ?_⟩
      refine ⟨_, rfl, (by show 0 ≤ sizeLine; decide), fun e ne => ?_⟩
      have s1 := new_same ne (HO.lst [])
      have j1 := j.same s1
      have m1 := s1 _ _ hm
      have I1 := hI.wk (.of s1)
      refine ⟨m, e, ms, rfl, rfl, SqL.of m1, SqL.of upd_same, _, rfl, ?_⟩
      generalize upd G e (.lst []) = G1 at s1 j1 m1 I1
      by_cases c : ms.length = 0
      · rw [decide_eq_false (fun z => z c)]
        exact iteF (iteF ⟨rfl, j1, .inr ⟨m, ms, rs, rfl, .inl m1, l60, nm, I1⟩⟩)
      rw [decide_eq_true c]
      refine iteT ⟨_, rfl, B, p, 4, rfl, by decide, by decide, j1.b, fun G2 z b2 u2 _ _ => ⟨rfl, _, rfl, ?_⟩⟩
      have j2 := j1.but b2 u2
      have m2 := u2 _ _ (bF.at nm).1 m1
      have I2 := I1.wk (.but j1.b b2 u2)
      refine ite2 (fun _ => ?_) (fun _ => ⟨rfl, j2, .inr ⟨m, ms, rs, rfl, .inl m2, l60, nm, I2⟩⟩)
      refine ⟨_, rfl, B, p, rfl, b2, fun G3 v b3 u3 ov => ?_⟩
      have j3 := j2.but b3 u3
      have m3 := u3 _ _ (bF.at nm).1 m2
      refine ⟨_, rfl, _, rfl, _, rfl, m, ms, rfl, .inl (SqL.of m3), B, p, (ms.length : Nat), rfl, by omega, by omega, b3, fun G4 n b4 u4 n0 n1 => ?_⟩
      have j4 := j3.but b4 u4
      have m4 := u4 _ _ (bF.at nm).1 m3
      have I4 := I2.wk ((Wk.but b2 b3 u3).trans (.but b3 b4 u4))
      refine ⟨m, ms, n, n.toNat, rfl, rfl, m4, ?_, ?_⟩
      · unfold ixN
        rw [if_pos n0, if_pos (by omega)]
      · exact ⟨rfl, j4.set nm bF m4, .inr ⟨m, ms.set n.toNat v, rs.set n.toNat false, rfl, .inl upd_same, by rw [List.length_set]; exact l60, nm, (I4.set (.inr ⟨rfl, ov.2.fx.wk (.but b3 b4 u4)⟩)).wk (.set m4)⟩⟩
    · exact ⟨_, rfl, .ref m, _, _, _, _, rfl, .ty _, .base (.tup hm), kit_ty kb_l.2.2.1, _, rfl, iteF (iteF ⟨rfl, j, .inr ⟨m, ms, rs, rfl, .inr hm, l60, nm, hI⟩⟩)⟩
  clear j k
  rintro σ G ⟨rfl, j, k⟩
  refine ⟨fun σ G' => σ = [some (.ref B), some (.ref a), some (.ref x), some v, some .non, none, none, none, none] ∧ Jg T B p HF G' ∧ LiD2 K S HF G' v, ⟨rfl, j, k⟩, ?_⟩
  clear j k
  rintro σ G ⟨rfl, j, k⟩
  -- what is due
  refine ⟨fun σ G => ∃ due o5 o8, σ = [some (.ref B), some (.ref a), some (.ref x), some v, some due, o5, none, none, o8] ∧ Jg T B p HF G ∧ ((∃ code i t, due = .ref t ∧ G t = some (.lst [.str code, .int i]) ∧ LiG K S G v (qs.length : Int) code i) ∨
      (due = .non ∧ ∃ m ms rs, v = .ref m ∧ SqH G m ms ∧ Nl K G ms rs ∧ qs.length + rs.length ≤ 24 ∧ HF m = none)), ?_, ?_⟩
  · have aG : ∀ {G'}, Go B HF G' → G' a = some (.lst ys) := fun g => g _ _ (ny.same sF |>.ne (by omega) aF bF) (fun ps z => by cases z) aF
    refine ⟨_, rfl, (by show 2 ≤ sizeLine; decide), fun t nt => ?_⟩
    have s1 := new_same nt (HO.tup [.ty "list", .ty "tuple"])
    have j1 := j.same s1
    have k1 := k.same s1
    rcases k1 with k1 | ⟨m, ms, rs, rfl, hm, l60, nm, hI⟩
    · obtain ⟨T1, ty, kA⟩ := Nls.lsv k1 U.sk _ (Same.refl _)
      refine ⟨v, t, _, T1, _, false, rfl, upd_same, .cons (.ty _) (.cons (.ty _) .nil), ty, kA, _, rfl, iteT ?_⟩
      refine ⟨1, rfl, (by show 2 ≤ sizeLine; decide), fun d nd => ?_⟩
      have s2 := new_same nd (HO.lst [V.str "InvalidFraction", V.int (-1)])
      exact ⟨_, none, none, rfl, j1.same s2, .inl ⟨_, _, d, rfl, upd_same, .inl ⟨k1.imp id fun ⟨y, dy, fs, e, h⟩ => ⟨y, dy, fs, e, s2 _ _ h⟩, rfl, rfl⟩⟩⟩
    have lI := hI.1
    have hm' : SqL K _ m ms ∨ SqT K _ m ms := hm.imp (SqL.of (K := K)) (SqT.of (K := K))
    obtain ⟨sT, ty, kA⟩ : ∃ sT, TyX K (upd G t (HO.tup [.ty "list", .ty "tuple"])) (.ref m) (.type sT) ∧ PySem.W.kitAny K (.type sT) [.type "list", .type "tuple"] = some true := by
      rcases hm with hm | hm
      · exact ⟨_, .base (.lst hm), kit2 kb_l.1 kb_l.2.1 rfl⟩
      · exact ⟨_, .base (.tup hm), kit2 kb_l.2.2.1 kb_l.2.2.2 rfl⟩
    refine ⟨.ref m, t, _, .type sT, _, true, rfl, upd_same, .cons (.ty _) (.cons (.ty _) .nil), ty, kA, _, rfl, iteF ?_⟩
    have a1 := aG j1.g
    clear ty kA
    generalize upd G t (HO.tup [.ty "list", .ty "tuple"]) = G1 at s1 j1 hm hm' hI a1
    refine ⟨_, rfl, a, ys, rfl, .inl (SqL.of a1), _, rfl, m, ms, rfl, hm', (ys.length : Nat), (ms.length : Nat), rfl, rfl, _, 24, rfl, rfl, _, rfl, ite2 (fun cc => ?_) (fun cc => ?_)⟩
    · have cc : (24 : Int) < (ys.length : Nat) + (ms.length : Nat) := of_decide_eq_true cc
      refine ⟨_, rfl, a, ys, rfl, .inl (SqL.of a1), _, rfl, m, ms, rfl, hm', (ys.length : Nat), (ms.length : Nat), rfl, rfl, (by show 2 ≤ sizeLine; decide), fun d nd => ?_⟩
      have s2 := new_same nd (HO.lst [V.str "InvalidOrder", V.int ((ys.length : Nat) + (ms.length : Nat))])
      exact ⟨_, none, none, rfl, j1.same s2, .inl ⟨_, _, d, rfl, upd_same, .inr ⟨m, ms, rfl, hm.same s2, .inl ⟨by omega, rfl, by omega⟩⟩⟩⟩
    have cc : ¬ ((24 : Int) < (ys.length : Nat) + (ms.length : Nat)) := of_decide_eq_false (Bool.eq_false_iff.mpr cc)
    refine ⟨fun σ G2 => ∃ e : Addr, σ = [some (.ref B), some (.ref a), some (.ref x), some (.ref m), some .non, some (.ref e), none, none, none] ∧ Same G1 G2 ∧ G2 e = some (.lst ((badL rs 0).map fun n => V.int (n : Nat))), ?_, ?_⟩
    · refine ⟨_, rfl, m, ms, rfl, hm', _, rfl, by omega, by omega, fun D nD => ?_⟩
      refine lc_range (lo := 0) (n := (((ms.length : Nat) : Int)).toNat) (fun i H' => Same G1 H' ∧ H' D = some (.lst ((badL (rs.take i) 0).map fun n => V.int (n : Nat)))) ⟨new_same nD _, upd_same⟩ ?_ ?_
      · rintro i H2 hi ⟨s2, hD⟩
        rw [Int.toNat_natCast] at hi
        have ex := List.getElem?_eq_getElem (l := ms) (i := i) hi
        have er := List.getElem?_eq_getElem (l := rs) (i := i) (by omega)
        have ig := ((hI.2 i _ _ ex er).wk (.of s2)).isB U.sk
        refine ⟨rfl, _, rfl, _, rfl, m, ms, _, _, rfl, rfl, hm.same s2, at_of (j := i) (by omega) ex, ms[i], rs[i], rfl, ig, fun H3 s3 => ⟨_, rfl, ?_⟩⟩
        have hD3 := s3 _ _ hD
        have key : ∀ r, rs[i]? = some r → badL (rs.take (i + 1)) 0 = if r = true then badL (rs.take i) 0 else badL (rs.take i) 0 ++ [i] := fun r hr => by
          rw [List.take_add_one, hr]
          show badL (rs.take i ++ [r]) 0 = _
          rw [badL_snoc, List.length_take, Nat.min_eq_left (by omega), Nat.zero_add]
        generalize rs[i] = r at er ig
        have kr := key r er
        cases r with
        | true =>
          refine iteF ⟨s2.trans s3, ?_⟩
          rw [kr]
          exact hD3
        | false =>
          refine iteT ⟨_, rfl, _, hD3, small1000 (by rw [List.length_map]; have := badL_len (rs.take i) 0; rw [List.length_take] at this; omega), fun e o h => by rw [upd_ne (ne_of_none h nD)]; exact s3 _ _ (s2 _ _ h), ?_⟩
          rw [upd_same, kr]
          show _ = some (HO.lst ((badL (rs.take i) 0 ++ [i]).map _))
          rw [List.map_append, Int.zero_add]
          rfl
      · rintro H2 ⟨s2, hD⟩
        rw [Int.toNat_natCast, lI, List.take_length] at hD
        exact ⟨D, rfl, s2, hD⟩
    rintro σ G2 ⟨e, rfl, s2, he⟩
    have j2 := j1.same s2
    refine ⟨_, rfl, (by show 0 ≤ sizeLine; decide), fun e2 ne2 => ?_⟩
    have s3 := new_same ne2 (.lst [])
    have he3 := s3 _ _ he
    refine ⟨datI (badL rs 0), .list [], .lst (SqL.of he3) (dp_int _), .lst (SqL.of upd_same) .nil, shaped_int _, rfl, _, rfl, ?_⟩
    have bh := bad_head rs 0
    have s13 := s2.trans s3
    have j3 := j2.same s3
    generalize upd G2 e2 (.lst []) = G3 at s13 he3 j3
    cases hb : badL rs 0 with
    | nil =>
      rw [hb] at bh
      obtain ⟨qs', nx⟩ := hI.nl bh
      exact iteF ⟨_, _, _, rfl, j3, .inr ⟨rfl, m, ms, qs', rfl, hm.same s13, nx.same s13, by rw [← nx.1]; omega, nm⟩⟩
    | cons k ks =>
      rw [hb] at bh he3
      refine iteT ⟨_, rfl, e, _, 0, _, rfl, rfl, SqL.of he3, at_of (j := 0) rfl rfl, (by show 2 ≤ sizeLine; decide), fun d nd => ?_⟩
      have s4 := new_same nd (HO.lst [V.str "InvalidFraction", V.int (k : Nat)])
      exact ⟨_, _, _, rfl, j3.same s4, .inl ⟨_, _, d, rfl, upd_same, .inr ⟨m, ms, rfl, hm.same (s13.trans s4), .inr ⟨by omega, by omega, rs, k, hI.wk (.of (s13.trans s4)), bh, rfl, rfl⟩⟩⟩⟩
  clear j k
  rintro σ G ⟨due, o5, o8, rfl, j, hd⟩
  have rd : ∀ {G'}, Go B HF G' → StF K S G' (.ref x) qs := fun g => hX.go bF g
  have ra : ∀ {G'}, Go B HF G' → Ls K G' (.ref a) qs := fun g => hLF.go (by omega) bF g
  rcases hd with ⟨code, i, t0, rfl, e0, lb⟩ | ⟨rfl, m, ms, rs, rfl, hm, nm, l25, na⟩
  · -- refused
    refine ⟨fun σ G => ∃ l r1 r2, σ = [some (.ref B), some (.ref a), some (.ref x), some v, some (.ref t0), o5, some (.ref l), none, o8] ∧ Jg T B p HF G ∧ G l = some (.lst [.ref r1, .ref r2]) ∧ G t0 = some (.lst [.str code, .int i]) ∧ G r1 = some (.lst [.str code, .int i]) ∧ G r2 = some (.lst [.str code, .int i]), ?_, ?_⟩
    · refine ⟨j.t, fun G6 x6 T6 => ?_⟩
      have j6 := j.ext x6 T6
      have lb6 := lb.ext x6
      have h6 := rd j6.g
      obtain ⟨x', dx, fs, ex, hx, f1, _⟩ := h6.ins
      obtain rfl := V.ref.inj ex
      refine ⟨_, rfl, x, dx, fs, rfl, hx, f1, _, rfl, rd_goB h6 lb6 U.sk (fun _ _ _ h => h) fun r1 G7 s7 e7 => ?_⟩
      refine ⟨T6.ext s7, fun G8 tu x8 T8 htu => ⟨htu, ?_⟩⟩
      have j8 := (j6.same s7).ext x8 T8
      have lb8 := (lb6.ext (.of s7)).ext x8
      have h8 := rd j8.g
      obtain ⟨x', dx', fs', ex, hx8, f8, _⟩ := h8.ins
      obtain rfl := V.ref.inj ex
      refine ⟨_, rfl, x, dx', fs', rfl, hx8, f8, _, rfl, rfl, rd_goB h8 lb8 U.sk (fun _ _ _ h => h) fun r2 G9 s9 e9 => ?_⟩
      refine ⟨(by show 2 ≤ sizeLine; decide), fun l nl => ?_⟩
      have s10 := new_same nl (HO.lst [V.ref r1, V.ref r2])
      have nt : ∀ (l : List V) ps, HO.lst l ≠ .tbl ps := fun l ps z => by cases z
      exact ⟨l, r1, r2, rfl, (j8.same s9).same s10, upd_same, s10 _ _ (s9 _ _ (x8 _ _ (s7 _ _ (x6 _ _ e0 (nt _))) (nt _))), s10 _ _ (s9 _ _ (x8 _ _ e7 (nt _))), s10 _ _ e9⟩
    clear j e0 lb
    rintro σ G ⟨l, r1, r2, rfl, j, el, e0, e1, e2⟩
    refine ⟨fun _ _ => False, ?_, fun _ _ z => z.elim⟩
    refine ⟨_, rfl, rfl, _, rfl, iteT ?_⟩
    refine ⟨_, rfl, _, rfl, _, rfl, (by show 2 ≤ sizeLine; decide), fun l2 n2 => ?_⟩
    have s1 := new_same n2 (HO.lst [V.ref t0, V.ref t0])
    have lk : ∀ {G : Hp} {r : Addr}, G r = some (.lst [.str code, .int i]) → G t0 = some (.lst [.str code, .int i]) → Lk K S 3 G (.ref r) (.ref t0) := fun h h' => Lk.lst (n := 2) h h' (by show 2 ≤ 60; decide) (.cons (Lk.flat rfl) (.cons (Lk.flat rfl) .nil))
    refine ⟨_, _, rfl, Lk.lst (n := 3) (s1 _ _ el) upd_same (by show 2 ≤ 60; decide) (.cons (lk (s1 _ _ e1) (s1 _ _ e0)) (.cons (lk (s1 _ _ e2) (s1 _ _ e0)) .nil)), fun G2 s2 => ⟨_, rfl, iteT ?_⟩⟩
    have j2 := j.same (s1.trans s2)
    refine ⟨_, rfl, _, rfl, _, _, qs, rfl, rd j2.g, ra j2.g, fun G3 s3 => ?_⟩
    have j3 := j2.same s3
    exact q _ j3.b ((Go.same sF).trans j3.g) j3.t
  -- told
  have ms2 : ms.length = rs.length := nm.1
  refine ⟨fun σ G => ∃ l r1 r2 y1 y2, σ = [some (.ref B), some (.ref a), some (.ref x), some (.ref m), some .non, o5, some (.ref l), none, o8] ∧ Jg T B p HF G ∧ SqH G m ms ∧ Nl K G ms rs ∧ G l = some (.lst [.ref r1, .ref r2]) ∧ G r1 = some (.lst [.str "told", y1]) ∧ G r2 = some (.lst [.str "told", y2]) ∧ StF K S G y1 (qs ++ rs) ∧ StF K S G y2 (qs ++ rs) ∧ l ≠ m ∧ r1 ≠ m ∧ r2 ≠ m, ?_, ?_⟩
  · refine ⟨j.t, fun G6 x6 T6 => ?_⟩
    have j6 := j.ext x6 T6
    have h6 := rd j6.g
    have hm6 := hm.ext x6
    have nm6 := nm.ext x6
    obtain ⟨x', dx, fs, ex, hx, f1, _⟩ := h6.ins
    obtain rfl := V.ref.inj ex
    have nn : ∀ {G' : Hp} {t : Addr}, SqH G' m ms → G' t = none → t ≠ m := fun h n e => by
      rw [e] at n
      rcases h with h | h <;> rw [h] at n <;> cases n
    refine ⟨_, rfl, x, dx, fs, rfl, hx, f1, _, rfl, rd_goG h6 hm6 nm6 l25 fun G7 y1 s7 h1 => ⟨(by show 2 ≤ sizeLine; decide), fun r1 n1 => ?_⟩⟩
    have s7' := new_same n1 (HO.lst [V.str "told", y1])
    have r1m := nn (hm6.same s7) n1
    have e7 : upd G7 r1 (HO.lst [V.str "told", y1]) r1 = some (.lst [.str "told", y1]) := upd_same
    have h1 := h1.same s7'
    have s7 := s7.trans s7'
    generalize upd G7 r1 (HO.lst [V.str "told", y1]) = G7 at s7 e7 h1
    refine ⟨T6.ext s7, fun G8 tu x8 T8 htu => ⟨htu, ?_⟩⟩
    have j8 := (j6.same s7).ext x8 T8
    have h8 := rd j8.g
    have hm8 := (hm6.same s7).ext x8
    have nm8 := (nm6.same s7).ext x8
    obtain ⟨x', dx', fs', ex, hx8, f8, _⟩ := h8.ins
    obtain rfl := V.ref.inj ex
    refine ⟨_, rfl, x, dx', fs', rfl, hx8, f8, _, rfl, rfl, rd_goG h8 hm8 nm8 l25 fun G9 y2 s9 h2 => ⟨(by show 2 ≤ sizeLine; decide), fun r2 n2 => ?_⟩⟩
    have s9' := new_same n2 (HO.lst [V.str "told", y2])
    have r2m := nn (hm8.same s9) n2
    have e9 : upd G9 r2 (HO.lst [V.str "told", y2]) r2 = some (.lst [.str "told", y2]) := upd_same
    have h2 := h2.same s9'
    have s9 := s9.trans s9'
    generalize upd G9 r2 (HO.lst [V.str "told", y2]) = G9 at s9 e9 h2
    refine ⟨(by show 2 ≤ sizeLine; decide), fun l nl => ?_⟩
    have s10 := new_same nl (HO.lst [V.ref r1, V.ref r2])
    have nt : ∀ (l : List V) ps, HO.lst l ≠ .tbl ps := fun l ps z => by cases z
    have s11 := s9.trans s10
    exact ⟨l, r1, r2, y1, y2, rfl, j8.same s11, hm8.same s11, nm8.same s11, upd_same, s11 _ _ (x8 _ _ e7 (nt _)), s10 _ _ e9, (h1.ext x8).same s11, h2.same s10, nn (hm8.same s9) nl, r1m, r2m⟩
  clear j hm nm
  rintro σ G ⟨l, r1, r2, y1, y2, rfl, j, hm, nm, el, e1, e2, h1, h2, lm, m1, m2⟩
  -- not refused
  refine ⟨fun σ G => σ = [some (.ref B), some (.ref a), some (.ref x), some (.ref m), some .non, o5, some (.ref l), none, o8] ∧ Jg T B p HF G ∧ SqH G m ms ∧ Nl K G ms rs ∧ G l = some (.lst [.ref r1, .ref r2]) ∧ G r1 = some (.lst [.str "told", y1]) ∧ G r2 = some (.lst [.str "told", y2]) ∧ StF K S G y1 (qs ++ rs) ∧ StF K S G y2 (qs ++ rs), ⟨_, rfl, rfl, _, rfl, iteF ⟨rfl, j, hm, nm, el, e1, e2, h1, h2⟩⟩, ?_⟩
  clear j hm nm el e1 e2 h1 h2
  rintro σ G ⟨rfl, j, hm, nm, el, e1, e2, h1, h2⟩
  have aG : ∀ {G'}, Go B HF G' → G' a = some (.lst ys) := fun g => g _ _ (ny.same sF |>.ne (by omega) aF bF) (fun ps z => by cases z) aF
  have h12 := h1.len
  rw [List.length_append] at h12
  refine ⟨fun σ G => ∃ k, σ = [some (.ref B), some (.ref a), some (.ref x), some (.ref m), some .non, o5, some (.ref l), some (.ref k), o8] ∧ Jg T B p HF G ∧ SqH G m ms ∧ Nl K G ms rs ∧ G l = some (.lst [.ref r1, .ref r2]) ∧ G r1 = some (.lst [.str "told", y1]) ∧ G r2 = some (.lst [.str "told", y2]) ∧ StF K S G y1 (qs ++ rs) ∧ StF K S G y2 (qs ++ rs) ∧ Ls K G (.ref k) (qs ++ rs), ?_, ?_⟩
  · refine ⟨_, rfl, _, rfl, m, ms, rfl, hm.imp SqL.of SqT.of, fun d nd => ?_⟩
    have s1 := new_same nd (HO.lst ms)
    refine ⟨a, d, ys, ms, rfl, rfl, s1 _ _ (aG j.g), upd_same, Nat.le_of_lt (small1000 (by omega)), fun k nk => ?_⟩
    have s2 := new_same nk (HO.lst (ys ++ ms))
    have s := s1.trans s2
    exact ⟨k, rfl, j.same s, hm.same s, nm.same s, s _ _ el, s _ _ e1, s _ _ e2, h1.same s, h2.same s, ⟨k, _, rfl, upd_same, Nl.app (((ny.same sF).go bF j.g).same s) (nm.same s)⟩⟩
  clear j hm nm el e1 e2 h1 h2
  rintro σ G ⟨k, rfl, j, hm, nm, el, e1, e2, h1, h2, hk⟩
  refine ⟨fun σ G => σ = [some (.ref B), some (.ref a), some (.ref x), some (.ref m), some .non, o5, some (.ref l), some (.ref k), o8] ∧ Jg T B p HF G ∧ G l = some (.lst [.ref r1, .ref r2]) ∧ G r1 = some (.lst [.str "told", y1]) ∧ G r2 = some (.lst [.str "told", y2]) ∧ StF K S G y1 (qs ++ rs) ∧ StF K S G y2 (qs ++ rs) ∧ Ls K G (.ref k) (qs ++ rs), ?_, ?_⟩
  · rcases hm with hm | hm
    · refine ⟨_, rfl, .ref m, _, _, _, _, rfl, .ty _, .base (.lst hm), kit_ty kb_l.1, _, rfl, iteT ?_⟩
      refine ⟨_, rfl, .inl ⟨rfl, _, SqL.of hm⟩, (by show 2 ≤ sizeLine; decide), fun t nt => ?_⟩
      have s1 := new_same nt (HO.tup [.int 9, .int 7])
      have j1 := j.same s1
      have m1' := s1 _ _ hm
      have n1 : ms.length ≠ (qs ++ rs).length := by rw [List.length_append]; omega
      have h1 := (h1.same s1).setL (ms' := ms ++ [V.ref t]) m1' n1
      have h2 := (h2.same s1).setL (ms' := ms ++ [V.ref t]) m1' n1
      have hk := (hk.same s1).setL (ms' := ms ++ [V.ref t]) m1' n1
      have j2 := j1.set (ms' := ms ++ [V.ref t]) na bF m1'
      have st : ∀ {e : Addr} {o : HO}, e ≠ m → G e = some o → upd (upd G t (HO.tup [.int 9, .int 7])) m (HO.lst (ms ++ [V.ref t])) e = some o := fun h1 h2 => by rw [upd_ne h1]; exact s1 _ _ h2
      have el := st lm el
      have e1 := st m1 e1
      have e2 := st m2 e2
      have mm : upd (upd G t (HO.tup [.int 9, .int 7])) m (HO.lst (ms ++ [V.ref t])) m = some (.lst (ms ++ [V.ref t])) := upd_same
      refine ⟨m, ms, _, rfl, rfl, m1', small1000 (by omega), (by show 2 ≤ sizeLine; decide), fun t2 nt2 => ?_⟩
      clear st s1 j1 m1'
      generalize upd (upd G t (HO.tup [.int 9, .int 7])) m (HO.lst (ms ++ [V.ref t])) = G2 at nt2 h1 h2 hk j2 el e1 e2 mm ⊢
      have s3 := new_same nt2 (HO.tup [.int 5, .int 7])
      have n2 : (ms ++ [V.ref t]).length ≠ (qs ++ rs).length := by rw [List.length_append, List.length_append]; show ms.length + 1 ≠ _; omega
      have mm3 := s3 _ _ mm
      refine ⟨_, rfl, m, _, 0, 0, rfl, rfl, mm3, ixN0 (by rw [List.length_append]; show 0 < ms.length + 1; omega), ?_⟩
      exact ⟨rfl, (j2.same s3).set na bF mm3, by rw [upd_ne lm]; exact s3 _ _ el, by rw [upd_ne m1]; exact s3 _ _ e1, by rw [upd_ne m2]; exact s3 _ _ e2, (h1.same s3).setL mm3 n2, (h2.same s3).setL mm3 n2, (hk.same s3).setL mm3 n2⟩
    · exact ⟨_, rfl, .ref m, _, _, _, _, rfl, .ty _, .base (.tup hm), kit_ty kb_l.2.2.1, _, rfl, iteF ⟨rfl, j, el, e1, e2, h1, h2, hk⟩⟩
  clear j hm nm el e1 e2 h1 h2 hk
  rintro σ G ⟨rfl, j, el, e1, e2, h1, h2, hk⟩
  refine ⟨fun σ G => σ = [some (.ref B), some (.ref a), some (.ref x), some (.ref m), some .non, o5, some (.ref l), some (.ref k), o8] ∧ Jg T B p HF G ∧ G l = some (.lst [.ref r1, .ref r2]) ∧ G r1 = some (.lst [.str "told", y1]) ∧ StF K S G y1 (qs ++ rs) ∧ Ls K G (.ref k) (qs ++ rs), ?_, ?_⟩
  · refine ⟨_, rfl, l, _, 0, _, rfl, rfl, SqL.of el, at_of (j := 0) rfl rfl, r1, _, 0, _, rfl, rfl, SqL.of e1, at_of (j := 0) rfl rfl, rfl, _, rfl, iteF ?_⟩
    refine ⟨_, rfl, l, _, 0, _, rfl, rfl, SqL.of el, at_of (j := 0) rfl rfl, r1, _, 1, _, rfl, rfl, SqL.of e1, at_of (j := 1) rfl rfl, _, rfl, _, _, _, rfl, h1, hk, fun G2 s2 => ⟨_, rfl, iteF ?_⟩⟩
    refine ⟨_, rfl, l, _, 1, _, rfl, rfl, SqL.of (s2 _ _ el), at_of (j := 1) rfl rfl, _, rfl, l, _, 0, _, rfl, rfl, SqL.of (s2 _ _ el), at_of (j := 0) rfl rfl, ?_⟩
    refine ⟨r2, r1, y2, y1, _, _, rfl, rfl, s2 _ _ e2, s2 _ _ e1, h2.st.same s2, h1.st.same s2, fun G3 s3 => ⟨_, rfl, iteF ?_⟩⟩
    have s := s2.trans s3
    exact ⟨rfl, j.same s, s _ _ el, s _ _ e1, h1.same s, hk.same s⟩
  clear j el e1 e2 h1 h2 hk
  rintro σ G ⟨rfl, j, el, e1, h1, hk⟩
  refine ⟨fun σ G => σ = [some (.ref B), some (.ref a), some (.ref x), some (.ref m), some .non, o5, some (.ref l), some (.ref k), o8] ∧ Jg T B p HF G ∧ G l = some (.lst [.ref r1, .ref r2]) ∧ G r1 = some (.lst [.str "told", y1]) ∧ StF K S G y1 (qs ++ rs) ∧ Ls K G (.ref k) (qs ++ rs), ?_, ?_⟩
  · refine ⟨_, rfl, a, ys, rfl, .inl (SqL.of (aG j.g)), (ys.length : Nat), 24, rfl, rfl, _, rfl, ite2 (fun cc => ?_) (fun _ => iteF ⟨rfl, j, el, e1, h1, hk⟩)⟩
    have cc : ((ys.length : Nat) : Int) < 24 := of_decide_eq_true cc
    have h6 := rd j.g
    obtain ⟨x', dx, fs, ex, hx, f1, _⟩ := h6.ins
    obtain rfl := V.ref.inj ex
    refine ⟨_, rfl, x, dx, fs, rfl, hx, f1, (by show 2 ≤ sizeLine; decide), fun t nt => ⟨(by show 1 ≤ sizeLine; decide), fun d nd => ?_⟩⟩
    have s1 := new_same nt (HO.tup [.int 7, .int 3])
    have s2 := new_same nd (HO.lst [V.ref t])
    have nq : ∀ {G'}, Same (upd G t (HO.tup [.int 7, .int 3])) G' → Nq K G' (.ref t) (mkRat 7 3) := fun s => .at (s _ _ (show _ = some (rT (mkRat 7 3)) from upd_same))
    have n1 : Nl K (upd (upd G t (HO.tup [.int 7, .int 3])) d (HO.lst [V.ref t])) [V.ref t] [mkRat 7 3] := Nl.cons (nq s2) Nl.nil
    refine rd_goG (rs := [mkRat 7 3]) (h6.same (s1.trans s2)) (.inl upd_same) n1 (by show qs.length + 1 ≤ 24; omega) fun G3 y s3 hy => ?_
    have sA := (s1.trans s2).trans s3
    have jA := j.same sA
    refine ⟨_, rfl, (by show 2 ≤ sizeLine; decide), fun t2 nt2 => ⟨(by show 1 ≤ sizeLine; decide), fun d2 nd2 => ?_⟩⟩
    have s4 := new_same nt2 (HO.tup [.int 7, .int 3])
    have s5 := new_same nd2 (HO.lst [V.ref t2])
    have n2 : Nl K (upd (upd G3 t2 (HO.tup [.int 7, .int 3])) d2 (HO.lst [V.ref t2])) [V.ref t2] [mkRat 7 3] := Nl.cons (.at (s5 _ _ (show _ = some (rT (mkRat 7 3)) from upd_same))) Nl.nil
    refine ⟨a, d2, ys, _, rfl, rfl, s5 _ _ (s4 _ _ (aG jA.g)), upd_same, Nat.le_of_lt (small1000 (by show _ + 1 ≤ _; omega)), fun d3 nd3 => ?_⟩
    have s6 := new_same nd3 (HO.lst (ys ++ [V.ref t2]))
    have sB := (s4.trans s5).trans s6
    have sC := sA.trans sB
    refine ⟨_, _, _, rfl, hy.same sB, ⟨d3, _, rfl, upd_same, Nl.app (((ny.same sF).go bF j.g).same sC) (n2.same s6)⟩, fun G4 s7 => ⟨_, rfl, iteF ?_⟩⟩
    have s := sC.trans s7
    exact ⟨rfl, j.same s, s _ _ el, s _ _ e1, h1.same s, hk.same s⟩
  clear j el e1 h1 hk
  rintro σ G ⟨rfl, j, el, e1, h1, hk⟩
  obtain ⟨y', dy, fy, ey, hy, _, fc, _⟩ := h1.ins
  refine ⟨_, rfl, l, _, 0, _, rfl, rfl, SqL.of el, at_of (j := 0) rfl rfl, r1, _, 1, _, rfl, rfl, SqL.of e1, at_of (j := 1) rfl rfl, y', dy, fy, ey, hy, fc, _, rfl, a, ys, rfl, .inl (SqL.of (aG j.g)), ?_⟩
  refine ⟨y1, _, _, true, rfl, h1, .yes (by omega) (by omega), fun z => Bool.noConfusion z, fun _ i ei => ⟨fun z => ?_, fun _ => ?_⟩⟩
  · have := V.int.inj ei
    rw [List.length_append] at z
    omega
  obtain rfl := V.int.inj ei
  intro G2 y s2 hc
  rw [Int.toNat_natCast, ly, List.take_left] at hc
  have j2 := j.same s2
  refine ⟨_, rfl, rd_eqS U.sk hc.st (rd j2.g).st ?_⟩
  rw [decide_eq_true rfl]
  refine ⟨_, rfl, iteT ?_⟩
  refine ⟨_, rfl, l, _, 0, _, rfl, rfl, SqL.of (s2 _ _ el), at_of (j := 0) rfl rfl, r1, _, 1, _, rfl, rfl, SqL.of (s2 _ _ e1), at_of (j := 1) rfl rfl, _, rfl, rd_eqS U.sk (h1.same s2).st (rd j2.g).st ?_⟩
  obtain ⟨k', ks, ek, ek1, nk⟩ := hk.same s2
  obtain rfl := V.ref.inj ek
  refine ⟨_, rfl, _, rfl, datL (qs ++ rs), datL qs, nk.dp ek1, ((ny.same sF).go bF j2.g).dp (aG j2.g), shaped_list _, shaped_list _, ?_⟩
  rw [eqv_list]
  refine ⟨rfl, _, rfl, ?_⟩
  rw [decide_eq_true rfl]
  refine iteT ⟨_, rfl, _, rfl, _, _, qs, rfl, rd j2.g, ra j2.g, fun G3 s3 => ?_⟩
  have j3 := j2.same s3
  exact q _ j3.b ((Go.same sF).trans j3.g) j3.t
end
end Kx
end
section
set_option maxHeartbeats 4000000
namespace Kx
open PySem PySem.Spec PyProof.Rows L2 RZ
abbrev nCut : List Str := ["_law_bag_here", "_law_a", "_law_f", "_law_size", "_law_told", "_law_due", "_law_wrong", "_law_spot"]
theorem scCut : FnScope nCut ["_law_bag_here", "_law_a"] (defScope L_cut_so) := ⟨rfl, rfl, rfl, by decide +kernel, rfl, by decide +kernel, by decide +kernel⟩
section
variable {P : Program} {w : World} {K : PySem.W.Frag} {mg : Str → Option Value} {base : Heap} {C S : Addr} {cs : Fin 6 → Addr} {H : Hp} {vx v : V} {qs rs : List Rat} {code : Str} {i : Int}
theorem rd_cuFG {CO CL : Addr} {n : Nat} {E : XK} {R : VK} (hX : StF K S H vx qs) (n2 : 2 ≤ n) (n24 : n ≤ 24) (le : n ≤ qs.length) (q : GivesF K S H R (qs.take n)) : spCuF K S CO CL [vx, .int (n : Nat)] H R E :=
  ⟨vx, _, qs, true, rfl, hX, .yes (by omega) (by omega), fun z => Bool.noConfusion z, fun _ i e => by
    obtain rfl := V.int.inj e
    exact ⟨fun z => by omega, fun _ => by rw [Int.toNat_natCast]; exact q⟩⟩
theorem rd_cuFL {n : Nat} {E : XK} {Q R : VK} (hX : StF K S H vx qs) (n2 : 2 ≤ n) (n24 : n ≤ 24) (lt : qs.length < n) (hE : ∀ cls d H', Flt H' cs cls d Q → E cls d H')
    (q : ∀ t H', Same H H' → H' t = some (.lst [.str "OrderTooLow", .int (qs.length : Nat), .int (n : Nat)]) → Q (.ref t) H') : spCuF K S (cs 2) (cs 3) [vx, .int (n : Nat)] H R E :=
  ⟨vx, _, qs, true, rfl, hX, .yes (by omega) (by omega), fun z => Bool.noConfusion z, fun _ i e => by
    obtain rfl := V.int.inj e
    exact ⟨fun _ d H' s n e2 => hE _ _ _ (.inr (.inr (.inr (.inl ⟨rfl, d, _, _, rfl, e2, fun t H2 s2 n2 e3 => q t H2 (s.trans s2) e3⟩)))), fun z => by omega⟩⟩
theorem rd_cuFB {CL : Addr} {E : XK} {Q R : VK} (hX : StF K S H vx qs) (hv : InR K H v 2 24 false) (hE : ∀ cls d H', Flt H' cs cls d Q → E cls d H') (q : ∀ t H', Same H H' → H' t = some (.lst [.str "InvalidOrder", v]) → Q (.ref t) H') : spCuF K S (cs 2) CL [vx, v] H R E :=
  ⟨vx, v, qs, false, rfl, hX, hv, fun _ d H' s n e2 => hE _ _ _ (.inr (.inr (.inl ⟨rfl, d, _, rfl, e2, fun t H2 s2 n2 e3 => q t H2 (s.trans s2) e3⟩))), fun z => Bool.noConfusion z⟩
end
section
variable {P : Program} {w : World} {K : PySem.W.Frag} {mg : Str → Option Value} {base : Heap} {f c Pt C S CE : Addr} {cs : Fin 6 → Addr} {fd : FuncData} {T : List (Addr × Str)}
theorem ok_cutso (F : FunC K "_law_cut_so" "_law_cut_so" L_cut_so f fd c) (U : KitS P w K mg base C S cs CE)
    (TB : LamX.TabB base mg c Pt) (hmT : (Pt, ((("_law_cut_so" : Str) ++ ".<locals>.") ++ "<lambda>" : Str)) ∈ T) (hu : ∀ p ∈ T, p.1 = Pt → p.2 = ((("_law_cut_so" : Str) ++ ".<locals>.") ++ "<lambda>" : Str)) : FnOk P w K mg base CX0 11 f fd ["_law_bag_here", "_law_a"] (spGo K T) := by
  refine F.ok scCut (fun vs H Q E h => ?_) (fun A outer s H vs Q E hr h => ?_)
  · obtain ⟨B, p, va, qs, rfl, _⟩ := h
    rfl
  obtain ⟨B, p, va, qs, rfl, hb, hL, l2, l24, hT, q⟩ := h
  have hr1 := hr.mono (show 1 ≤ 10 by decide)
  have hr2 := hr.mono (show 2 ≤ 10 by decide)
  have hr3 := hr.mono (show 3 ≤ 10 by decide)
  have hr6 := hr.mono (show 6 ≤ 10 by decide)
  have hr7 := hr.mono (show 7 ≤ 10 by decide)
  have hr8 := hr.mono (show 8 ≤ 10 by decide)
  have hr9 := hr.mono (show 9 ≤ 10 by decide)
  obtain ⟨fI, fdI, M, FI, bI, bK⟩ := U.si.ini
  obtain ⟨gA, fdA, FA, bA, mA⟩ := U.ask
  obtain ⟨oc, od, kV, doc, pm, an, cdv, ct, osl, rfl, lkA, hcdA⟩ := FA.ex
  obtain ⟨fF, fdF, PF, bF, kF, mF⟩ := U.flt
  refine ⟨_, C8.pss_cut (ps_set (i := 2) scCut.nd rfl (Or.inr rfl) (pe_make (E := fun _ _ _ => False) M FI hr7 rfl U.si.m bI .nil passF (pa_cons (pv 1) pa_nil)))
    (C8.pss_cut (ps_set (i := 3) scCut.nd rfl (Or.inr rfl) (pe_use U.ofL hr2 rfl pass0 (pa_cons (pv 0) (pa_cons (pe_lst (pa_cons pe_int (pa_cons (pe_callB call_len_seq rfl U.mn PySem.boot_len (pa_cons (pv 1) pa_nil)) (pa_cons (pe_op op_add (pe_callB call_len_seq rfl U.mn PySem.boot_len (pa_cons (pv 1) pa_nil)) pe_int)
        (pa_cons (pe_op op_add pe_int (pe_use U.draw hr1 rfl pass0 (pa_cons (pv 0) (pa_cons pe_int pa_nil)))) pa_nil))))) pa_nil))))
    (C8.pss_cut (ps_set (i := 3) scCut.nd rfl (Or.inr rfl) (pe_ifExp (pt_cmpR op_le (pv 3) pe_int (nomark _)) (pv 3) pe_int))
    (C8.pss_cut (ps_set (i := 4) scCut.nd rfl (Or.inl rfl) (pe_lst (pa_cons
        (LamX.pe_lamcall (k := 8) (t := fun E => tMeth S "cut" (spCuF K S (cs 2) (cs 3)) [] E (tVar 2) (tCons (tVar 3) tNil)) (TT := TAsk cs) rfl mA FA.kp lkA hcdA bA scAsk rfl (Or.inl rfl) (ask_gives (hr.mono (by decide)) PF bF kF mF U.mC U.e1) TB rfl hmT hu hr (LamX.lamS_by (show LamX.lamSB (defScope L_cut_so) _ = true by decide +kernel)) rfl (fun _ _ _ _ _ => rfl)
          (fun A outer s H E f c' hk => pe_mu U.cut (pv 2) hk (passes_call (takes_of rfl rfl rfl rfl) (fun _ _ _ _ h => h)) (pa_cons (pv 3) pa_nil)))
        (pa_cons (LamX.pe_lamcallD (k := 8) (kd := 0) (px := "_law_x") (t := fun E => tMethR S "cut" 1 (spCuF K S (cs 2) (cs 3)) E (tVar 2) (tCons (tVar 3) tNil)) (TT := TAsk cs) rfl mA FA.kp lkA hcdA bA scAsk rfl (Or.inl rfl) (ask_gives (hr.mono (by decide)) PF bF kF mF U.mC U.e1) TB rfl hmT hu hr (LamX.lamD_by (show LamX.lamDB nCut (defScope L_cut_so) _ "_law_x" = true by decide +kernel)) rfl (fun _ _ _ _ _ _ _ => ⟨_, rfl, rfl⟩)
          (fun A outer s H E f c' hk => pe_muR (ks := ["order"]) U.cut (pv 2) hk (passes_call (takes_of rfl rfl rfl rfl) (fun _ _ _ _ h => h)) (pk_cons (pv 3) pk_nil) (by simp)))
        pa_nil))))
    (C8.pss_cut (ps_if (pt_cmpR op_gt (pv 3) (pe_callB call_len_seq rfl U.mn PySem.boot_len (pa_cons (pv 1) pa_nil)) (nomark _))
        (pss_cons (ps_set (i := 5) scCut.nd rfl (Or.inl rfl) (pe_lst (pa_cons pe_str (pa_cons (pe_callB call_len_seq rfl U.mn PySem.boot_len (pa_cons (pv 1) pa_nil)) (pa_cons (pv 3) pa_nil)))))
        (pss_one (ps_if (pt_not (pt_val (pe_use U.lik hr6 rfl pass0 (pa_cons (pv 4) (pa_cons (pe_lst (pa_cons (pv 5) (pa_cons (pv 5) pa_nil))) pa_nil))))) (pss_one (ps_ret pe_bl)) pss_nil)))
        (pss_one (ps_if (PW.pt (pw_or (pt_cmpR op_ne (pe_ix ix_list (pe_ix ix_list (pv 4) pe_int (fun _ _ => rfl)) pe_int (fun _ _ => rfl)) pe_str (nomark _))
          (pw_or (pt_not (pt_val (pe_use U.told hr9 rfl pass0 (pa_cons (pe_ix ix_list (pe_ix ix_list (pv 4) pe_int (fun _ _ => rfl)) pe_int (fun _ _ => rfl)) (pa_cons (pe_slice sl_list (pv 1) po_none (po_some (pv 3))) pa_nil)))))
          (pw_or1 (pt_not (pt_cmpR (op_tl U.oeq hr2) (pe_ix ix_list (pv 4) pe_int (fun _ _ => rfl)) (pe_ix ix_list (pv 4) pe_int (fun _ _ => rfl)) (nomark _))))))) (pss_one (ps_ret pe_bl)) pss_nil)))
    (C8.pss_cut (ps_set (i := 6) scCut.nd rfl (Or.inr rfl) (pe_use U.no hr3 rfl pass0 (pa_cons (pv 0) pa_nil)))
    (C8.pss_cut (ps_set (i := 7) scCut.nd rfl (Or.inr rfl) (pe_use U.ofL hr2 rfl pass0 (pa_cons (pv 0) (pa_cons (pe_lst (pa_cons pe_int (pa_cons (pe_op op_add (pe_callB call_len_seq rfl U.mn PySem.boot_len (pa_cons (pv 1) pa_nil)) pe_int) (pa_cons (pe_un un_neg pe_int) (pa_cons pe_non (pa_cons pe_bl (pa_cons pe_bl (pa_cons pe_str (pa_cons (pe_tup (pa_cons pe_int (pa_cons pe_int pa_nil))) (pa_cons (pe_lst (pa_cons pe_int pa_nil))
        (pa_cons (pe_op op_pow pe_int pe_int) (pa_cons (pe_un un_neg (pe_callB call_len_seq rfl U.mn PySem.boot_len (pa_cons (pv 1) pa_nil))) pa_nil)))))))))))) pa_nil))))
    (C8.pss_cut (ps_set (i := 4) scCut.nd rfl (Or.inl rfl) (pe_lst (pa_cons
        (LamX.pe_lamcall (k := 8) (t := fun E => tMeth S "cut" (spCuF K S (cs 2) (cs 3)) [] E (tVar 2) (tCons (tVar 6) tNil)) (TT := TAsk cs) rfl mA FA.kp lkA hcdA bA scAsk rfl (Or.inl rfl) (ask_gives (hr.mono (by decide)) PF bF kF mF U.mC U.e1) TB rfl hmT hu hr (LamX.lamS_by (show LamX.lamSB (defScope L_cut_so) _ = true by decide +kernel)) rfl (fun _ _ _ _ _ => rfl)
          (fun A outer s H E f c' hk => pe_mu U.cut (pv 2) hk (passes_call (takes_of rfl rfl rfl rfl) (fun _ _ _ _ h => h)) (pa_cons (pv 6) pa_nil)))
        (pa_cons (LamX.pe_lamcallD (k := 4) (kd := 0) (px := "_law_x") (t := fun E => tMeth S "number" (spNmS K S (cs 5)) [] E (tVar 2) (tCons (tVar 7) tNil)) (TT := TAsk cs) rfl mA FA.kp lkA hcdA bA scAsk rfl (Or.inl rfl) (ask_gives (hr.mono (by decide)) PF bF kF mF U.mC U.e1) TB rfl hmT hu hr6 (LamX.lamD_by (show LamX.lamDB nCut (defScope L_cut_so) _ "_law_x" = true by decide +kernel)) rfl (fun _ _ _ _ _ _ _ => ⟨_, rfl, rfl⟩)
          (fun A outer s H E f c' hk => pe_mu U.number (pv 2) hk (passes_call (takes_of rfl rfl rfl rfl) (fun _ _ _ _ h => h)) (pa_cons (pv 7) pa_nil)))
        (pa_cons (LamX.pe_lamcallD (k := 4) (kd := 0) (px := "_law_y") (t := fun E => tMethR S "number" 1 (spNmS K S (cs 5)) E (tVar 2) (tCons (tVar 7) tNil)) (TT := TAsk cs) rfl mA FA.kp lkA hcdA bA scAsk rfl (Or.inl rfl) (ask_gives (hr.mono (by decide)) PF bF kF mF U.mC U.e1) TB rfl hmT hu hr6 (LamX.lamD_by (show LamX.lamDB nCut (defScope L_cut_so) _ "_law_y" = true by decide +kernel)) rfl (fun _ _ _ _ _ _ _ => ⟨_, rfl, rfl⟩)
          (fun A outer s H E f c' hk => pe_muR (ks := ["place"]) U.number (pv 2) hk (passes_call (takes_of rfl rfl rfl rfl) (fun _ _ _ _ h => h)) (pk_cons (pv 7) pk_nil) (by simp))) pa_nil)))))
    (pss_one (ps_ret (pe_use U.lik hr6 rfl pass0 (pa_cons (pv 4) (pa_cons (pe_lst (pa_cons (pe_lst (pa_cons pe_str (pa_cons (pv 6) pa_nil))) (pa_cons (pe_lst (pa_cons pe_str (pa_cons (pv 7) pa_nil))) (pa_cons (pe_lst (pa_cons pe_str (pa_cons (pv 7) pa_nil))) pa_nil)))) pa_nil)))))))))))), ?_⟩
  obtain ⟨a, ys, rfl, ha, ny⟩ := id hL
  have ly : ys.length = qs.length := ny.1
  refine ⟨fun σ HF => ∃ x, σ = [some (.ref B), some (.ref a), some (.ref x), none, none, none, none, none] ∧ Same H HF ∧ StF K S HF (.ref x) qs, ?_, ?_⟩
  · refine ⟨_, rfl, fun x dx xn dn en => ?_⟩
    exact step_newF (E := fun _ _ _ => False) (.inl ha) ny l2 l24 xn dn en fun HF sF rF => ⟨rfl, x, rfl, sF, rF⟩
  rintro σ HF ⟨x, rfl, sF, hX⟩
  have bF := hb.same sF
  have tF := hT.ext sF
  have hLF := hL.same sF
  have aF := sF _ _ ha
  have j : Jg T B p HF HF := ⟨bF, tF, Go.refl⟩
  have nF := ny.same sF
  clear hb hT hL ha ny
  have aG : ∀ {G'}, Go B HF G' → G' a = some (.lst ys) := fun g => g _ _ (nF.ne (by omega) aF bF) (fun ps z => by cases z) aF
  have rd : ∀ {G'}, Go B HF G' → StF K S G' (.ref x) qs := fun g => hX.go bF g
  have ra : ∀ {G'}, Go B HF G' → Ls K G' (.ref a) qs := fun g => hLF.go (by omega) bF g
  refine ⟨fun σ G => ∃ n : Nat, σ = [some (.ref B), some (.ref a), some (.ref x), some (.int (n : Nat)), none, none, none, none] ∧ Jg T B p HF G ∧ 2 ≤ n, ?_, ?_⟩
  · refine ⟨_, rfl, _, rfl, a, ys, rfl, .inl (SqL.of aF), _, rfl, a, ys, rfl, .inl (SqL.of aF), (ys.length : Nat), 1, rfl, rfl, _, rfl, B, p, 23, rfl, by decide, by decide, bF, fun G2 z b2 u2 z0 z1 => ?_⟩
    have j2 := j.but b2 u2
    refine ⟨2, z, rfl, rfl, (by show 4 ≤ sizeLine; decide), fun L nL => ?_⟩
    have s3 := new_same nL (HO.lst [V.int 2, V.int (ys.length : Nat), V.int ((ys.length : Nat) + 1), V.int (2 + z)])
    refine ⟨B, p, L, _, rfl, upd_same, (b2.at nL).1, (by show 0 < 4; decide), (by show 4 ≤ 1000; decide), b2.put nL, fun G4 y b4 u4 hy => ?_⟩
    have j4 := (j2.same s3).but b4 u4
    simp only [List.mem_cons, List.not_mem_nil, or_false] at hy
    rcases hy with rfl | rfl | rfl | rfl
    · exact ⟨2, rfl, j4, by decide⟩
    · exact ⟨ys.length, rfl, j4, by omega⟩
    · exact ⟨ys.length + 1, rfl, j4, by omega⟩
    · exact ⟨(2 + z).toNat, by rw [Int.toNat_of_nonneg (by omega)]; rfl, j4, by omega⟩
  clear j
  rintro σ G ⟨n0, rfl, j, n02⟩
  refine ⟨fun σ G => ∃ n : Nat, σ = [some (.ref B), some (.ref a), some (.ref x), some (.int (n : Nat)), none, none, none, none] ∧ Jg T B p HF G ∧ 2 ≤ n ∧ n ≤ 24, ?_, ?_⟩
  · refine ⟨_, rfl, (n0 : Nat), 24, rfl, rfl, _, rfl, ite2 (fun c => ?_) (fun c => ?_)⟩
    · have := of_decide_eq_true c
      exact ⟨_, rfl, n0, rfl, j, n02, by omega⟩
    · exact ⟨24, rfl, j, by decide, by decide⟩
  clear j
  rintro σ G ⟨n, rfl, j, n2, n24⟩
  have nt : ∀ (l : List V) ps, HO.lst l ≠ .tbl ps := fun l ps z => by cases z
  refine ⟨fun σ G => ∃ l r1 r2, σ = [some (.ref B), some (.ref a), some (.ref x), some (.int (n : Nat)), some (.ref l), none, none, none] ∧ Jg T B p HF G ∧ G l = some (.lst [.ref r1, .ref r2]) ∧
      ((qs.length < n ∧ G r1 = some (.lst [.str "OrderTooLow", .int (qs.length : Nat), .int (n : Nat)]) ∧ G r2 = some (.lst [.str "OrderTooLow", .int (qs.length : Nat), .int (n : Nat)])) ∨
       (n ≤ qs.length ∧ ∃ y1 y2, G r1 = some (.lst [.str "told", y1]) ∧ G r2 = some (.lst [.str "told", y2]) ∧ StF K S G y1 (qs.take n) ∧ StF K S G y2 (qs.take n))), ?_, ?_⟩
  · refine ⟨j.t, fun G6 x6 T6 => ?_⟩
    have j6 := j.ext x6 T6
    have h6 := rd j6.g
    obtain ⟨x', dx, fs, ex, hx, _, f1, _⟩ := h6.ins
    obtain rfl := V.ref.inj ex
    refine ⟨_, rfl, x, dx, fs, rfl, hx, f1, _, rfl, ?_⟩
    by_cases c : n ≤ qs.length
    · refine rd_cuFG h6 n2 n24 c fun G7 y1 s7 h1 => ⟨(by show 2 ≤ sizeLine; decide), fun r1 n1 => ?_⟩
      have s7' := new_same n1 (HO.lst [V.str "told", y1])
      have e7 : upd G7 r1 (HO.lst [V.str "told", y1]) r1 = some (.lst [.str "told", y1]) := upd_same
      have h1 := h1.same s7'
      have s7 := s7.trans s7'
      generalize upd G7 r1 (HO.lst [V.str "told", y1]) = G7 at s7 e7 h1
      refine ⟨T6.ext s7, fun G8 tu x8 T8 htu => ⟨htu, ?_⟩⟩
      have j8 := (j6.same s7).ext x8 T8
      have h8 := rd j8.g
      obtain ⟨x', dx', fs', ex, hx8, _, f8, _⟩ := h8.ins
      obtain rfl := V.ref.inj ex
      refine ⟨_, rfl, x, dx', fs', rfl, hx8, f8, _, rfl, rfl, rd_cuFG h8 n2 n24 c fun G9 y2 s9 h2 => ⟨(by show 2 ≤ sizeLine; decide), fun r2 n2' => ?_⟩⟩
      have s9' := new_same n2' (HO.lst [V.str "told", y2])
      have e9 : upd G9 r2 (HO.lst [V.str "told", y2]) r2 = some (.lst [.str "told", y2]) := upd_same
      have h2 := h2.same s9'
      have s9 := s9.trans s9'
      generalize upd G9 r2 (HO.lst [V.str "told", y2]) = G9 at s9 e9 h2
      refine ⟨(by show 2 ≤ sizeLine; decide), fun l nl => ?_⟩
      have s10 := new_same nl (HO.lst [V.ref r1, V.ref r2])
      have s11 := s9.trans s10
      exact ⟨l, r1, r2, rfl, j8.same s11, upd_same, .inr ⟨c, y1, y2, s11 _ _ (x8 _ _ e7 (nt _)), s10 _ _ e9, (h1.ext x8).same s11, h2.same s10⟩⟩
    · refine rd_cuFL h6 n2 n24 (by omega) (fun _ _ _ h => h) fun r1 G7 s7 e7 => ?_
      refine ⟨T6.ext s7, fun G8 tu x8 T8 htu => ⟨htu, ?_⟩⟩
      have j8 := (j6.same s7).ext x8 T8
      have h8 := rd j8.g
      obtain ⟨x', dx', fs', ex, hx8, _, f8, _⟩ := h8.ins
      obtain rfl := V.ref.inj ex
      refine ⟨_, rfl, x, dx', fs', rfl, hx8, f8, _, rfl, rfl, rd_cuFL h8 n2 n24 (by omega) (fun _ _ _ h => h) fun r2 G9 s9 e9 => ?_⟩
      refine ⟨(by show 2 ≤ sizeLine; decide), fun l nl => ?_⟩
      have s10 := new_same nl (HO.lst [V.ref r1, V.ref r2])
      have s11 := s9.trans s10
      exact ⟨l, r1, r2, rfl, j8.same s11, upd_same, .inl ⟨by omega, s11 _ _ (x8 _ _ e7 (nt _)), s10 _ _ e9⟩⟩
  clear j
  rintro σ G ⟨l, r1, r2, rfl, j, el, hc⟩
  refine ⟨fun σ G => ∃ o4 o5, σ = [some (.ref B), some (.ref a), some (.ref x), some (.int (n : Nat)), o4, o5, none, none] ∧ Jg T B p HF G, ?_, ?_⟩
  · rcases hc with ⟨c, e1, e2⟩ | ⟨c, y1, y2, e1, e2, h1, h2⟩
    · refine ⟨_, rfl, _, rfl, a, ys, rfl, .inl (SqL.of (aG j.g)), (n : Nat), (ys.length : Nat), rfl, rfl, _, rfl, ?_⟩
      rw [decide_eq_true (show ((ys.length : Nat) : Int) < (n : Nat) by omega)]
      refine iteT ⟨_, rfl, a, ys, rfl, .inl (SqL.of (aG j.g)), _, rfl, (by show 3 ≤ sizeLine; decide), fun d nd => ?_⟩
      have s1 := new_same nd (HO.lst [V.str "OrderTooLow", V.int (ys.length : Nat), V.int (n : Nat)])
      refine ⟨_, rfl, _, rfl, _, rfl, (by show 2 ≤ sizeLine; decide), fun m nm => ?_⟩
      have s2 := new_same nm (HO.lst [V.ref d, V.ref d])
      have s := s1.trans s2
      have ed := s2 _ _ (show upd G d (HO.lst [V.str "OrderTooLow", V.int (ys.length : Nat), V.int (n : Nat)]) d = _ from upd_same)
      have ed := ed.trans (show _ = some (HO.lst [V.str "OrderTooLow", V.int (qs.length : Nat), V.int (n : Nat)]) by rw [ly])
      have lk : ∀ {G : Hp} {r d : Addr}, G r = some (.lst [.str "OrderTooLow", .int (qs.length : Nat), .int (n : Nat)]) → G d = some (.lst [.str "OrderTooLow", .int (qs.length : Nat), .int (n : Nat)]) → Lk K S 3 G (.ref r) (.ref d) := fun h h' => Lk.lst (n := 2) h h' (by show 3 ≤ 60; decide) (.cons (Lk.flat rfl) (.cons (Lk.flat rfl) (.cons (Lk.flat rfl) .nil)))
      exact ⟨_, _, rfl, Lk.lst (n := 3) (s _ _ el) upd_same (by show 2 ≤ 60; decide) (.cons (lk (s _ _ e1) ed) (.cons (lk (s _ _ e2) ed) .nil)), fun G3 s3 => ⟨_, rfl, iteF ⟨_, _, rfl, j.same (s.trans s3)⟩⟩⟩
    · refine ⟨_, rfl, _, rfl, a, ys, rfl, .inl (SqL.of (aG j.g)), (n : Nat), (ys.length : Nat), rfl, rfl, _, rfl, ?_⟩
      rw [decide_eq_false (show ¬ ((ys.length : Nat) : Int) < (n : Nat) by omega)]
      refine iteF ⟨_, rfl, l, _, 0, _, rfl, rfl, SqL.of el, at_of (j := 0) rfl rfl, r1, _, 0, _, rfl, rfl, SqL.of e1, at_of (j := 0) rfl rfl, rfl, _, rfl, iteF ?_⟩
      refine ⟨_, rfl, l, _, 0, _, rfl, rfl, SqL.of el, at_of (j := 0) rfl rfl, r1, _, 1, _, rfl, rfl, SqL.of e1, at_of (j := 1) rfl rfl, _, rfl, _, rfl, (n : Nat), rfl, a, ys, rfl, SqL.of (aG j.g), fun d nd => ?_⟩
      have ec : cutV ys none (some (n : Nat)) = ys.take n := cut_take ys n
      rw [ec]
      have s1 := new_same nd (HO.lst (ys.take n))
      refine ⟨_, _, _, rfl, h1.same s1, ⟨d, _, rfl, upd_same, ((nF.go bF j.g).take n).same s1⟩, fun G2 s2' => ⟨_, rfl, iteF ?_⟩⟩
      have s2 := s1.trans s2'
      refine ⟨_, rfl, l, _, 1, _, rfl, rfl, SqL.of (s2 _ _ el), at_of (j := 1) rfl rfl, _, rfl, l, _, 0, _, rfl, rfl, SqL.of (s2 _ _ el), at_of (j := 0) rfl rfl, ?_⟩
      refine ⟨r2, r1, y2, y1, _, _, rfl, rfl, s2 _ _ e2, s2 _ _ e1, h2.st.same s2, h1.st.same s2, fun G3 s3 => ⟨_, rfl, iteF ?_⟩⟩
      exact ⟨_, _, rfl, j.same (s2.trans s3)⟩
  clear j el hc
  rintro σ G ⟨o4, o5, rfl, j⟩
  refine ⟨fun σ G => ∃ wr, σ = [some (.ref B), some (.ref a), some (.ref x), some (.int (n : Nat)), o4, o5, some wr, none] ∧ Jg T B p HF G ∧ Vx K S G wr ∧ ∀ i : Int, wr = .int i → i < 2 ∨ 24 < i, ?_, ?_⟩
  · exact ⟨_, rfl, B, p, rfl, j.b, fun H4 wr b4 u4 vw hi => ⟨wr, rfl, j.but b4 u4, vw, hi⟩⟩
  clear j
  rintro σ G ⟨wr, rfl, j, vw, hw⟩
  refine ⟨fun σ G => ∃ sp, σ = [some (.ref B), some (.ref a), some (.ref x), some (.int (n : Nat)), o4, o5, some wr, some sp] ∧ Jg T B p HF G ∧ Vx K S G wr ∧ Vx K S G sp ∧ ∀ i : Int, sp = .int i → i < 1 ∨ (qs.length : Int) < i, ?_, ?_⟩
  · refine ⟨_, rfl, _, rfl, a, ys, rfl, .inl (SqL.of (aG j.g)), (ys.length : Nat), 1, rfl, rfl, _, rfl, (by show 2 ≤ sizeLine; decide), fun t1 m1 => ⟨(by show 1 ≤ sizeLine; decide), fun t2 m2 => ?_⟩⟩
    have s4 := new_same m1 (HO.tup [.int 1, .int 1])
    have s5 := new_same m2 (HO.lst [.int 1])
    have h1 := s5 _ _ (show upd G t1 (HO.tup [.int 1, .int 1]) t1 = some _ from upd_same)
    have h2 : upd (upd G t1 (HO.tup [.int 1, .int 1])) t2 (HO.lst [.int 1]) t2 = some _ := upd_same
    have s45 := s4.trans s5
    generalize upd (upd G t1 (HO.tup [.int 1, .int 1])) t2 (HO.lst [.int 1]) = G1 at s5 h1 h2 s45 ⊢
    have j5 := j.same s45
    refine ⟨10, 20, rfl, rfl, ⟨by decide, by decide, by omega⟩, _, rfl, a, ys, rfl, .inl (SqL.of (aG j5.g)), ((ys.length : Nat) : Int), rfl, (by show 11 ≤ sizeLine; decide), fun L nL => ?_⟩
    have v1 : Vx K S G1 (.ref t1) := .tup h1 (by show 2 ≤ 60; decide) (fun x hx => by
      simp only [List.mem_cons, List.not_mem_nil, or_false] at hx
      rcases hx with rfl | rfl <;> exact .inl rfl)
    have v2 : Vx K S G1 (.ref t2) := .lst h2 (by show 1 ≠ 5; decide) (by show 1 ≤ 60; decide) (fun x hx => by
      simp only [List.mem_cons, List.not_mem_nil, or_false] at hx
      rcases hx with rfl
      exact .inl rfl)
    have s6 := new_same nL (HO.lst [.int 0, .int ((ys.length : Nat) + 1), .int (-1), .non, .bl true, .bl false, .str "1", .ref t1, .ref t2, .int ((10 : Int) ^ (20 : Int).toNat), .int (-((ys.length : Nat) : Int))])
    have j6 := j5.same s6
    refine ⟨B, p, L, _, rfl, upd_same, (j5.b.at nL).1, (by show 0 < 11; decide), (by show 11 ≤ 1000; decide), j6.b, fun H7 y b7 u7 hy => ?_⟩
    have j7 := j6.but b7 u7
    have w7 := ((vw.same s45).same s6).go j6.b (Go.of u7)
    have big : (24 : Int) < (10 : Int) ^ (20 : Int).toNat := by decide
    simp only [List.mem_cons, List.not_mem_nil, or_false] at hy
    rcases hy with rfl | rfl | rfl | rfl | rfl | rfl | rfl | rfl | rfl | rfl | rfl
    · exact ⟨_, rfl, j7, w7, .flat rfl, fun i e => by have := V.int.inj e; omega⟩
    · exact ⟨_, rfl, j7, w7, .flat rfl, fun i e => by have := V.int.inj e; omega⟩
    · exact ⟨_, rfl, j7, w7, .flat rfl, fun i e => by have := V.int.inj e; omega⟩
    · exact ⟨_, rfl, j7, w7, .flat rfl, fun i e => by cases e⟩
    · exact ⟨_, rfl, j7, w7, .flat rfl, fun i e => by cases e⟩
    · exact ⟨_, rfl, j7, w7, .flat rfl, fun i e => by cases e⟩
    · exact ⟨_, rfl, j7, w7, .flat rfl, fun i e => by cases e⟩
    · exact ⟨_, rfl, j7, w7, (v1.same s6).go j6.b (Go.of u7), fun i e => by cases e⟩
    · exact ⟨_, rfl, j7, w7, (v2.same s6).go j6.b (Go.of u7), fun i e => by cases e⟩
    · exact ⟨_, rfl, j7, w7, .flat rfl, fun i e => by
        rw [← V.int.inj e]
        exact .inr (by omega)⟩
    · exact ⟨_, rfl, j7, w7, .flat rfl, fun i e => by have := V.int.inj e; omega⟩
  clear j vw
  rintro σ G ⟨sp, rfl, j, vw, vs, hs⟩
  refine ⟨fun σ G => ∃ m r0 r1 r2, σ = [some (.ref B), some (.ref a), some (.ref x), some (.int (n : Nat)), some (.ref m), o5, some wr, some sp] ∧ Jg T B p HF G ∧ Vx K S G wr ∧ Vx K S G sp ∧ G m = some (.lst [.ref r0, .ref r1, .ref r2]) ∧ G r0 = some (.lst [.str "InvalidOrder", wr]) ∧ G r1 = some (.lst [.str "InvalidPlace", sp]) ∧ G r2 = some (.lst [.str "InvalidPlace", sp]), ?_, ?_⟩
  · refine ⟨j.t, fun H4 x4 T4 => ?_⟩
    have j4 := j.ext x4 T4
    have w4 := vw.go j.b (Go.ext x4)
    have v4 := vs.go j.b (Go.ext x4)
    obtain ⟨x', dx, fs, ex, hx, _, q2, q3, _⟩ := (rd j4.g).ins
    obtain rfl := V.ref.inj ex
    refine ⟨_, rfl, x, dx, fs, rfl, hx, q2, _, rfl, rd_cuFB (rd j4.g) (w4.inR U.sk hw) (fun _ _ _ h => h) fun r0 H5 s5 e5 => ?_⟩
    have j5 := j4.same s5
    refine ⟨j5.t, fun H6 tu x6 T6 ht => ⟨ht, ?_⟩⟩
    have j6 := j5.ext x6 T6
    have w6 := (w4.same s5).go j5.b (Go.ext x6)
    have v6 := (v4.same s5).go j5.b (Go.ext x6)
    have hx6 := x6 _ _ (s5 _ _ hx) (fun ps z => by cases z)
    have e6 := x6 _ _ e5 (nt _)
    refine ⟨_, rfl, x, dx, fs, rfl, hx6, q3, _, rfl, ?_⟩
    refine ⟨_, _, qs, false, rfl, (rd j6.g).st, v6.inR U.sk hs, fun _ d G1 u1 k1 e1 => .inr (.inr (.inr (.inr (.inr ⟨rfl, d, _, rfl, e1, fun r1 H7 u2 k2 e7 => ?_⟩)))), fun z => Bool.noConfusion z⟩
    have s7 := u1.trans u2
    have j7 := j6.same s7
    refine ⟨j7.t, fun H8 tu x8 T8 ht => ⟨ht, ?_⟩⟩
    have j8 := j7.ext x8 T8
    have w8 := (w6.same s7).go j7.b (Go.ext x8)
    have v8 := (v6.same s7).go j7.b (Go.ext x8)
    refine ⟨_, rfl, x, dx, fs, rfl, x8 _ _ (s7 _ _ hx6) (fun ps z => by cases z), q3, _, rfl, rfl, ?_⟩
    refine ⟨_, _, qs, false, rfl, (rd j8.g).st, v8.inR U.sk hs, fun _ d G1 u1 k1 e1 => .inr (.inr (.inr (.inr (.inr ⟨rfl, d, _, rfl, e1, fun r2 H9 u2 k2 e9 => ?_⟩)))), fun z => Bool.noConfusion z⟩
    have s9 := u1.trans u2
    refine ⟨(by show 3 ≤ sizeLine; decide), fun m nm => ?_⟩
    have s10 := new_same nm (HO.lst [V.ref r0, V.ref r1, V.ref r2])
    have s11 := s9.trans s10
    exact ⟨m, r0, r1, r2, rfl, j8.same s11, w8.same s11, v8.same s11, upd_same, s11 _ _ (x8 _ _ (s7 _ _ e6) (nt _)), s11 _ _ (x8 _ _ e7 (nt _)), s10 _ _ e9⟩
  clear j vw vs
  rintro σ G ⟨m, r0, r1, r2, rfl, j, vw, vs, hm, h0, h1, h2⟩
  refine ⟨_, rfl, _, rfl, (by show 2 ≤ sizeLine; decide), fun d0 k0 => ⟨_, rfl, (by show 2 ≤ sizeLine; decide), fun d1 k1 => ⟨_, rfl, (by show 2 ≤ sizeLine; decide), fun d2 k2 => ⟨(by show 3 ≤ sizeLine; decide), fun d3 k3 => ?_⟩⟩⟩⟩
  have s0 := new_same k0 (HO.lst [.str "InvalidOrder", wr])
  have g0 : upd G d0 (HO.lst [.str "InvalidOrder", wr]) d0 = some _ := upd_same
  generalize upd G d0 (HO.lst [.str "InvalidOrder", wr]) = G0 at s0 g0 k1 k2 k3 ⊢
  have s4 := new_same k1 (HO.lst [.str "InvalidPlace", sp])
  have g1 : upd G0 d1 (HO.lst [.str "InvalidPlace", sp]) d1 = some _ := upd_same
  generalize upd G0 d1 (HO.lst [.str "InvalidPlace", sp]) = G1 at s4 g1 k2 k3 ⊢
  have s5 := new_same k2 (HO.lst [.str "InvalidPlace", sp])
  have g2 : upd G1 d2 (HO.lst [.str "InvalidPlace", sp]) d2 = some _ := upd_same
  generalize upd G1 d2 (HO.lst [.str "InvalidPlace", sp]) = G2 at s5 g2 k3 ⊢
  have s6 := new_same k3 (HO.lst [V.ref d0, V.ref d1, V.ref d2])
  have s46 := s0.trans (s4.trans (s5.trans s6))
  have w6 := vw.same s46
  have v6 := vs.same s46
  have lk : ∀ {r d : Addr} {c : Str} {z : V}, Vx K S (upd G2 d3 (HO.lst [V.ref d0, V.ref d1, V.ref d2])) z → G r = some (.lst [.str c, z]) → upd G2 d3 (HO.lst [V.ref d0, V.ref d1, V.ref d2]) d = some (.lst [.str c, z]) → Lk K S 3 (upd G2 d3 (HO.lst [V.ref d0, V.ref d1, V.ref d2])) (.ref r) (.ref d) := fun v h h' =>
    Lk.lst (n := 2) (s46 _ _ h) h' (by show 2 ≤ 60; decide) (.cons (Lk.flat rfl) (.cons (v.lk (n := 0)) .nil))
  refine ⟨_, _, rfl, Lk.lst (n := 3) (s46 _ _ hm) upd_same (by show 3 ≤ 60; decide) (.cons (lk w6 h0 (s6 _ _ (s5 _ _ (s4 _ _ g0)))) (.cons (lk v6 h1 (s6 _ _ (s5 _ _ g1))) (.cons (lk v6 h2 (s6 _ _ g2)) .nil))), fun H5 s7 => ?_⟩
  have j5 := j.same (s46.trans s7)
  exact q _ j5.b ((Go.same sF).trans j5.g) j5.t
end
end Kx
end
section
set_option maxHeartbeats 4000000
namespace Kx
open PySem PySem.Spec PyProof.Rows L2 RZ
/-- a lead and an order that were drawn, and what is due for Step.scaling and for Step.still -/
inductive CS (K : PySem.W.Frag) (S : Addr) (G : Hp) (vc vs : V) : (Str × V) ⊕ List Rat → (Str × V) ⊕ List Rat → Prop where
  | bb (h : Od K S G vc) (z : Vx K S G vs) (hi : ∀ i : Int, vs = .int i → i < 2 ∨ 24 < i) : CS K S G vc vs (.inl ("InvalidNumber", vc)) (.inl ("InvalidOrder", vs))
  | nb {q : Rat} (h : Nq K G vc q) (b : Bq 21 q) (z : Vx K S G vs) (hi : ∀ i : Int, vs = .int i → i < 2 ∨ 24 < i) : CS K S G vc vs (.inl ("InvalidOrder", vs)) (.inl ("InvalidOrder", vs))
  | bo {n : Nat} (h : Od K S G vc) (e : vs = .int (n : Nat)) (n2 : 2 ≤ n) (n24 : n ≤ 24) : CS K S G vc vs (.inl ("InvalidNumber", vc)) (.inr (1 :: List.replicate (n - 1) 0))
  | no {q : Rat} {n : Nat} (h : Nq K G vc q) (b : Bq 21 q) (e : vs = .int (n : Nat)) (n2 : 2 ≤ n) (n24 : n ≤ 24) : CS K S G vc vs (.inr (q :: List.replicate (n - 1) 0)) (.inr (1 :: List.replicate (n - 1) 0))
/-- what ask told of a step -/
def TRS (K : PySem.W.Frag) (S : Addr) (G : Hp) (v : V) : (Str × V) ⊕ List Rat → Prop
  | .inl (code, u) => ∃ t, v = .ref t ∧ G t = some (.lst [.str code, u])
  | .inr qs => ∃ t y, v = .ref t ∧ G t = some (.lst [.str "told", y]) ∧ StF K S G y qs
section
variable {K : PySem.W.Frag} {S B p : Addr} {G G' : Hp} {vc vs v : V} {o o1 o2 : (Str × V) ⊕ List Rat}
theorem CS.go (h : CS K S G vc vs o1 o2) (b : Bag G B p) (s : Go B G G') : CS K S G' vc vs o1 o2 := by
  cases h with
  | bb h z hi => exact .bb (h.go b s) (z.go b s) hi
  | nb h c z hi => exact .nb (h.go b s) c (z.go b s) hi
  | bo h e n2 n24 => exact .bo (h.go b s) e n2 n24
  | no h c e n2 n24 => exact .no (h.go b s) c e n2 n24
theorem TRS.go (h : TRS K S G v o) (b : Bag G B p) (s : Go B G G') : TRS K S G' v o := by
  rcases o with ⟨code, u⟩ | qs
  · obtain ⟨t, e, h⟩ := h
    exact ⟨t, e, lst_go h (by show 2 ≠ 5; decide) b s⟩
  · obtain ⟨t, y, e, h, r⟩ := h
    exact ⟨t, y, e, lst_go h (by show 2 ≠ 5; decide) b s, r.go b s⟩
end
section
variable {P : Program} {w : World} {K : PySem.W.Frag} {mg : Str → Option Value} {base : Heap} {C S : Addr} {cs : Fin 6 → Addr} {H : Hp} {vc vs : V} {o1 o2 : (Str × V) ⊕ List Rat}
theorem rd_told {R Q : VK} {qs : List Rat} (hR : ∀ z H1, (2 ≤ sizeLine ∧ ∀ t, H1 t = none → Q (.ref t) (upd H1 t (.lst [.str "told", z]))) → R z H1) (q : ∀ v G, Same H G → TRS K S G v (.inr qs) → Q v G) : GivesF K S H R qs :=
  fun H1 y s1 r1 => hR _ _ ⟨by show 2 ≤ sizeLine; decide, fun t nt => q _ _ (s1.trans (new_same nt _)) ⟨t, y, rfl, upd_same, r1.same (new_same nt _)⟩⟩
theorem rd_scl {E : XK} {Q R : VK} (h : CS K S H vc vs o1 o2) (k : StepK P w K mg base C S (cs 1) (cs 2)) (hE : ∀ cls d H', Flt H' cs cls d Q → E cls d H')
    (hR : ∀ z H1, (2 ≤ sizeLine ∧ ∀ t, H1 t = none → Q (.ref t) (upd H1 t (.lst [.str "told", z]))) → R z H1) (q : ∀ v G, Same H G → TRS K S G v o1 → Q v G) : spScF K S (cs 0) (cs 2) [vc, vs] H R E := by
  have airN : o1 = .inl ("InvalidNumber", vc) → ∀ d H', Same H H' → H d = none → H' d = some (.xd (fs1 "InvalidNumber" "value" [vc])) → E (.ref (cs 0)) (some d) H' := fun e d H' s n e2 => hE _ _ _ (.inl ⟨rfl, d, _, rfl, e2, fun t H2 s2 n2 e3 => q _ _ (s.trans s2) (by rw [e]; exact ⟨t, rfl, e3⟩)⟩)
  cases h with
  | bb h z hi => exact ⟨vc, _, false, false, rfl, h.2.isG k H (Same.refl H), z.inR k hi, fun _ => airN rfl, fun z => Bool.noConfusion z, fun z => Bool.noConfusion z⟩
  | nb h b z hi => exact ⟨vc, _, true, false, rfl, h.isG, z.inR k hi, fun z => Bool.noConfusion z, fun _ _ d H' s n e2 => hE _ _ _ (.inr (.inr (.inl ⟨rfl, d, _, rfl, e2, fun t H2 s2 n2 e3 => q _ _ (s.trans s2) ⟨t, rfl, e3⟩⟩))), fun _ z => Bool.noConfusion z⟩
  | bo h e n2 n24 =>
    subst e
    exact ⟨vc, _, false, true, rfl, h.2.isG k H (Same.refl H), .yes (by omega) (by omega), fun _ => airN rfl, fun z => Bool.noConfusion z, fun z => Bool.noConfusion z⟩
  | no h b e n2 n24 =>
    subst e
    exact ⟨vc, _, true, true, rfl, h.isG, .yes (by omega) (by omega), fun z => Bool.noConfusion z, fun _ z => Bool.noConfusion z, fun _ _ => ⟨_, _, h, rfl, n2, n24, rd_told hR q⟩⟩
theorem rd_stl {E : XK} {Q R : VK} (h : CS K S H vc vs o1 o2) (k : StepK P w K mg base C S (cs 1) (cs 2)) (hE : ∀ cls d H', Flt H' cs cls d Q → E cls d H')
    (hR : ∀ z H1, (2 ≤ sizeLine ∧ ∀ t, H1 t = none → Q (.ref t) (upd H1 t (.lst [.str "told", z]))) → R z H1) (q : ∀ v G, Same H G → TRS K S G v o2 → Q v G) : spStF K S (cs 2) [vs] H R E := by
  have airO : o2 = .inl ("InvalidOrder", vs) → ∀ d H', Same H H' → H d = none → H' d = some (.xd (fs1 "InvalidOrder" "value" [vs])) → E (.ref (cs 2)) (some d) H' := fun e d H' s n e2 => hE _ _ _ (.inr (.inr (.inl ⟨rfl, d, _, rfl, e2, fun t H2 s2 n2 e3 => q _ _ (s.trans s2) (by rw [e]; exact ⟨t, rfl, e3⟩)⟩)))
  cases h with
  | bb h z hi => exact ⟨_, false, rfl, z.inR k hi, fun _ => airO rfl, fun z => Bool.noConfusion z⟩
  | nb h b z hi => exact ⟨_, false, rfl, z.inR k hi, fun _ => airO rfl, fun z => Bool.noConfusion z⟩
  | bo h e n2 n24 =>
    subst e
    exact ⟨_, true, rfl, .yes (by omega) (by omega), fun z => Bool.noConfusion z, fun _ => ⟨_, rfl, n2, n24, rd_told hR q⟩⟩
  | no h b e n2 n24 =>
    subst e
    exact ⟨_, true, rfl, .yes (by omega) (by omega), fun z => Bool.noConfusion z, fun _ => ⟨_, rfl, n2, n24, rd_told hR q⟩⟩
end
theorem pt_cut {X : Cx} {e : Expr} {t : TT} (h : PT X e t) : PT X e (fun σ H Q => ∃ Pm : Bool → Hp → Prop, t σ H Pm ∧ ∀ v H', Pm v H' → Q v H') :=
  ⟨fun pins s σ H Q I ⟨Pm, hp, hq⟩ => wpAny_mono (h.run pins s σ H Pm I hp) (fun _ _ ⟨H', I', q⟩ => ⟨H', I', hq _ H' q⟩) fun _ _ z => z⟩
abbrev nSca : List Str := ["_law_bag_here", "_law_c", "_law_size", "_law_told", "_law_still_here", "_law_due", "_law_both"]
theorem scSca : FnScope nSca ["_law_bag_here"] (defScope L_scaling_so) := ⟨rfl, rfl, rfl, by decide +kernel, rfl, by decide +kernel, by decide +kernel⟩
section
variable {P : Program} {w : World} {K : PySem.W.Frag} {mg : Str → Option Value} {base : Heap} {f c Pt C S CE : Addr} {cs : Fin 6 → Addr} {fd : FuncData} {T : List (Addr × Str)}
theorem ok_scalingso (F : FunC K "_law_scaling_so" "_law_scaling_so" L_scaling_so f fd c) (U : KitS P w K mg base C S cs CE)
    (TB : LamX.TabB base mg c Pt) (hmT : (Pt, ((("_law_scaling_so" : Str) ++ ".<locals>.") ++ "<lambda>" : Str)) ∈ T) (hu : ∀ p ∈ T, p.1 = Pt → p.2 = ((("_law_scaling_so" : Str) ++ ".<locals>.") ++ "<lambda>" : Str)) : FnOk P w K mg base CX0 11 f fd ["_law_bag_here"] (spSo T) := by
  refine F.ok scSca (fun vs H Q E h => ?_) (fun A outer s H vs Q E hr h => ?_)
  · obtain ⟨B, p, rfl, _⟩ := h
    rfl
  obtain ⟨B, p, rfl, hb, hT, q⟩ := h
  have hr1 := hr.mono (show 1 ≤ 10 by decide)
  have hr2 := hr.mono (show 2 ≤ 10 by decide)
  have hr3 := hr.mono (show 3 ≤ 10 by decide)
  have hr6 := hr.mono (show 6 ≤ 10 by decide)
  have hr8 := hr.mono (show 8 ≤ 10 by decide)
  have hr9 := hr.mono (show 9 ≤ 10 by decide)
  obtain ⟨mc, pS, gS, fdS, rS, cS, FS, bS, kS⟩ := U.still
  obtain ⟨mc2, pL, gL, fdL, rL, cL, FL, bL, kL⟩ := U.scaling
  obtain ⟨gA, fdA, FA, bA, mA⟩ := U.ask
  obtain ⟨oc, od, kV, doc, pm, an, cdv, ct, osl, rfl, lkA, hcdA⟩ := FA.ex
  obtain ⟨fF, fdF, PF, bF, kF, mF⟩ := U.flt
  refine ⟨_, C8.pss_cut (ps_set (i := 1) scSca.nd rfl (Or.inr rfl) (pe_use U.ofL hr2 rfl pass0 (pa_cons (pv 0) (pa_cons (pe_lst (pa_cons (pe_use U.num hr3 rfl pass0 (pa_cons (pv 0) pa_nil)) (pa_cons (pe_tup (pa_cons pe_int (pa_cons pe_int pa_nil))) (pa_cons (pe_tup (pa_cons pe_int (pa_cons pe_int pa_nil))) (pa_cons (pe_tup (pa_cons (pe_un un_neg pe_int) (pa_cons pe_int pa_nil)))
        (pa_cons (pe_use U.odd hr9 rfl pass0 (pa_cons (pv 0) pa_nil)) pa_nil)))))) pa_nil))))
    (C8.pss_cut (ps_set (i := 2) scSca.nd rfl (Or.inr rfl) (pe_use U.ofL hr2 rfl pass0 (pa_cons (pv 0) (pa_cons (pe_lst (pa_cons pe_int (pa_cons pe_int (pa_cons (pe_use U.size hr3 rfl pass0 (pa_cons (pv 0) pa_nil)) (pa_cons (pe_use U.no hr3 rfl pass0 (pa_cons (pv 0) pa_nil)) pa_nil))))) pa_nil))))
    (C8.pss_cut (ps_set (i := 3) scSca.nd rfl (Or.inl rfl) (pe_lst (pa_cons
        (LamX.pe_lamcall (k := 8) (t := fun E => tStat S (spScF K S (cs 0) (cs 2)) E (tC (.ref S)) (tCons (tVar 1) (tCons (tVar 2) tNil))) (TT := TAsk cs) rfl mA FA.kp lkA hcdA bA scAsk rfl (Or.inl rfl) (ask_gives (hr.mono (by decide)) PF bF kF mF U.mC U.e1) TB rfl hmT hu hr (LamX.lamS_by (show LamX.lamSB (defScope L_scaling_so) _ = true by decide +kernel)) rfl (fun _ _ _ _ _ => rfl)
          (fun A outer s H E f c' hk => pe_static (C8.pe_gc (v := .ref S) rfl ⟨_, U.si.m, rfl⟩) rL cL FL hk bL (passes_call (takes_of rfl rfl rfl rfl) (fun _ _ _ _ h => h)) (pa_cons (pv 1) (pa_cons (pv 2) pa_nil))))
        (pa_cons (LamX.pe_lamcallD (k := 8) (kd := 0) (px := "_law_x") (t := fun E => tStatR S 2 (spScF K S (cs 0) (cs 2)) E (tC (.ref S)) (tCons (tVar 2) (tCons (tVar 1) tNil))) (TT := TAsk cs) rfl mA FA.kp lkA hcdA bA scAsk rfl (Or.inl rfl) (ask_gives (hr.mono (by decide)) PF bF kF mF U.mC U.e1) TB rfl hmT hu hr (LamX.lamD_by (show LamX.lamDB nSca (defScope L_scaling_so) _ "_law_x" = true by decide +kernel)) rfl (fun _ _ _ _ _ _ _ => ⟨_, rfl, rfl⟩)
          (fun A outer s H E f c' hk => pe_staticR (ks := ["order", "lead"]) (C8.pe_gc (v := .ref S) rfl ⟨_, U.si.m, rfl⟩) rL cL FL hk kL (passes_call (takes_of rfl rfl rfl rfl) (fun _ _ _ _ h => h)) (pk_cons (pv 2) (pk_cons (pv 1) pk_nil)))) pa_nil))))
    (C8.pss_cut (ps_set (i := 4) scSca.nd rfl (Or.inl rfl) (pe_lst (pa_cons
        (LamX.pe_lamcall (k := 8) (t := fun E => tStat S (spStF K S (cs 2)) E (tC (.ref S)) (tCons (tVar 2) tNil)) (TT := TAsk cs) rfl mA FA.kp lkA hcdA bA scAsk rfl (Or.inl rfl) (ask_gives (hr.mono (by decide)) PF bF kF mF U.mC U.e1) TB rfl hmT hu hr (LamX.lamS_by (show LamX.lamSB (defScope L_scaling_so) _ = true by decide +kernel)) rfl (fun _ _ _ _ _ => rfl)
          (fun A outer s H E f c' hk => pe_static (C8.pe_gc (v := .ref S) rfl ⟨_, U.si.m, rfl⟩) rS cS FS hk bS (passes_call (takes_of rfl rfl rfl rfl) (fun _ _ _ _ h => h)) (pa_cons (pv 2) pa_nil)))
        (pa_cons (LamX.pe_lamcallD (k := 8) (kd := 0) (px := "_law_x") (t := fun E => tStatR S 1 (spStF K S (cs 2)) E (tC (.ref S)) (tCons (tVar 2) tNil)) (TT := TAsk cs) rfl mA FA.kp lkA hcdA bA scAsk rfl (Or.inl rfl) (ask_gives (hr.mono (by decide)) PF bF kF mF U.mC U.e1) TB rfl hmT hu hr (LamX.lamD_by (show LamX.lamDB nSca (defScope L_scaling_so) _ "_law_x" = true by decide +kernel)) rfl (fun _ _ _ _ _ _ _ => ⟨_, rfl, rfl⟩)
          (fun A outer s H E f c' hk => pe_staticR (ks := ["order"]) (C8.pe_gc (v := .ref S) rfl ⟨_, U.si.m, rfl⟩) rS cS FS hk kS (passes_call (takes_of rfl rfl rfl rfl) (fun _ _ _ _ h => h)) (pk_cons (pv 2) pk_nil))) pa_nil))))
    (C8.pss_cut (ps_if (pt_cut (PW.pt (pw_or (pt_val (pe_callB call_isi rfl U.mI (by decide +kernel) (pa_cons (pv 2) (pa_cons (pe_bltn rfl U.mb boot_bool (rel_ty _)) pa_nil)))) (pw_or (pt_not (pt_val (pe_callB call_isi rfl U.mI (by decide +kernel) (pa_cons (pv 2) (pa_cons (pe_bltn rfl U.mi boot_int (rel_ty _)) pa_nil))))) (pw_or1 (pt_not (pt_chain op_le op_le pe_int (pv 2) pe_int)))))))
        (C8.pss_cut (ps_set (i := 5) scSca.nd rfl (Or.inl rfl) (pe_lst (pa_cons pe_str (pa_cons (pv 2) pa_nil))))
        (C8.pss_cut (ps_set (i := 6) scSca.nd rfl (Or.inl rfl) (pe_ifExp (pt_val (pe_use U.lis hr2 rfl pass0 (pa_cons (pv 1) pa_nil))) (pv 5) (pe_lst (pa_cons pe_str (pa_cons (pv 1) pa_nil)))))
        (pss_one (ps_ret (pe_use U.lik hr6 rfl pass0 (pa_cons (pe_op op_cat (pv 3) (pv 4)) (pa_cons (pe_lst (pa_cons (pv 6) (pa_cons (pv 6) (pa_cons (pv 5) (pa_cons (pv 5) pa_nil))))) pa_nil))))))) pss_nil)
    (C8.pss_cut (ps_if (PW.pt (pw_or (pt_cmpR op_ne (pe_ix ix_list (pe_ix ix_list (pv 4) pe_int (fun _ _ => rfl)) pe_int (fun _ _ => rfl)) pe_str (nomark _))
        (pw_or (pt_not (pt_val (pe_use U.told hr9 rfl pass0 (pa_cons (pe_ix ix_list (pe_ix ix_list (pv 4) pe_int (fun _ _ => rfl)) pe_int (fun _ _ => rfl)) (pa_cons (pe_use U.lstill hr1 rfl pass0 (pa_cons (pv 2) pa_nil)) pa_nil)))))
        (pw_or1 (pt_not (pt_cmpR (op_tl U.oeq hr2) (pe_ix ix_list (pv 4) pe_int (fun _ _ => rfl)) (pe_ix ix_list (pv 4) pe_int (fun _ _ => rfl)) (nomark _))))))) (pss_one (ps_ret pe_bl)) pss_nil)
    (C8.pss_cut (ps_if (pt_not (pt_val (pe_use U.lis hr2 rfl pass0 (pa_cons (pv 1) pa_nil)))) (pss_one (ps_ret (pe_use U.lik hr6 rfl pass0 (pa_cons (pv 3) (pa_cons (pe_lst (pa_cons (pe_lst (pa_cons pe_str (pa_cons (pv 1) pa_nil))) (pa_cons (pe_lst (pa_cons pe_str (pa_cons (pv 1) pa_nil))) pa_nil))) pa_nil))))) pss_nil)
    (pss_one (ps_ret (pe_and (pe_cmpR op_eq (pe_ix ix_list (pe_ix ix_list (pv 3) pe_int (fun _ _ => rfl)) pe_int (fun _ _ => rfl)) pe_str (nomark _))
      (pe_and (pe_use U.told hr9 rfl pass0 (pa_cons (pe_ix ix_list (pe_ix ix_list (pv 3) pe_int (fun _ _ => rfl)) pe_int (fun _ _ => rfl)) (pa_cons (pe_op op_cat (pe_lst (pa_cons (pv 1) pa_nil)) (pe_op op_rep (pe_lst (pa_cons (pe_tup (pa_cons pe_int (pa_cons pe_int pa_nil))) pa_nil)) (pe_op op_sub (pv 2) pe_int))) pa_nil)))
        (pe_one (pe_cmpR (op_tl U.oeq hr2) (pe_ix ix_list (pv 3) pe_int (fun _ _ => rfl)) (pe_ix ix_list (pv 3) pe_int (fun _ _ => rfl)) (nomark _))))))))))))), ?_⟩
  have j0 : Jg T B p H H := ⟨hb, hT, Go.refl⟩
  refine ⟨fun σ H1 => ∃ vc, σ = [some (.ref B), some vc, none, none, none, none, none] ∧ Jg T B p H H1 ∧ ((∃ q, Nq K H1 vc q ∧ Bq 21 q) ∨ Od K S H1 vc), ?_, ?_⟩
  · refine ⟨_, rfl, _, rfl, B, p, rfl, hb, fun H1 v1 q1 b1 u1 n1 c1 => ⟨(by show 2 ≤ sizeLine; decide), fun t1 m1 => ⟨(by show 2 ≤ sizeLine; decide), fun t2 m2 => ⟨_, rfl, (by show 2 ≤ sizeLine; decide), fun t3 m3 => ?_⟩⟩⟩⟩
    have s1 := new_same m1 (HO.tup [.int 0, .int 1])
    have s2 := new_same m2 (HO.tup [.int 1, .int 1])
    have s3 := new_same m3 (HO.tup [.int (-1), .int 1])
    have s13 := s1.trans (s2.trans s3)
    have q0 : Nq K _ (.ref t1) 0 := .at (K := K) ((s2.trans s3) _ _ (show upd H1 t1 (HO.tup [.int 0, .int 1]) t1 = some (rT 0) from upd_same))
    have qq : Nq K _ (.ref t2) 1 := .at (K := K) (s3 _ _ (show upd (upd H1 t1 (HO.tup [.int 0, .int 1])) t2 (HO.tup [.int 1, .int 1]) t2 = some (rT 1) from upd_same))
    have qm : Nq K _ (.ref t3) (-1) := .at (K := K) (show upd (upd (upd H1 t1 (HO.tup [.int 0, .int 1])) t2 (HO.tup [.int 1, .int 1])) t3 (HO.tup [.int (-1), .int 1]) t3 = some (rT (-1)) from upd_same)
    have j1 := (j0.but b1 u1).same s13
    have n1 := n1.same s13
    have b1 := b1.same s13
    generalize upd (upd (upd H1 t1 (HO.tup [.int 0, .int 1])) t2 (HO.tup [.int 1, .int 1])) t3 (HO.tup [.int (-1), .int 1]) = G1 at q0 qq qm j1 n1 b1
    refine ⟨_, rfl, B, p, rfl, b1, fun H3 v3 b3 u3 o3 => ⟨(by show 5 ≤ sizeLine; decide), fun L nL => ?_⟩⟩
    have s4 := new_same nL (HO.lst [v1, .ref t1, .ref t2, .ref t3, v3])
    refine ⟨B, p, L, _, rfl, upd_same, (b3.at nL).1, (by show 0 < 5; decide), (by show 5 ≤ 1000; decide), b3.same s4, fun H5 x b5 u5 hx => ?_⟩
    have j5 := ((j1.but b3 u3).same s4).but b5 u5
    have b4 := b3.same s4
    have nn : ∀ {v : V} {r : Rat}, Nq K G1 v r → Nq K H5 v r := fun h => ((h.go b1 (Go.of u3)).same s4).go b4 (Go.of u5)
    simp only [List.mem_cons, List.not_mem_nil, or_false] at hx
    rcases hx with rfl | rfl | rfl | rfl | rfl
    · exact ⟨_, rfl, j5, .inl ⟨_, nn n1, c1⟩⟩
    · exact ⟨_, rfl, j5, .inl ⟨0, nn q0, by decide, by decide⟩⟩
    · exact ⟨_, rfl, j5, .inl ⟨1, nn qq, by decide, by decide⟩⟩
    · exact ⟨_, rfl, j5, .inl ⟨-1, nn qm, by decide, by decide⟩⟩
    · exact ⟨_, rfl, j5, .inr ((o3.same s4).go b4 (Go.of u5))⟩
  clear j0 hb hT
  rintro σ H1 ⟨vc, rfl, j, hc⟩
  refine ⟨fun σ H1 => ∃ vs o1 o2, σ = [some (.ref B), some vc, some vs, none, none, none, none] ∧ Jg T B p H H1 ∧ CS K S H1 vc vs o1 o2, ?_, ?_⟩
  · refine ⟨_, rfl, _, rfl, B, p, rfl, j.b, fun H2 n b2 u2 n2 n24 => ⟨_, rfl, B, p, rfl, b2, fun H3 v b3 u3 vx hi => ⟨(by show 4 ≤ sizeLine; decide), fun L nL => ?_⟩⟩⟩
    have s4 := new_same nL (HO.lst [.int 2, .int 24, .int (n : Nat), v])
    have b4 := b3.same s4
    refine ⟨B, p, L, _, rfl, upd_same, (b3.at nL).1, (by show 0 < 4; decide), (by show 4 ≤ 1000; decide), b4, fun H5 x b5 u5 hx => ?_⟩
    have j5 := (((j.but b2 u2).but b3 u3).same s4).but b5 u5
    have g : Go B H1 H5 := (Go.of u2).trans ((Go.of u3).trans ((Go.same s4).trans (Go.of u5)))
    have hc5 : (∃ q, Nq K H5 vc q ∧ Bq 21 q) ∨ Od K S H5 vc := hc.imp (fun ⟨q, h, b⟩ => ⟨q, h.go j.b g, b⟩) fun h => h.go j.b g
    have fin : ∀ m : Nat, 2 ≤ m → m ≤ 24 → ∃ o1 o2, CS K S H5 vc (.int (m : Nat)) o1 o2 := fun m h1 h2 => by
      rcases hc5 with ⟨q, h, b⟩ | h
      · exact ⟨_, _, .no h b rfl h1 h2⟩
      · exact ⟨_, _, .bo h rfl h1 h2⟩
    simp only [List.mem_cons, List.not_mem_nil, or_false] at hx
    rcases hx with rfl | rfl | rfl | rfl
    · obtain ⟨o1, o2, ho⟩ := fin 2 (by decide) (by decide)
      exact ⟨_, o1, o2, rfl, j5, ho⟩
    · obtain ⟨o1, o2, ho⟩ := fin 24 (by decide) (by decide)
      exact ⟨_, o1, o2, rfl, j5, ho⟩
    · obtain ⟨o1, o2, ho⟩ := fin n n2 n24
      exact ⟨_, o1, o2, rfl, j5, ho⟩
    · have vx5 := (vx.same s4).go b4 (Go.of u5)
      rcases hc5 with ⟨q, h, b⟩ | h
      · exact ⟨_, _, _, rfl, j5, .nb h b vx5 hi⟩
      · exact ⟨_, _, _, rfl, j5, .bb h vx5 hi⟩
  clear j hc
  rintro σ H1 ⟨vs, o1, o2, rfl, j, hc⟩
  have nt : ∀ (l : List V) ps, HO.lst l ≠ .tbl ps := fun l ps z => by cases z
  refine ⟨fun σ G => ∃ l v1 v2, σ = [some (.ref B), some vc, some vs, some (.ref l), none, none, none] ∧ Jg T B p H G ∧ CS K S G vc vs o1 o2 ∧ G l = some (.lst [v1, v2]) ∧ TRS K S G v1 o1 ∧ TRS K S G v2 o1, ?_, ?_⟩
  · refine ⟨j.t, fun H2 x2 T2 => ?_⟩
    have j2 := j.ext x2 T2
    have c2 := hc.go j.b (Go.ext x2)
    refine ⟨rfl, _, rfl, _, rfl, rd_scl c2 U.sk (fun _ _ _ h => h) (fun z H1 h => h) fun v1 G1 s1 t1 => ?_⟩
    have j3 := j2.same s1
    have c3 := c2.go j2.b (Go.same s1)
    refine ⟨j3.t, fun H4 tu x4 T4 htu => ⟨htu, ?_⟩⟩
    have j4 := j3.ext x4 T4
    have c4 := c3.go j3.b (Go.ext x4)
    have t4 := t1.go j3.b (Go.ext x4)
    refine ⟨rfl, _, rfl, _, rfl, rfl, rd_scl c4 U.sk (fun _ _ _ h => h) (fun z H1 h => h) fun v2 G2 s2 t2 => ?_⟩
    have j5 := j4.same s2
    refine ⟨(by show 2 ≤ sizeLine; decide), fun l nl => ?_⟩
    have s3 := new_same nl (HO.lst [v1, v2])
    have s := s2.trans s3
    exact ⟨l, v1, v2, rfl, j4.same s, c4.go j4.b (Go.same s), upd_same, t4.go j4.b (Go.same s), t2.go j5.b (Go.same s3)⟩
  clear j hc
  rintro σ G ⟨l, v1, v2, rfl, j, hc, el, t1, t2⟩
  refine ⟨fun σ G => ∃ m w1 w2, σ = [some (.ref B), some vc, some vs, some (.ref l), some (.ref m), none, none] ∧ Jg T B p H G ∧ CS K S G vc vs o1 o2 ∧ G l = some (.lst [v1, v2]) ∧ TRS K S G v1 o1 ∧ TRS K S G v2 o1 ∧ G m = some (.lst [w1, w2]) ∧ TRS K S G w1 o2 ∧ TRS K S G w2 o2, ?_, ?_⟩
  · refine ⟨j.t, fun H2 x2 T2 => ?_⟩
    have j2 := j.ext x2 T2
    have c2 := hc.go j.b (Go.ext x2)
    refine ⟨rfl, _, rfl, rd_stl c2 U.sk (fun _ _ _ h => h) (fun z H1 h => h) fun w1 G1 s1 y1 => ?_⟩
    have j3 := j2.same s1
    have c3 := c2.go j2.b (Go.same s1)
    refine ⟨j3.t, fun H4 tu x4 T4 htu => ⟨htu, ?_⟩⟩
    have j4 := j3.ext x4 T4
    have c4 := c3.go j3.b (Go.ext x4)
    have y4 := y1.go j3.b (Go.ext x4)
    refine ⟨rfl, _, rfl, rfl, rd_stl c4 U.sk (fun _ _ _ h => h) (fun z H1 h => h) fun w2 G2 s2 y2 => ?_⟩
    have j5 := j4.same s2
    refine ⟨(by show 2 ≤ sizeLine; decide), fun m nm => ?_⟩
    have s3 := new_same nm (HO.lst [w1, w2])
    have s := s2.trans s3
    have g : Go B G _ := (Go.ext x2).trans ((Go.same s1).trans ((Go.ext x4).trans (Go.same s)))
    exact ⟨m, w1, w2, rfl, j4.same s, c4.go j4.b (Go.same s), s _ _ (x4 _ _ (s1 _ _ (x2 _ _ el (nt _))) (nt _)), t1.go j.b g, t2.go j.b g, upd_same, y4.go j4.b (Go.same s), y2.go j5.b (Go.same s3)⟩
  clear j hc el t1 t2
  rintro σ G ⟨m, w1, w2, rfl, j, hc, el, t1, t2, em, y1, y2⟩
  have bad : (∀ i : Int, vs = .int i → i < 2 ∨ 24 < i) → Vx K S G vs → ∃ b0, WhV K G vs b0 ∧ (b0 = false ∨ ∃ i : Int, b0 = true ∧ vs = .int i) := fun hi z => by
    obtain ⟨b0, hw, hh⟩ := z.inR U.sk hi
    exact ⟨b0, hw, hh.imp (fun h => h.1) fun ⟨i, h1, h2, _⟩ => ⟨i, h1, h2⟩⟩
  have out : (∃ n : Nat, vs = .int (n : Nat) ∧ 2 ≤ n ∧ n ≤ 24) ∨ (Vx K S G vs ∧ (∀ i : Int, vs = .int i → i < 2 ∨ 24 < i) ∧ o2 = .inl ("InvalidOrder", vs) ∧ ∃ code u, o1 = .inl (code, u) ∧ Vx K S G u ∧ ((code = "InvalidNumber" ∧ u = vc ∧ Od K S G vc) ∨ (code = "InvalidOrder" ∧ u = vs ∧ ∃ q, Nq K G vc q ∧ Bq 21 q))) := by
    cases id hc with
    | bb h z hi => exact .inr ⟨z, hi, rfl, _, _, rfl, h.1, .inl ⟨rfl, rfl, h⟩⟩
    | nb h b z hi => exact .inr ⟨z, hi, rfl, _, _, rfl, z, .inr ⟨rfl, rfl, _, h, b⟩⟩
    | bo h e n2 n24 => exact .inl ⟨_, e, n2, n24⟩
    | no h b e n2 n24 => exact .inl ⟨_, e, n2, n24⟩
  refine ⟨fun σ G => ∃ n : Nat, vs = .int (n : Nat) ∧ 2 ≤ n ∧ n ≤ 24 ∧ σ = [some (.ref B), some vc, some vs, some (.ref l), some (.ref m), none, none] ∧ Jg T B p H G ∧ CS K S G vc vs o1 o2 ∧ G l = some (.lst [v1, v2]) ∧ TRS K S G v1 o1 ∧ TRS K S G v2 o1 ∧ G m = some (.lst [w1, w2]) ∧ TRS K S G w1 o2 ∧ TRS K S G w2 o2, ?_, ?_⟩
  · rcases out with ⟨n, e, n2, n24⟩ | ⟨z, hi, rfl, code, u, rfl, vu, hcode⟩
    · refine ⟨fun b G' => b = false ∧ G = G', ?_, ?_⟩
      · subst e
        refine ⟨_, rfl, _, _, _, _, false, rfl, .ty _, .base (.int _), kit_ty kb_int.2, _, rfl, iteF ⟨_, rfl, _, _, _, _, true, rfl, .ty _, .base (.int _), kit_ty kb_int.1, _, rfl, iteF ?_⟩⟩
        refine ⟨_, rfl, 2, _, rfl, rfl, _, rfl, ?_⟩
        rw [decide_eq_true (by omega)]
        refine iteT ⟨_, _, rfl, rfl, _, rfl, ?_⟩
        rw [decide_eq_true (by omega)]
        exact ⟨rfl, rfl⟩
      · rintro _ _ ⟨rfl, rfl⟩
        exact iteF ⟨n, e, n2, n24, rfl, j, hc, el, t1, t2, em, y1, y2⟩
    · refine ⟨fun b G' => b = true ∧ G = G', ?_, ?_⟩
      · obtain ⟨b0, hw, hh⟩ := bad hi z
        obtain ⟨T0, x, y, ty, k1, k2, e⟩ := hw G (Same.refl _)
        cases y with
        | true => exact ⟨_, rfl, vs, _, T0, _, true, rfl, .ty _, ty, k2, _, rfl, iteT ⟨rfl, rfl⟩⟩
        | false =>
          refine ⟨_, rfl, vs, _, T0, _, false, rfl, .ty _, ty, k2, _, rfl, iteF ?_⟩
          cases x with
          | false => exact ⟨_, rfl, vs, _, T0, _, false, rfl, .ty _, ty, k1, _, rfl, iteT ⟨rfl, rfl⟩⟩
          | true =>
            refine ⟨_, rfl, vs, _, T0, _, true, rfl, .ty _, ty, k1, _, rfl, iteF ?_⟩
            rcases hh with e2 | ⟨i, _, ei⟩
            · rw [e2] at e; cases e
            have hi' := hi i ei
            refine ⟨_, rfl, 2, i, rfl, ei, _, rfl, ?_⟩
            by_cases c2 : (2 : Int) ≤ i
            · rw [decide_eq_true c2]
              refine iteT ⟨_, _, ei, rfl, _, rfl, ?_⟩
              rw [decide_eq_false (show ¬ i ≤ 24 by omega)]
              exact ⟨rfl, rfl⟩
            · rw [decide_eq_false c2]
              exact iteF ⟨_, rfl, rfl, rfl⟩
      · rintro _ _ ⟨rfl, rfl⟩
        refine iteT ?_
        obtain ⟨r1, rfl, e1⟩ := t1
        obtain ⟨r2, rfl, e2⟩ := t2
        obtain ⟨r3, rfl, e3⟩ := y1
        obtain ⟨r4, rfl, e4⟩ := y2
        refine ⟨fun σ G' => ∃ d, σ = [some (.ref B), some vc, some vs, some (.ref l), some (.ref m), some (.ref d), none] ∧ Same G' G' ∧ Same G G' ∧ G' d = some (.lst [.str "InvalidOrder", vs]), ?_, ?_⟩
        · refine ⟨_, rfl, (by show 2 ≤ sizeLine; decide), fun d nd => ⟨d, rfl, Same.refl _, new_same nd _, upd_same⟩⟩
        rintro σ G1 ⟨d, rfl, _, s1, ed⟩
        refine ⟨fun σ G' => ∃ c, σ = [some (.ref B), some vc, some vs, some (.ref l), some (.ref m), some (.ref d), some (.ref c)] ∧ Same G1 G' ∧ G' c = some (.lst [.str code, u]), ?_, ?_⟩
        · rcases hcode with ⟨rfl, rfl, od⟩ | ⟨rfl, rfl, r, nq, bq⟩
          · refine ⟨_, rfl, u, false, rfl, ((od.2.same s1).fx).isB U.sk, fun G2 s2 => ⟨_, rfl, iteF ⟨_, rfl, (by show 2 ≤ sizeLine; decide), fun c nc => ⟨c, rfl, s2.trans (new_same nc _), upd_same⟩⟩⟩⟩
          · refine ⟨_, rfl, vc, true, rfl, (nq.same s1).isB (bq.mono (by decide)), fun G2 s2 => ⟨_, rfl, iteT ⟨_, rfl, d, rfl, s2, s2 _ _ ed⟩⟩⟩
        rintro σ G2 ⟨c, rfl, s2, ec⟩
        have s12 := s1.trans s2
        refine ⟨_, rfl, _, rfl, l, m, _, _, rfl, rfl, s12 _ _ el, s12 _ _ em, (by show 2 + 2 ≤ sizeLine; decide), fun l1 n1 => ?_⟩
        have z1 := new_same n1 (HO.lst ([V.ref r1, V.ref r2] ++ [V.ref r3, V.ref r4]))
        refine ⟨_, rfl, _, rfl, _, rfl, _, rfl, (by show 4 ≤ sizeLine; decide), fun l2 n2 => ?_⟩
        have z2 := new_same n2 (HO.lst [V.ref c, V.ref c, V.ref d, V.ref d])
        have z12 := z1.trans z2
        have zA := s12.trans z12
        generalize hG : upd (upd G2 l1 (HO.lst ([V.ref r1, V.ref r2] ++ [V.ref r3, V.ref r4]))) l2 (HO.lst [V.ref c, V.ref c, V.ref d, V.ref d]) = G3 at z2 z12 zA
        have f1 : G3 l1 = some (HO.lst [V.ref r1, V.ref r2, V.ref r3, V.ref r4]) := z2 _ _ upd_same
        have f2 : G3 l2 = some (HO.lst [V.ref c, V.ref c, V.ref d, V.ref d]) := by rw [← hG]; exact upd_same
        have lk : ∀ {r d : Addr} {c : Str} {z : V}, Vx K S G z → G r = some (.lst [.str c, z]) → G3 d = some (.lst [.str c, z]) → Lk K S 3 G3 (.ref r) (.ref d) := fun v h h' =>
          Lk.lst (n := 2) (zA _ _ h) h' (by show 2 ≤ 60; decide) (.cons (Lk.flat rfl) (.cons ((v.same zA).lk (n := 0)) .nil))
        have ec3 := z12 _ _ ec
        have ed3 := z12 _ _ (s2 _ _ ed)
        refine ⟨_, _, rfl, Lk.lst (n := 3) f1 f2 (by show 4 ≤ 60; decide) (.cons (lk vu e1 ec3) (.cons (lk vu e2 ec3) (.cons (lk z e3 ed3) (.cons (lk z e4 ed3) .nil)))), fun G4 s4 => ?_⟩
        have j4 := j.same (zA.trans s4)
        exact q _ j4.b j4.g j4.t
  clear j hc el t1 t2 em y1 y2 out bad
  rintro σ G ⟨n, rfl, n2, n24, rfl, j, hc, el, t1, t2, em, y1, y2⟩
  have o2e : o2 = .inr (1 :: List.replicate (n - 1) 0) ∧ ((∃ r, o1 = .inr (r :: List.replicate (n - 1) 0) ∧ Nq K G vc r ∧ Bq 21 r) ∨ (o1 = .inl ("InvalidNumber", vc) ∧ Od K S G vc)) := by
    cases hc with
    | bb h z hi => have := hi n rfl; omega
    | nb h b z hi => have := hi n rfl; omega
    | bo h e n2 n24 =>
      have := V.int.inj e
      obtain rfl : n = _ := Int.ofNat.inj this
      exact ⟨rfl, .inr ⟨rfl, h⟩⟩
    | no h b e n2 n24 =>
      have := V.int.inj e
      obtain rfl : n = _ := Int.ofNat.inj this
      exact ⟨rfl, .inl ⟨_, rfl, h, b⟩⟩
  clear hc
  obtain ⟨rfl, ho⟩ := o2e
  obtain ⟨r3, x3, rfl, e3, h3⟩ := y1
  obtain ⟨r4, x4, rfl, e4, h4⟩ := y2
  refine ⟨fun σ G' => σ = [some (.ref B), some vc, some (.int (n : Nat)), some (.ref l), some (.ref m), none, none] ∧ Same G G', ?_, ?_⟩
  · refine ⟨_, rfl, m, _, 0, _, rfl, rfl, SqL.of em, at_of (j := 0) rfl rfl, r3, _, 0, _, rfl, rfl, SqL.of e3, at_of (j := 0) rfl rfl, rfl, _, rfl, iteF ?_⟩
    refine ⟨_, rfl, m, _, 0, _, rfl, rfl, SqL.of em, at_of (j := 0) rfl rfl, r3, _, 1, _, rfl, rfl, SqL.of e3, at_of (j := 1) rfl rfl, _, rfl, n, rfl, n2, n24, fun d G1 xs s1 nd ed nx => ?_⟩
    refine ⟨_, _, _, rfl, h3.same s1, ⟨d, xs, rfl, ed, nx⟩, fun G2 s2' => ⟨_, rfl, iteF ?_⟩⟩
    have s2 := s1.trans s2'
    refine ⟨_, rfl, m, _, 1, _, rfl, rfl, SqL.of (s2 _ _ em), at_of (j := 1) rfl rfl, _, rfl, m, _, 0, _, rfl, rfl, SqL.of (s2 _ _ em), at_of (j := 0) rfl rfl, ?_⟩
    refine ⟨r4, r3, x4, x3, _, _, rfl, rfl, s2 _ _ e4, s2 _ _ e3, h4.st.same s2, h3.st.same s2, fun G3 s3 => ⟨_, rfl, iteF ⟨rfl, s2.trans s3⟩⟩⟩
  rintro σ G1 ⟨rfl, s1⟩
  have j1 := j.same s1
  have el1 := s1 _ _ el
  have t1 := t1.go j.b (Go.same s1)
  have t2 := t2.go j.b (Go.same s1)
  have ho : (∃ r, o1 = .inr (r :: List.replicate (n - 1) 0) ∧ Nq K G1 vc r ∧ Bq 21 r) ∨ (o1 = .inl ("InvalidNumber", vc) ∧ Od K S G1 vc) := ho.imp (fun ⟨r, e, h, b⟩ => ⟨r, e, h.same s1, b⟩) fun ⟨e, h⟩ => ⟨e, h.go j.b (Go.same s1)⟩
  clear j el em e3 h3 e4 h4
  refine ⟨fun σ G => σ = [some (.ref B), some vc, some (.int (n : Nat)), some (.ref l), some (.ref m), none, none] ∧ Jg T B p H G ∧ G l = some (.lst [v1, v2]) ∧ ∃ r, Nq K G vc r ∧ TRS K S G v1 (.inr (r :: List.replicate (n - 1) 0)) ∧ TRS K S G v2 (.inr (r :: List.replicate (n - 1) 0)), ?_, ?_⟩
  · rcases ho with ⟨r, rfl, nq, bq⟩ | ⟨rfl, od⟩
    · refine ⟨_, rfl, vc, true, rfl, nq.isB (bq.mono (by decide)), fun G2 s2 => ⟨_, rfl, iteF ⟨rfl, j1.same s2, s2 _ _ el1, r, nq.same s2, t1.go j1.b (Go.same s2), t2.go j1.b (Go.same s2)⟩⟩⟩
    · obtain ⟨r1, rfl, e1⟩ := t1
      obtain ⟨r2, rfl, e2⟩ := t2
      refine ⟨_, rfl, vc, false, rfl, (od.2.fx).isB U.sk, fun G2 s2 => ⟨_, rfl, iteT ?_⟩⟩
      refine ⟨_, rfl, _, rfl, (by show 2 ≤ sizeLine; decide), fun d1 k1 => ⟨_, rfl, (by show 2 ≤ sizeLine; decide), fun d2 k2 => ⟨(by show 2 ≤ sizeLine; decide), fun d3 k3 => ?_⟩⟩⟩
      have s4 := new_same k1 (HO.lst [.str "InvalidNumber", vc])
      have g1 : upd G2 d1 (HO.lst [.str "InvalidNumber", vc]) d1 = some _ := upd_same
      generalize upd G2 d1 (HO.lst [.str "InvalidNumber", vc]) = G3 at s4 g1 k2 k3 ⊢
      have s5 := new_same k2 (HO.lst [.str "InvalidNumber", vc])
      have g2 : upd G3 d2 (HO.lst [.str "InvalidNumber", vc]) d2 = some _ := upd_same
      generalize upd G3 d2 (HO.lst [.str "InvalidNumber", vc]) = G4 at s5 g2 k3 ⊢
      have s6 := new_same k3 (HO.lst [V.ref d1, V.ref d2])
      have s46 := s2.trans (s4.trans (s5.trans s6))
      have lk : ∀ {r d : Addr}, G1 r = some (.lst [.str "InvalidNumber", vc]) → upd G4 d3 (HO.lst [V.ref d1, V.ref d2]) d = some (.lst [.str "InvalidNumber", vc]) → Lk K S 3 (upd G4 d3 (HO.lst [V.ref d1, V.ref d2])) (.ref r) (.ref d) := fun h h' =>
        Lk.lst (n := 2) (s46 _ _ h) h' (by show 2 ≤ 60; decide) (.cons (Lk.flat rfl) (.cons ((od.1.same s46).lk (n := 0)) .nil))
      refine ⟨_, _, rfl, Lk.lst (n := 3) (s46 _ _ el1) upd_same (by show 2 ≤ 60; decide) (.cons (lk e1 (s6 _ _ (s5 _ _ g1))) (.cons (lk e2 (s6 _ _ g2)) .nil)), fun G5 s7 => ?_⟩
      have j5 := j1.same (s46.trans s7)
      exact q _ j5.b j5.g j5.t
  clear j1 el1 t1 t2 ho
  rintro σ G ⟨rfl, j, el, r, nq, ⟨r1, x1, rfl, e1, h1⟩, ⟨r2, x2, rfl, e2, h2⟩⟩
  refine ⟨_, rfl, l, _, 0, _, rfl, rfl, SqL.of el, at_of (j := 0) rfl rfl, r1, _, 0, _, rfl, rfl, SqL.of e1, at_of (j := 0) rfl rfl, rfl, _, rfl, iteT ?_⟩
  refine ⟨_, rfl, l, _, 0, _, rfl, rfl, SqL.of el, at_of (j := 0) rfl rfl, r1, _, 1, _, rfl, rfl, SqL.of e1, at_of (j := 1) rfl rfl, _, rfl, (by show 1 ≤ sizeLine; decide), fun a na => ⟨(by show 2 ≤ sizeLine; decide), fun t nt => ⟨(by show 1 ≤ sizeLine; decide), fun b nb => ⟨_, rfl, (n : Int), 1, rfl, rfl, b, (n : Int) - 1, [.ref t], rfl, rfl, upd_same, by omega, by omega, (by show 1 * _ ≤ sizeLine; exact Nat.le_of_lt (small1000 (by omega))), fun c nc => ?_⟩⟩⟩⟩
  have rep : (List.replicate ((n : Int) - 1).toNat [V.ref t]).flatten = List.replicate (n - 1) (.ref t) := by
    rw [List.flatten_replicate_singleton]
    congr 1
    omega
  rw [rep]
  have s1 := new_same na (HO.lst [vc])
  have s2 := new_same nt (HO.tup [.int 0, .int 1])
  have s3 := new_same nb (HO.lst [V.ref t])
  have s4 := new_same nc (HO.lst (List.replicate (n - 1) (V.ref t)))
  refine ⟨a, c, _, _, rfl, rfl, s4 _ _ (s3 _ _ (s2 _ _ upd_same)), upd_same, Nat.le_of_lt (small1000 (by rw [List.length_replicate]; show 1 + _ ≤ _; omega)), fun d nd => ?_⟩
  have s5 := new_same nd (HO.lst ([vc] ++ List.replicate (n - 1) (V.ref t)))
  have z0 : Nq K _ (.ref t) 0 := .at (K := K) ((s3.trans (s4.trans s5)) _ _ (show _ = some (rT 0) from upd_same))
  have sA := s1.trans (s2.trans (s3.trans (s4.trans s5)))
  refine ⟨_, _, _, rfl, h1.same sA, ⟨d, _, rfl, upd_same, Nl.cons (nq.same sA) (rep_nl z0 _)⟩, fun G2 s6 => ⟨_, rfl, iteT ?_⟩⟩
  have sB := sA.trans s6
  refine ⟨_, rfl, l, _, 1, _, rfl, rfl, SqL.of (sB _ _ el), at_of (j := 1) rfl rfl, _, rfl, l, _, 0, _, rfl, rfl, SqL.of (sB _ _ el), at_of (j := 0) rfl rfl, ?_⟩
  refine ⟨r2, r1, x2, x1, _, _, rfl, rfl, sB _ _ e2, sB _ _ e1, h2.st.same sB, h1.st.same sB, fun G3 s7 => ?_⟩
  have j3 := j.same (sB.trans s7)
  exact q _ j3.b j3.g j3.t
end
end Kx
end
section
set_option maxHeartbeats 4000000
/-! enumerate over a zip of two lists -/
namespace PySem
open Sem (wp)
open AutoSeq1 (wpAny_loadPart')
/-- a zip with its fields; f0 is what it handed out -/
abbrev ZP (h : Heap) (z TI TO : Addr) (f0 : Value) (f1 : Bool) : Prop :=
  h.get? z = some { cls := .type "zip", dict := none, data := .fields #[f0, .bool f1, .bool false, .ref TI, .ref TO], slots := #[] }
def ZPa (h : Heap) (z TI TO : Addr) : Prop := ∃ f0 f1, ZP h z TI TO f0 f1 ∧ (f0 = .none ∨ ∃ T : Addr, f0 = rawInt T)
section
variable {prog : Program} {w : World} {A : Around} {E : Value → Shared → Prop} {s : Shared}
theorem zpa_free {z TI TO : Addr} {Q : Bool → Shared → Prop} (hz : ZPa s.heap z TI TO) (h1 : ∀ f0 f1, ZP s.heap z TI TO f0 f1 → Q true s) (h2 : ∀ h', ZPa h' z TI TO → Heap.SameBut z s.heap h' → Q false { s with heap := h' }) :
    wpAny (model prog w) A (Builtin.SmallTypes.ownedTupleIsFree (.ref z)) Q E s := by
  obtain ⟨f0, f1, hz, hf⟩ := hz
  rcases hf with rfl | ⟨T, rfl⟩
  · unfold Builtin.SmallTypes.ownedTupleIsFree
    exact wpAny_bind (wpAny_field hz rfl (x := .none) rfl (wpAny_pure (h1 _ _ hz)))
  · cases hT : s.heap.get? T with
    | some oT => exact wpAny_tupleHeld_zip hz hT fun h' hz' sb => h2 h' ⟨_, _, hz', .inr ⟨T, rfl⟩⟩ sb
    | none =>
      unfold Builtin.SmallTypes.ownedTupleIsFree
      refine wpAny_bind (wpAny_field hz rfl (x := rawInt T) rfl ?_)
      show wpAny _ _ (loadIfAlive ((T : Int).toNat) >>= _) _ _ _
      rw [Int.toNat_natCast]
      refine wpAny_bind ?_
      have key : ∀ {R : Option Obj → Shared → Prop}, R none s → wpAny (model prog w) A (loadIfAlive T) R E s := fun {R} h => by
        have h' : R (s.heap.get? T) s := by rw [hT]; exact h
        exact fun _ _ _ => h'
      refine key ?_
      simp only [Option.isNone_none, if_true]
      exact wpAny_pure (h1 _ _ hz)
theorem zpa_next_item {z TI TO i1 i2 l1 l2 : Addr} {k1 k2 : Nat} {xs ys : Array Value} {x y : Value} {Q : Value → Shared → Prop} (D : ZipApart z TI TO i1 i2 l1 l2)
    (hz : ZPa s.heap z TI TO) (hTI : IsPair s.heap TI (.ref i1) (.ref i2)) (hTO : ∃ a b, IsPair s.heap TO a b)
    (h1 : s.heap.IsListIter i1 l1 k1) (h2 : s.heap.IsListIter i2 l2 k2) (hl1 : s.heap.IsList l1 xs) (hl2 : s.heap.IsList l2 ys) (hx : xs[k1]? = some x) (hy : ys[k2]? = some y)
    (hQ : ∀ h', ZPa h' z TI TO → (∃ a b, IsPair h' TO a b) → h'.IsListIter i1 l1 (k1 + 1) → h'.IsListIter i2 l2 (k2 + 1) → IsPair h' s.heap.objs.size x y → h'.objs.size = s.heap.objs.size + 1 →
      (∀ c o, c ≠ z → c ≠ TO → c ≠ i1 → c ≠ i2 → s.heap.get? c = some o → h'.get? c = some o) → Q (.ref s.heap.objs.size) { s with heap := h' }) :
    wpAny (model prog w) A (Builtin.«zip.__next__» ⟨[.ref z], []⟩) (fun fin s' => ∃ v, fin = .done (.ret v) ∧ Q v s') E s := by
  obtain ⟨a, b, hTO⟩ := hTO
  obtain ⟨f0, f1, hz', _⟩ := id hz
  show wpAny _ _ (field (.ref z) 2 >>= _) _ _ _
  refine wpAny_bind (wpAny_field hz' rfl (x := .bool false) rfl ?_)
  show wpAny _ _ (field (.ref z) 3 >>= _) _ _ _
  refine wpAny_bind (wpAny_field hz' rfl (x := .ref TI) rfl ?_)
  refine wpAny_bind (wpAny_seqItems hTI rfl ?_)
  show wpAny _ _ (Builtin.SmallTypes.ownedTupleIsFree (.ref z) >>= _) _ _ _
  refine wpAny_bind (zpa_free hz (fun f0 f1 hz => ?_) (fun h₁ hz₁ hs₁ => ?_))
  · simp only [if_true]
    refine wpAny_bind (wpAny_rule ?_)
    refine wpAny_bind (wpAny_field hz rfl (x := .ref TO) rfl ?_)
    refine wpAny_bind (wpAny_setField_rec hz (by simp) fun h₁ hz₁ hs₁ => ?_)
    replace hz₁ : ZP h₁ z TI TO .ellipsis f1 := hz₁
    refine wpAny_bind ?_
    simp only [List.zipIdx_cons, List.zipIdx_nil, List.forIn_cons, List.forIn_nil]
    refine wpAny_bind (wpAny_bind (wpAny_onRaise ?_))
    show wpAny _ _ (Builtin.SmallTypes.nextOf (.ref i1) >>= _) _ _ _
    refine wpAny_bind (wpAny_nextOf_list_item (h1.extBut hs₁.extBut D.i1z) (hl1.extBut hs₁.extBut D.l1z) hx fun h₂ h1₂ hs₂ => wpAny_pure ?_)
    have hTO₂ : IsPair h₂ TO a b := hs₂.extBut _ _ D.TOi1 (hs₁.extBut _ _ D.TOz hTO)
    refine wpAny_bind (wpAny_seqItems hTO₂ rfl ?_)
    refine wpAny_bind (wpAny_updateSeq_pair hTO₂ fun h₃ hTO₃ hs₃ => ?_)
    replace hTO₃ : IsPair h₃ TO x b := hTO₃
    refine wpAny_bind (wpAny_letGo (wpAny_pure ?_))
    refine wpAny_bind (wpAny_bind (wpAny_onRaise ?_))
    show wpAny _ _ (Builtin.SmallTypes.nextOf (.ref i2) >>= _) _ _ _
    refine wpAny_bind (wpAny_nextOf_list_item (((h2.extBut hs₁.extBut D.i2z).extBut hs₂.extBut D.i12.symm).extBut hs₃.extBut D.TOi2.symm)
      (((hl2.extBut hs₁.extBut D.l2z).extBut hs₂.extBut D.l2i1).extBut hs₃.extBut D.l2TO) hy fun h₄ h2₄ hs₄ => wpAny_pure ?_)
    have hTO₄ : IsPair h₄ TO x b := hs₄.extBut _ _ D.TOi2 hTO₃
    refine wpAny_bind (wpAny_seqItems hTO₄ rfl ?_)
    refine wpAny_bind (wpAny_updateSeq_pair hTO₄ fun h₅ hTO₅ hs₅ => ?_)
    replace hTO₅ : IsPair h₅ TO x y := hTO₅
    refine wpAny_bind (wpAny_letGo (wpAny_pure (wpAny_pure ?_)))
    refine wpAny_bind (wpAny_seqItems hTO₅ rfl ?_)
    refine wpAny_bind (wpAny_newTuple ?_)
    have hsz : h₅.objs.size = s.heap.objs.size := by rw [hs₅.1, hs₄.1, hs₃.1, hs₂.1, hs₁.1]
    have hz₅ : ZP h₅ z TI TO .ellipsis f1 := hs₅.extBut _ _ D.TOz.symm (hs₄.extBut _ _ D.i2z.symm (hs₃.extBut _ _ D.TOz.symm (hs₂.extBut _ _ D.i1z.symm hz₁)))
    have hk₅ : ∀ c o, c ≠ z → c ≠ TO → c ≠ i1 → c ≠ i2 → s.heap.get? c = some o → h₅.get? c = some o := fun c o c1 c2 c3 c4 e =>
      hs₅.extBut _ _ c2 (hs₄.extBut _ _ c4 (hs₃.extBut _ _ c2 (hs₂.extBut _ _ c3 (hs₁.extBut _ _ c1 e))))
    have h1₅ : h₅.IsListIter i1 l1 (k1 + 1) := ((h1₂.extBut hs₃.extBut D.TOi1.symm).extBut hs₄.extBut D.i12).extBut hs₅.extBut D.TOi1.symm
    have h2₅ : h₅.IsListIter i2 l2 (k2 + 1) := h2₄.extBut hs₅.extBut D.TOi2.symm
    have hzlt : z < h₅.objs.size := Heap.lt_size hz₅
    show wpAny _ _ (Builtin.SmallTypes.ownedTupleHandOut (.ref z) (.ref h₅.objs.size) >>= _) _ _ _
    refine wpAny_bind ?_
    unfold Builtin.SmallTypes.ownedTupleHandOut
    have hz₆ : ZP (h₅.push { cls := .type "tuple", data := .seq #[x, y] }) z TI TO .ellipsis f1 := Heap.get?_push_of_some _ hz₅
    refine wpAny_bind (wpAny_setField_rec hz₆ (by simp) fun h₇ hz₇ hs₇ => ?_)
    replace hz₇ : ZP h₇ z TI TO (rawInt h₅.objs.size) f1 := hz₇
    refine wpAny_setField_rec hz₇ (by simp) fun h₈ hz₈ hs₈ => ?_
    replace hz₈ : ZP h₈ z TI TO (rawInt h₅.objs.size) false := hz₈
    have up : ∀ c o, c ≠ z → h₅.get? c = some o → h₈.get? c = some o := fun c o c1 e => hs₈.extBut _ _ c1 (hs₇.extBut _ _ c1 (Heap.get?_push_of_some _ e))
    have hT₈ : IsPair h₈ h₅.objs.size x y := hs₈.extBut _ _ (Nat.ne_of_gt hzlt) (hs₇.extBut _ _ (Nat.ne_of_gt hzlt) (Heap.get?_push_size _ rfl))
    have hz8 : h₈.objs.size = h₅.objs.size + 1 := by rw [hs₈.1, hs₇.1, Heap.size_push]
    rw [hsz] at hz₈ hT₈ hz8
    refine wpAny_pure ⟨_, rfl, ?_⟩
    show Q (.ref h₅.objs.size) _
    rw [hsz]
    exact hQ h₈ ⟨_, _, hz₈, .inr ⟨_, rfl⟩⟩ ⟨_, _, up _ _ D.TOz hTO₅⟩ (h1₅.at fun o e => up _ o D.i1z e) (h2₅.at fun o e => up _ o D.i2z e) hT₈ hz8 fun c o c1 c2 c3 c4 e => up c o c1 (hk₅ c o c1 c2 c3 c4 e)
  · simp only [Bool.false_eq_true, if_false]
    refine wpAny_bind ?_
    rw [← Array.forIn_toList]
    simp only [List.forIn_cons, List.forIn_nil]
    refine wpAny_bind (wpAny_bind (wpAny_holding ?_))
    show wpAny _ _ (Builtin.SmallTypes.nextOf (.ref i1) >>= _) _ _ _
    refine wpAny_bind (wpAny_nextOf_list_item (s := { s with heap := h₁ }) (h1.extBut hs₁.extBut D.i1z) (hl1.extBut hs₁.extBut D.l1z) hx fun h₂ h1₂ hs₂ => wpAny_pure ?_)
    refine wpAny_pure ?_
    refine wpAny_bind (wpAny_bind (wpAny_holding ?_))
    show wpAny _ _ (Builtin.SmallTypes.nextOf (.ref i2) >>= _) _ _ _
    refine wpAny_bind (wpAny_nextOf_list_item (s := { s with heap := h₂ }) ((h2.extBut hs₁.extBut D.i2z).extBut hs₂.extBut D.i12.symm) ((hl2.extBut hs₁.extBut D.l2z).extBut hs₂.extBut D.l2i1) hy fun h₃ h2₃ hs₃ => wpAny_pure ?_)
    refine wpAny_pure (wpAny_pure ?_)
    show wpAny _ _ (newTuple [x, y] >>= _) _ _ _
    refine wpAny_bind (wpAny_newTuple ?_)
    have hsz : h₃.objs.size = s.heap.objs.size := by rw [hs₃.1, hs₂.1, hs₁.1]
    obtain ⟨g0, g1, hz₁', hg⟩ := hz₁
    have hz₃ : ZP h₃ z TI TO g0 g1 := hs₃.extBut _ _ D.i2z.symm (hs₂.extBut _ _ D.i1z.symm hz₁')
    have hk : ∀ c o, c ≠ z → c ≠ i1 → c ≠ i2 → s.heap.get? c = some o → h₃.get? c = some o := fun c o c1 c2 c3 e => hs₃.extBut _ _ c3 (hs₂.extBut _ _ c2 (hs₁.extBut _ _ c1 e))
    have h1₃ : h₃.IsListIter i1 l1 (k1 + 1) := h1₂.extBut hs₃.extBut D.i12
    refine wpAny_pure ⟨_, rfl, ?_⟩
    show Q (.ref h₃.objs.size) _
    have hp : IsPair (h₃.push { cls := .type "tuple", data := .seq #[x, y] }) h₃.objs.size x y := Heap.get?_push_size _ rfl
    have hz4 : (h₃.push { cls := .type "tuple", data := .seq #[x, y] }).objs.size = h₃.objs.size + 1 := Heap.size_push ..
    rw [hsz] at hp hz4 ⊢
    exact hQ _ ⟨_, _, Heap.get?_push_of_some _ hz₃, hg⟩ ⟨a, b, Heap.get?_push_of_some _ (hk _ _ D.TOz D.TOi1 D.TOi2 hTO)⟩ (h1₃.at fun o e => Heap.get?_push_of_some _ e) (h2₃.at fun o e => Heap.get?_push_of_some _ e) hp hz4 fun c o c1 _ c2 c3 e => Heap.get?_push_of_some _ (hk c o c1 c2 c3 e)
theorem zpa_next_end {z TI TO i1 i2 l1 l2 : Addr} {k1 k2 : Nat} {xs ys : Array Value} {Q : Fin → Shared → Prop} (hh : A.handled = none) (D : ZipApart z TI TO i1 i2 l1 l2)
    (hz : ZPa s.heap z TI TO) (hTI : IsPair s.heap TI (.ref i1) (.ref i2)) (hTO : ∃ a b, IsPair s.heap TO a b)
    (h1 : s.heap.IsListIter i1 l1 k1) (h2 : s.heap.IsListIter i2 l2 k2) (hl1 : s.heap.IsList l1 xs) (hl2 : s.heap.IsList l2 ys) (hend : xs[k1]? = none)
    (hE : ∀ h' e, (∀ c o, c ≠ z → c ≠ TO → c ≠ i1 → c ≠ i2 → s.heap.get? c = some o → h'.get? c = some o) → (∃ o, h'.get? e = some o ∧ o.cls = .type "StopIteration") → E (.ref e) { s with heap := h' }) :
    wpAny (model prog w) A (Builtin.«zip.__next__» ⟨[.ref z], []⟩) Q E s := by
  obtain ⟨f0, f1, hz', _⟩ := id hz
  show wpAny _ _ (field (.ref z) 2 >>= _) _ _ _
  refine wpAny_bind (wpAny_field hz' rfl (x := .bool false) rfl ?_)
  show wpAny _ _ (field (.ref z) 3 >>= _) _ _ _
  refine wpAny_bind (wpAny_field hz' rfl (x := .ref TI) rfl ?_)
  refine wpAny_bind (wpAny_seqItems hTI rfl ?_)
  show wpAny _ _ (Builtin.SmallTypes.ownedTupleIsFree (.ref z) >>= _) _ _ _
  refine wpAny_bind (zpa_free hz (fun f0 f1 hz => ?_) (fun h₁ hz₁ hs₁ => ?_))
  · simp only [if_true]
    refine wpAny_bind (wpAny_rule ?_)
    refine wpAny_bind (wpAny_field hz rfl (x := .ref TO) rfl ?_)
    refine wpAny_bind (wpAny_setField_rec hz (by simp) fun h₁ hz₁ hs₁ => ?_)
    replace hz₁ : ZP h₁ z TI TO .ellipsis f1 := hz₁
    refine wpAny_bind ?_
    simp only [List.zipIdx_cons, List.zipIdx_nil, List.forIn_cons, List.forIn_nil]
    refine wpAny_bind (wpAny_bind (wpAny_onRaise ?_))
    show wpAny _ _ (Builtin.SmallTypes.nextOf (.ref i1) >>= _) _ _ _
    refine wpAny_bind (wpAny_nextOf_list_end hh (h1.extBut hs₁.extBut D.i1z) (hl1.extBut hs₁.extBut D.l1z) hend fun h₂ e hs₂ he => ?_)
    obtain ⟨oe, hoe, hce⟩ := he
    have hz₂ : ZP h₂ z TI TO .ellipsis f1 := hs₂ _ _ D.i1z.symm hz₁
    have hez : e ≠ z := fun x => by subst x; rw [hz₂] at hoe; cases hoe; simp at hce
    refine wpAny_setField_rec hz₂ (by simp) fun h₃ _ hs₃ => hE h₃ e (fun c o c1 _ c3 _ x => hs₃.extBut _ _ c1 (hs₂ _ _ c3 (hs₁.extBut _ _ c1 x))) ⟨oe, hs₃.extBut _ _ hez hoe, hce⟩
  · simp only [Bool.false_eq_true, if_false]
    refine wpAny_bind ?_
    rw [← Array.forIn_toList]
    simp only [List.forIn_cons, List.forIn_nil]
    refine wpAny_bind (wpAny_bind (wpAny_holding ?_))
    show wpAny _ _ (Builtin.SmallTypes.nextOf (.ref i1) >>= _) _ _ _
    refine wpAny_bind (wpAny_nextOf_list_end (s := { s with heap := h₁ }) hh (h1.extBut hs₁.extBut D.i1z) (hl1.extBut hs₁.extBut D.l1z) hend fun h₂ e hs₂ he => ?_)
    exact hE h₂ e (fun c o c1 _ c2 _ x => hs₂ _ _ c2 (hs₁.extBut _ _ c1 x)) he
theorem enumz_next_item {e z TI TO i1 i2 l1 l2 : Addr} {k : Nat} {xs ys : Array Value} {x y : Value} {i : Nat} {old : Value} {Q : Value → Shared → Prop} (D : ZipApart z TI TO i1 i2 l1 l2) (he : IsEnum s.heap e z i old)
    (ez : e ≠ z) (eTO : e ≠ TO) (e1 : e ≠ i1) (e2 : e ≠ i2) (eTI : e ≠ TI)
    (hz : ZPa s.heap z TI TO) (hTI : IsPair s.heap TI (.ref i1) (.ref i2)) (hTO : ∃ a b, IsPair s.heap TO a b)
    (h1 : s.heap.IsListIter i1 l1 k) (h2 : s.heap.IsListIter i2 l2 k) (hl1 : s.heap.IsList l1 xs) (hl2 : s.heap.IsList l2 ys) (hx : xs[k]? = some x) (hy : ys[k]? = some y)
    (hQ : ∀ h' tk it, IsEnumOut h' e z ((i : Int) + 1) it (s.heap.objs.size + 1) → ZPa h' z TI TO → (∃ a b, IsPair h' TO a b) → h'.IsListIter i1 l1 (k + 1) → h'.IsListIter i2 l2 (k + 1) → IsPair h' s.heap.objs.size x y →
      h'.get? (s.heap.objs.size + 1) = some { cls := .type "tuple", data := .seq #[.int i tk, .ref s.heap.objs.size] } → h'.objs.size = s.heap.objs.size + 2 →
      (∀ c o, c ≠ e → c ≠ z → c ≠ TO → c ≠ i1 → c ≠ i2 → s.heap.get? c = some o → h'.get? c = some o) → Q (.ref (s.heap.objs.size + 1)) { s with heap := h', toks := tk + 1 }) :
    wpAny (model prog w) A (Builtin.«enumerate.__next__» ⟨[.ref e], []⟩) (fun fin s' => ∃ v, fin = .done (.ret v) ∧ Q v s') E s := by
  have hT : s.TypeIs (.ref z) "zip" := by obtain ⟨f0, f1, h, _⟩ := hz; exact ⟨_, h, rfl⟩
  show wpAny _ _ (field (.ref e) 2 >>= _) _ _ _
  refine wpAny_bind (wpAny_field he rfl (x := .ref z) rfl ?_)
  refine wpAny_bind ?_
  unfold Builtin.SmallTypes.nextOf
  refine wpAny_bind (wpAny_callSpecial?_slot (name := Str.ofString "__next__") hT F.slot_zip_next
    (wpAny_call_entry F.slot_zip_next hT F.entry_zip_next (zpa_next_item D hz hTI hTO h1 h2 hl1 hl2 hx hy fun h₁ z₁ TO₁ h1₁ h2₁ p₁ sz₁ k₁ => wpAny_pure ?_) (F.args_zip_next_1 _)))
  have el : e < s.heap.objs.size := Heap.lt_size he
  have he₁ : IsEnum h₁ e z i old := k₁ _ _ ez eTO e1 e2 he
  have fin := hQ
  obtain ⟨hp, g, d, tk, os⟩ := s
  show wpAny _ _ (field (.ref e) 3 >>= _) _ _ ⟨h₁, g, d, tk, os⟩
  refine wpAny_bind (wpAny_field he₁ rfl (x := rawInt i) rfl ?_)
  show wpAny _ _ (field (.ref e) 4 >>= _) _ _ ⟨h₁, g, d, tk, os⟩
  refine wpAny_bind (wpAny_field he₁ rfl (x := .none) rfl ?_)
  show wpAny _ _ (mkInt i >>= _) _ _ ⟨h₁, g, d, tk, os⟩
  refine wpAny_bind (wpAny_mkInt ?_)
  show wpAny _ _ (setField (.ref e) 3 (rawInt ((i : Int) + 1)) >>= _) _ _ ⟨h₁, g, d, tk + 1, os⟩
  refine wpAny_bind (wpAny_setField_rec he₁ (by simp) fun h₂ he₂ hs₂ => ?_)
  replace hs₂ : Heap.SameBut e h₁ h₂ := hs₂
  replace he₂ : IsEnum h₂ e z ((i : Int) + 1) old := he₂
  show wpAny _ _ (setField (.ref e) 4 .none >>= _) _ _ ⟨h₂, g, d, tk + 1, os⟩
  refine wpAny_bind (wpAny_setField_rec he₂ (by simp) fun h₃ he₃ hs₃ => ?_)
  replace hs₃ : Heap.SameBut e h₂ h₃ := hs₃
  replace he₃ : IsEnum h₃ e z ((i : Int) + 1) old := he₃
  show wpAny _ _ (newTuple [.int i tk, .ref hp.objs.size] >>= _) _ _ ⟨h₃, g, d, tk + 1, os⟩
  refine wpAny_bind (wpAny_newTuple ?_)
  have hsz : h₃.objs.size = hp.objs.size + 1 := by rw [hs₃.1, hs₂.1]; exact sz₁
  have he₄ : IsEnum (h₃.push { cls := .type "tuple", data := .seq #[.int i tk, .ref hp.objs.size] }) e z ((i : Int) + 1) old := Heap.get?_push_of_some _ he₃
  have ht₄ : (h₃.push { cls := .type "tuple", data := .seq #[.int i tk, .ref hp.objs.size] }).get? (hp.objs.size + 1) = some { cls := .type "tuple", data := .seq #[.int i tk, .ref hp.objs.size] } := by rw [← hsz]; exact Heap.get?_push_size _ rfl
  have hz₄ : (h₃.push { cls := .type "tuple", data := .seq #[.int i tk, .ref hp.objs.size] }).objs.size = hp.objs.size + 2 := by rw [Heap.size_push, hsz]
  have hk₄ : ∀ b o, b ≠ e → h₁.get? b = some o → (h₃.push { cls := .type "tuple", data := .seq #[.int i tk, .ref hp.objs.size] }).get? b = some o := fun b o hbe hb => Heap.get?_push_of_some _ (hs₃.extBut b o hbe (hs₂.extBut b o hbe hb))
  generalize h₃.push { cls := .type "tuple", data := .seq #[.int i tk, .ref hp.objs.size] } = h₄ at he₄ ht₄ hz₄ hk₄
  show wpAny _ _ (Builtin.SmallTypes.ownedTupleIsFree (.ref e) >>= _) _ _ ⟨h₄, g, d, tk + 1, os⟩
  rw [hsz]
  clear he₃ hs₃ he₂ hs₂ hsz
  refine wpAny_bind ?_
  unfold Builtin.SmallTypes.ownedTupleIsFree
  refine wpAny_bind (wpAny_field he₄ rfl (x := .none) rfl (wpAny_pure ?_))
  simp only [if_true]
  refine wpAny_bind (wpAny_rule ?_)
  refine wpAny_bind (wpAny_field he₄ rfl (x := old) rfl ?_)
  refine wpAny_bind (wpAny_setField_rec he₄ (by simp) fun h₅ he₅ hs₅ => ?_)
  replace hs₅ : Heap.SameBut e h₄ h₅ := hs₅
  replace he₅ : IsEnum h₅ e z ((i : Int) + 1) (.ref hp.objs.size) := he₅
  show wpAny _ _ (Builtin.SmallTypes.ownedTupleHandOut (.ref e) (.ref (hp.objs.size + 1)) >>= _) _ _ ⟨h₅, g, d, tk + 1, os⟩
  refine wpAny_bind ?_
  unfold Builtin.SmallTypes.ownedTupleHandOut
  refine wpAny_bind (wpAny_setField_rec he₅ (by simp) fun h₆ he₆ hs₆ => ?_)
  replace hs₆ : Heap.SameBut e h₅ h₆ := hs₆
  replace he₆ : IsEnumOut h₆ e z ((i : Int) + 1) (.ref hp.objs.size) (hp.objs.size + 1) := he₆
  refine wpAny_setField_rec he₆ (by simp) fun h₇ he₇ hs₇ => ?_
  replace hs₇ : Heap.SameBut e h₆ h₇ := hs₇
  replace he₇ : IsEnumOut h₇ e z ((i : Int) + 1) (.ref hp.objs.size) (hp.objs.size + 1) := he₇
  have up : ∀ b o, b ≠ e → h₄.get? b = some o → h₇.get? b = some o := fun b o n h => hs₇.extBut _ _ n (hs₆.extBut _ _ n (hs₅.extBut _ _ n h))
  have up1 : ∀ b o, b ≠ e → h₁.get? b = some o → h₇.get? b = some o := fun b o n h => up b o n (hk₄ b o n h)
  refine wpAny_bind (wpAny_letGo (wpAny_pure ⟨_, rfl, ?_⟩))
  have el : e < hp.objs.size := el
  obtain ⟨g0, g1, gz, gf⟩ := z₁
  obtain ⟨a', b', hTO₁⟩ := TO₁
  exact fin h₇ tk _ he₇ ⟨g0, g1, up1 _ _ ez.symm gz, gf⟩ ⟨a', b', up1 _ _ eTO.symm hTO₁⟩ (h1₁.at fun o q => up1 _ _ e1.symm q) (h2₁.at fun o q => up1 _ _ e2.symm q) (up1 _ _ (Nat.ne_of_gt el) p₁)
    (up _ _ (Nat.ne_of_gt (Nat.lt_succ_of_lt el)) ht₄) (by rw [hs₇.1, hs₆.1, hs₅.1]; exact hz₄) fun c o n1 n2 n3 n4 n5 q => up1 _ _ n1 (k₁ c o n2 n3 n4 n5 q)
end
end PySem
end
section
set_option maxHeartbeats 4000000
namespace PySem
open Sem (wp)
open AutoSeq1 (wpAny_loadPart')
section
variable {prog : Program} {w : World} {A : Around} {E : Value → Shared → Prop} {s : Shared}
theorem pyNext_enumz_item {e z TI TO i1 i2 l1 l2 : Addr} {k : Nat} {xs ys : Array Value} {x y : Value} {i : Nat} {old : Value} {Q : Option Value → Shared → Prop} (D : ZipApart z TI TO i1 i2 l1 l2) (he : IsEnum s.heap e z i old)
    (ez : e ≠ z) (eTO : e ≠ TO) (e1 : e ≠ i1) (e2 : e ≠ i2) (eTI : e ≠ TI)
    (hz : ZPa s.heap z TI TO) (hTI : IsPair s.heap TI (.ref i1) (.ref i2)) (hTO : ∃ a b, IsPair s.heap TO a b)
    (h1 : s.heap.IsListIter i1 l1 k) (h2 : s.heap.IsListIter i2 l2 k) (hl1 : s.heap.IsList l1 xs) (hl2 : s.heap.IsList l2 ys) (hx : xs[k]? = some x) (hy : ys[k]? = some y)
    (hQ : ∀ h' tk it, IsEnumOut h' e z ((i : Int) + 1) it (s.heap.objs.size + 1) → ZPa h' z TI TO → (∃ a b, IsPair h' TO a b) → h'.IsListIter i1 l1 (k + 1) → h'.IsListIter i2 l2 (k + 1) → IsPair h' s.heap.objs.size x y →
      h'.get? (s.heap.objs.size + 1) = some { cls := .type "tuple", data := .seq #[.int i tk, .ref s.heap.objs.size] } → h'.objs.size = s.heap.objs.size + 2 →
      (∀ c o, c ≠ e → c ≠ z → c ≠ TO → c ≠ i1 → c ≠ i2 → s.heap.get? c = some o → h'.get? c = some o) → Q (some (.ref (s.heap.objs.size + 1))) { s with heap := h', toks := tk + 1 }) :
    wpAny (model prog w) A (pyNext (.ref e)) Q E s := by
  have hT : s.TypeIs (.ref e) "enumerate" := ⟨_, he, rfl⟩
  unfold pyNext
  exact wpAny_bind (wpAny_attempt (wpAny_callSpecial?_slot (name := Str.ofString "__next__") hT F.slot_enumerate_next
    (wpAny_call_entry F.slot_enumerate_next hT F.entry_enumerate_next
      (enumz_next_item D he ez eTO e1 e2 eTI hz hTI hTO h1 h2 hl1 hl2 hx hy fun h' tk it a1 a2 a3 a4 a5 a6 a7 a8 a9 => wpAny_pure (hQ h' tk it a1 a2 a3 a4 a5 a6 a7 a8 a9)) (F.args_enumerate_next_1 _))))
theorem pyNext_enumz_end {e z TI TO i1 i2 l1 l2 : Addr} {k : Nat} {xs ys : Array Value} {i : Int} {old : Value} {Q : Option Value → Shared → Prop} (hh : A.handled = none) (D : ZipApart z TI TO i1 i2 l1 l2) (he : IsEnum s.heap e z i old)
    (hz : ZPa s.heap z TI TO) (hTI : IsPair s.heap TI (.ref i1) (.ref i2)) (hTO : ∃ a b, IsPair s.heap TO a b)
    (h1 : s.heap.IsListIter i1 l1 k) (h2 : s.heap.IsListIter i2 l2 k) (hl1 : s.heap.IsList l1 xs) (hl2 : s.heap.IsList l2 ys) (hend : xs[k]? = none)
    (hQ : ∀ h', (∀ c o, c ≠ z → c ≠ TO → c ≠ i1 → c ≠ i2 → s.heap.get? c = some o → h'.get? c = some o) → Q none { s with heap := h' }) :
    wpAny (model prog w) A (pyNext (.ref e)) Q E s := by
  have hT : s.TypeIs (.ref e) "enumerate" := ⟨_, he, rfl⟩
  have hTz : s.TypeIs (.ref z) "zip" := by obtain ⟨f0, f1, h, _⟩ := hz; exact ⟨_, h, rfl⟩
  unfold pyNext
  refine wpAny_bind (wpAny_attempt (wpAny_callSpecial?_slot (name := Str.ofString "__next__") hT F.slot_enumerate_next
    (wpAny_call_entry F.slot_enumerate_next hT F.entry_enumerate_next ?_ (F.args_enumerate_next_1 _))))
  show wpAny _ _ (field (.ref e) 2 >>= _) _ _ _
  refine wpAny_bind (wpAny_field he rfl (x := .ref z) rfl ?_)
  refine wpAny_bind ?_
  unfold Builtin.SmallTypes.nextOf
  refine wpAny_bind (wpAny_callSpecial?_slot (name := Str.ofString "__next__") hTz F.slot_zip_next
    (wpAny_call_entry F.slot_zip_next hTz F.entry_zip_next (zpa_next_end hh D hz hTI hTO h1 h2 hl1 hl2 hend fun h' x hk hx' => ?_) (F.args_zip_next_1 _)))
  obtain ⟨o, ho, hc⟩ := hx'
  refine wpAny_bind (wpAny_isInstance (T := "StopIteration") (b := true) ⟨o, ho, hc⟩ isSubtype_stop ?_)
  exact wpAny_pure (hQ _ hk)
theorem meets_enumerate_newZ (z TI TO : Addr) :
    Meets (Builtin.«enumerate.__new__» ⟨[.type "enumerate", .ref z], []⟩) (fun _ R s => IsZip s.heap z TI TO .none ∧
      R (.ok (.ret (.ref s.heap.objs.size)))
        { s with heap := s.heap.push { cls := .type "enumerate", data := .fields #[.none, .bool false, .ref z, rawInt 0, .none, .none] } }) :=
  .of_wp fun prog w A R s h => by
    obtain ⟨hp, g, d, tk, os⟩ := s; obtain ⟨hl, h⟩ := h
    have hsub := sub_enumerate
    wp_walk using wpAny_loadPart' hl
    refine wpAny_stack_any fun st => wpAny_pure ?_
    split
    · rename_i c _ _ _ _ _
      cases (c == Value.type "enumerate")
      · wp_walk using wpAny_loadPart' hl, wpAny_pyIter_zip hl
        exact ⟨_, rfl, h⟩
      · wp_walk using wpAny_loadPart' hl, wpAny_pyIter_zip hl
        exact ⟨_, rfl, h⟩
    · wp_walk using wpAny_loadPart' hl, wpAny_pyIter_zip hl
      exact ⟨_, rfl, h⟩
theorem call_enumerate_zip {z TI TO : Addr} {Q : Value → Shared → Prop} (hL : IsZip s.heap z TI TO .none)
    (h : ∀ h', IsEnum h' s.heap.objs.size z 0 .none → h'.objs.size = s.heap.objs.size + 1 →
      (∀ b o, s.heap.get? b = some o → h'.get? b = some o) → Q (.ref s.heap.objs.size) { s with heap := h' }) :
    wpAny (model prog w) A (call (.type "enumerate") [.ref z]) Q E s := by
  refine callType_new F.called_enumerate (by decide) (F.typeCall_enumerate_1 _) (F.newCall_enumerate_1 _) (fun obj => F.args_object_init_2 obj _) F.entry_enumerate_new
    (meets_enumerate_newZ z TI TO) ⟨hL, ?_⟩
  have he : IsEnum (s.heap.push { cls := .type "enumerate", data := .fields #[.none, .bool false, .ref z, rawInt 0, .none, .none] }) s.heap.objs.size z 0 .none := Heap.get?_push_size _ rfl
  exact ⟨⟨_, he, rfl⟩, h _ he (Heap.size_push ..) fun b o x => Heap.get?_push_of_some _ x⟩
end
end PySem
namespace L2
open PySem PySem.Spec PyProof.Rows RZ
theorem get?_push_back {h : Heap} {a : Addr} {o o' : Obj} (e : (h.push o).get? a = some o') (n : a ≠ h.objs.size) : h.get? a = some o' := by
  obtain ⟨e1, e2⟩ := Heap.get?_some_iff.mp e
  refine Heap.get?_some_iff.mpr ⟨?_, e2⟩
  cases h; simpa [Heap.push, Array.getElem?_push, n] using e1
/-- the lists at a and b as they stand at each turn, the items in a new pair, and this with the index in another one -/
def Iez (K : PySem.W.Frag) (a b : Addr) : It :=
  ⟨fun i H => ∃ (xs ys : List V) (x y : V), SqL K H a xs ∧ SqL K H b ys ∧ xs[i]? = some x ∧ ys[i]? = some y,
    fun i H v H' => ∃ T U x y, v = .ref U ∧ H T = none ∧ U ≠ T ∧ H U = none ∧ H' = upd (upd H T (.tup [x, y])) U (.tup [.int (i : Nat), .ref T]) ∧ (∀ xs, SqL K H a xs → xs[i]? = some x) ∧ ∀ ys, SqL K H b ys → ys[i]? = some y,
    fun i H => ∃ xs : List V, SqL K H a xs ∧ (∃ ys, SqL K H b ys) ∧ xs.length ≤ i⟩
theorem turn_enumz {P : Program} {w : World} {K : PySem.W.Frag} {elts : List Expr} {kk : Nat} {tpos : Pos} {a b e z TI TO i1 i2 : Addr} (D : ZipApart z TI TO i1 i2 a b) (ez : e ≠ z) (eTO : e ≠ TO) (e1 : e ≠ i1) (e2 : e ≠ i2) (eTI : e ≠ TI) :
    Turn P w K (.Tuple elts kk tpos) (Iez K a b) [e, z, TI, TO, i1, i2] e (fun i h => (∃ old, IsEnum h e z ((i : Nat) : Int) old) ∧ ZPa h z TI TO ∧ IsPair h TI (.ref i1) (.ref i2) ∧ (∃ x y, IsPair h TO x y) ∧ h.IsListIter i1 a i ∧ h.IsListIter i2 b i) where
  mem := by simp
  obj := fun i h st c hc => by
    obtain ⟨⟨old, he⟩, ⟨f0, f1, hz, _⟩, hTI, ⟨x, y, hTO⟩, ⟨o1, q1, _, d1⟩, ⟨o2, q2, _, d2⟩⟩ := st
    have e' : c = e ∨ c = z ∨ c = TI ∨ c = TO ∨ c = i1 ∨ c = i2 := by simpa using hc
    rcases e' with q | q | q | q | q | q
    · rw [q]; exact ⟨_, he, fun v q => nomatch q⟩
    · rw [q]; exact ⟨_, hz, fun v q => nomatch q⟩
    · rw [q]; exact ⟨_, hTI, fun v q => nomatch q⟩
    · rw [q]; exact ⟨_, hTO, fun v q => nomatch q⟩
    · rw [q]; exact ⟨o1, q1, fun v q => by rw [d1] at q; cases q⟩
    · rw [q]; exact ⟨o2, q2, fun v q => by rw [d2] at q; cases q⟩
  keep := fun i h h' st k => by
    obtain ⟨⟨old, he⟩, ⟨f0, f1, hz, hf⟩, hTI, ⟨x, y, hTO⟩, h1, h2⟩ := st
    exact ⟨⟨old, k e (by simp) _ he⟩, ⟨f0, f1, k z (by simp) _ hz, hf⟩, k TI (by simp) _ hTI, ⟨x, y, k TO (by simp) _ hTO⟩, h1.at fun o q => k i1 (by simp) o q, h2.at fun o q => k i2 (by simp) o q⟩
  item := by
    intro X hP hw hK hc i pins s σ H E I hf st hg
    subst hP hw hK
    obtain ⟨⟨old, he⟩, hz, hTI, hTO, h1, h2⟩ := st
    obtain ⟨xs, ys, x, y, hqx, hqy, hx, hy⟩ := hg
    obtain ⟨its, rv, p, _⟩ := I.list hqx
    obtain ⟨its2, rv2, p2, _⟩ := I.list hqy
    obtain ⟨u, hu, ru⟩ := rv.get hx
    obtain ⟨u2, hu2, ru2⟩ := rv2.get hy
    have hel : e < s.heap.objs.size := Heap.lt_size he
    refine pyNext_enumz_item D he ez eTO e1 e2 eTI hz hTI hTO h1 h2 p.isList p2.isList (x := u) (y := u2) (by simpa using hu) (by simpa using hu2) fun h' tk it ho hz' TO' h1' h2' hT hU hsz hk => ?_
    refine ⟨_, rfl, wpAny_letOwnedTupleGo_enum (s := { s with heap := h', toks := tk + 1 }) ho fun h'' he' sb => ?_⟩
    have hT2 : h''.get? s.heap.objs.size = some { cls := .type "tuple", data := .seq #[u, u2] } := (sb.2 _ (Nat.ne_of_gt hel)).trans hT
    have hU2 : h''.get? (s.heap.objs.size + 1) = some { cls := .type "tuple", data := .seq #[.int i tk, .ref s.heap.objs.size] } := (sb.2 _ (Nat.ne_of_gt (Nat.lt_succ_of_lt hel))).trans hU
    have newT : ObjOk X.prog X.w (upd H s.heap.objs.size (.tup [x, y])) h'' s.heap.objs.size (.tup [x, y]) :=
      ⟨by show 2 ≤ sizeLine; decide, [u, u2], .cons ru (.cons ru2 .nil), ⟨_, hT2, rfl, _, rfl⟩⟩
    have kk : ∀ c o, c ∉ [e, z, TI, TO, i1, i2] → s.heap.get? c = some o → h''.get? c = some o := fun c o hb q =>
      (sb.2 c (fun q' => hb (by simp [q']))).trans (hk c o (fun q' => hb (by simp [q'])) (fun q' => hb (by simp [q'])) (fun q' => hb (by simp [q'])) (fun q' => hb (by simp [q'])) (fun q' => hb (by simp [q'])) q)
    have lt : ∀ c ∈ [e, z, TI, TO, i1, i2], c < s.heap.objs.size := fun c hcm => by
      have e' : c = e ∨ c = z ∨ c = TI ∨ c = TO ∨ c = i1 ∨ c = i2 := by simpa using hcm
      rcases e' with q | q | q | q | q | q
      · rw [q]; exact hel
      · rw [q]; obtain ⟨_, _, q, _⟩ := hz; exact Heap.lt_size q
      · rw [q]; exact Heap.lt_size hTI
      · rw [q]; obtain ⟨_, _, q⟩ := hTO; exact Heap.lt_size q
      · rw [q]; obtain ⟨_, q, _⟩ := h1; exact Heap.lt_size q
      · rw [q]; obtain ⟨_, q, _⟩ := h2; exact Heap.lt_size q
    let hp : Heap := s.heap.push { cls := .type "tuple", data := .seq #[u, u2] }
    have hpT : hp.get? s.heap.objs.size = some { cls := .type "tuple", data := .seq #[u, u2] } := Heap.get?_push_size _ rfl
    have hpz : hp.objs.size = s.heap.objs.size + 1 := Heap.size_push ..
    have newT' : ObjOk X.prog X.w (upd H s.heap.objs.size (.tup [x, y])) hp s.heap.objs.size (.tup [x, y]) :=
      ⟨by show 2 ≤ sizeLine; decide, [u, u2], .cons ru (.cons ru2 .nil), ⟨_, hpT, rfl, _, rfl⟩⟩
    have I1 : Inv X pins σ (upd H s.heap.objs.size (.tup [x, y])) { s with heap := hp, toks := s.toks } :=
      I.turnedNew (t' := s.toks) (ch := []) (fun c o _ q => Heap.get?_push_of_some _ q) (fun b hb => by simp at hb) (Nat.le_refl _) newT'
    have hf1 : ∀ b ∈ [e, z, TI, TO, i1, i2], FpOk X pins (upd H s.heap.objs.size (.tup [x, y])) b := fun b hb => by
      obtain ⟨q1, q2⟩ := hf b hb
      exact ⟨by rw [upd_ne (Nat.ne_of_lt (lt b hb))]; exact q1, q2⟩
    have kk1 : ∀ c o, c ∉ [e, z, TI, TO, i1, i2] → hp.get? c = some o → h''.get? c = some o := fun c o hb q => by
      rcases Nat.lt_or_ge c s.heap.objs.size with lc | lc
      · refine kk c o hb ?_
        exact get?_push_back q (Nat.ne_of_lt lc)
      · have : c < hp.objs.size := Heap.lt_size q
        obtain rfl : c = s.heap.objs.size := Nat.le_antisymm (Nat.le_of_lt_succ (by rw [hpz] at this; exact this)) lc
        rw [hpT] at q
        rw [hT2]
        exact q
    have I2 : Inv X pins σ (upd (upd H s.heap.objs.size (.tup [x, y])) (s.heap.objs.size + 1) (.tup [.int (i : Nat), .ref s.heap.objs.size])) { s with heap := h'', toks := tk + 1 } :=
      I1.turnedNew (t' := tk + 1) (ch := [e, z, TI, TO, i1, i2]) kk1 hf1 (by show hp.objs.size ≤ _; omega)
        ⟨by show 2 ≤ sizeLine; decide, [.int i tk, .ref s.heap.objs.size], .cons ⟨_, rfl⟩ (.cons rfl .nil), ⟨_, hU2, rfl, _, rfl⟩⟩
    refine ⟨.ref (s.heap.objs.size + 1), _, I2, rfl, ⟨_, _, x, y, rfl, I.hok.fresh (Nat.le_refl _), Nat.succ_ne_self _, I.hok.fresh (Nat.le_succ _), rfl, fun l hl => by rw [I.list_inj hl hqx]; exact hx, fun l hl => by rw [I.list_inj hl hqy]; exact hy⟩, ⟨⟨it, ?_⟩, ?_, ?_, ?_, ?_, ?_⟩, fun c hcm => ?_⟩
    · have e1' : ((i + 1 : Nat) : Int) = (i : Int) + 1 := by omega
      rw [e1']; exact he'
    · obtain ⟨f0, f1, q, qf⟩ := hz'
      exact ⟨f0, f1, (sb.2 _ ez.symm).trans q, qf⟩
    · exact (sb.2 _ eTI.symm).trans (hk _ _ eTI.symm D.TIz D.TITO D.TIi1 D.TIi2 hTI)
    · obtain ⟨a', b', q⟩ := TO'
      exact ⟨a', b', (sb.2 _ eTO.symm).trans q⟩
    · exact h1'.at fun o q => (sb.2 _ e1.symm).trans q
    · exact h2'.at fun o q => (sb.2 _ e2.symm).trans q
    · have := lt c hcm
      rw [upd_ne (Nat.ne_of_lt (Nat.lt_succ_of_lt this)), upd_ne (Nat.ne_of_lt this)]
      exact (hf c hcm).1
  done := by
    intro X hP hw hK hc i pins s σ H E I hf st hg
    subst hP hw hK
    obtain ⟨⟨old, he⟩, hz, hTI, hTO, h1, h2⟩ := st
    obtain ⟨xs, hqx, ⟨ys, hqy⟩, hend⟩ := hg
    obtain ⟨its, rv, p, _⟩ := I.list hqx
    obtain ⟨its2, rv2, p2, _⟩ := I.list hqy
    have l1 := rv.length
    have he' : its.toArray[i]? = none := by simp; omega
    exact pyNext_enumz_end (I.ok.hd hc) D he hz hTI hTO h1 h2 p.isList p2.isList he' fun h' hk => ⟨rfl, I.turnedL (t' := s.toks) (ch := [e, z, TI, TO, i1, i2]) (fun c o hb q =>
      hk c o (fun q' => hb (by simp [q'])) (fun q' => hb (by simp [q'])) (fun q' => hb (by simp [q'])) (fun q' => hb (by simp [q'])) q) hf⟩
  self := fun A i s Q E st h => let ⟨⟨_, he⟩, _⟩ := st; wpAny_pyIter_enum he h
/-- enumerate(zip(x, y)) of two lists -/
def iEnZ (K : PySem.W.Frag) (ta : TA) : TI := fun σ H R => ta σ H fun vs H1 => ∃ a b xs ys, vs = [.ref a, .ref b] ∧ SqL K H1 a xs ∧ SqL K H1 b ys ∧ R (Iez K a b) H1
theorem pi_enumzip {X : Cx} {e e2 : Expr} {ta : TA} {p pos p2 pos2 tpos : Pos} {elts : List Expr} {kk : Nat} (hg : Gl X "enumerate") (hm : X.mg "enumerate" = none) (hg2 : Gl X "zip") (hm2 : X.mg "zip" = none) (ha : PA X [e, e2] ta)
    (hs : starEach [e, e2] X.env = (false, eval e X.env) :: starEach [e2] X.env := by rfl) (hpl : (backTo pos2 (starEach [e2] X.env)).any (·.1) = false := by rfl) (hz : starEach [.Call (.Name "zip" p2) [e, e2] [] pos2] X.env = [(false, eval (.Call (.Name "zip" p2) [e, e2] [] pos2) X.env)] := by rfl) :
    PI X (.Tuple elts kk tpos) (.Call (.Name "enumerate" p) [.Call (.Name "zip" p2) [e, e2] [] pos2] [] pos) (iEnZ X.K ta) := by
  refine ⟨fun pins s σ H R I h => ?_⟩
  refine Call_ (ld_blt I hg hm boot_enumerate (PyProof.Rows.callWith_type1 ?_ hz rfl))
  rw [hz]
  show wpAny _ _ (spliced [(false, eval (.Call (.Name "zip" p2) [e, e2] [] pos2) X.env)]) _ _ _
  refine Calls.spliced_cons ?_
  refine Call_ (ld_blt I hg2 hm2 PyProof.Rows.boot_zip (PyProof.Rows.callWith_type1 (thn (ha.run pos2 pins s σ H _ I h) fun us s1 ⟨vs, H1, I1, r1, q1⟩ => ?_) hs hpl))
  obtain ⟨a, b, xs, ys, ex, hqx, hqy, q⟩ := q1
  subst ex
  cases r1 with
  | cons r rr =>
    cases rr with
    | cons r' rr =>
      cases rr
      cases r
      cases r'
      obtain ⟨its, rv, p1, _⟩ := I1.list hqx
      obtain ⟨its2, rv2, p2', _⟩ := I1.list hqy
      have la : a < s1.heap.objs.size := p1.lt
      have lb : b < s1.heap.objs.size := p2'.lt
      refine call_zip_2 p1.isList p2'.isList fun h' hzz hTI hTO h1 h2 hsz hk => ?_
      refine Calls.spliced_nil ?_
      refine call_enumerate_zip (s := { s1 with heap := h' }) hzz fun h'' he hsz' hk' => wpAny_pyIter_enum he ?_
      have hk2 : ∀ c o, s1.heap.get? c = some o → h''.get? c = some o := fun c o q => hk' c o (hk c o q)
      have I2 : Inv X pins σ H1 { s1 with heap := h'' } := I1.kept (t' := s1.toks) hk2
      have he : IsEnum h'' (s1.heap.objs.size + 5) (s1.heap.objs.size + 4) 0 .none := by rw [← hsz]; exact he
      have nn : ∀ i j : Nat, i ≠ j → s1.heap.objs.size + i ≠ s1.heap.objs.size + j := fun i j h e => h (Nat.add_left_cancel e)
      show PIE X pins σ _ R (.ref h'.objs.size) _
      rw [hsz]
      refine ⟨s1.heap.objs.size + 5, [s1.heap.objs.size + 5, s1.heap.objs.size + 4, s1.heap.objs.size + 2, s1.heap.objs.size + 3, s1.heap.objs.size, s1.heap.objs.size + 1], _, _, H1, rfl, I2,
        turn_enumz (PySem.W.ktu_apart s1.heap.objs.size a b la lb) (nn 5 4 (by decide)) (nn 5 3 (by decide)) (nn 5 0 (by decide)) (nn 5 1 (by decide)) (nn 5 2 (by decide)),
        ⟨⟨.none, he⟩, ⟨.none, false, hk' _ _ hzz, .inl rfl⟩, hk' _ _ hTI, ⟨_, _, hk' _ _ hTO⟩, h1.at fun o q => hk' _ _ q, h2.at fun o q => hk' _ _ q⟩, fun c hcm => ?_, q⟩
      have e' : c = s1.heap.objs.size + 5 ∨ c = s1.heap.objs.size + 4 ∨ c = s1.heap.objs.size + 2 ∨ c = s1.heap.objs.size + 3 ∨ c = s1.heap.objs.size ∨ c = s1.heap.objs.size + 1 := by simpa using hcm
      have hle : s1.heap.objs.size ≤ c := by
        rcases e' with z | z | z | z | z | z
        · rw [z]; exact Nat.le_add_right _ _
        · rw [z]; exact Nat.le_add_right _ _
        · rw [z]; exact Nat.le_add_right _ _
        · rw [z]; exact Nat.le_add_right _ _
        · rw [z]; exact Nat.le_refl _
        · rw [z]; exact Nat.le_add_right _ _
      exact I1.fpOk hle (I1.hok.fresh hle)
def YEz (xs ys : List V) : Nat → Hp → V → Hp → Prop := fun i H v H' => ∃ T U x y, v = .ref U ∧ H T = none ∧ U ≠ T ∧ H U = none ∧ H' = upd (upd H T (.tup [x, y])) U (.tup [.int (i : Nat), .ref T]) ∧ xs[i]? = some x ∧ ys[i]? = some y
theorem walk_enumzip {K : PySem.W.Frag} {a b : Addr} {xs ys : List V} (hl : xs.length = ys.length) : Walk (Iez K a b) xs.length (fun H => SqL K H a xs ∧ SqL K H b ys) (YEz xs ys) := by
  refine ⟨fun i _ hi q => ⟨xs, ys, xs[i], ys[i]'(by omega), q.1, q.2, by simp [hi], by simp [show i < ys.length by omega]⟩, fun _ q => ⟨xs, q.1, ⟨ys, q.2⟩, Nat.le_refl _⟩, fun i H v H' _ q y => ?_⟩
  obtain ⟨T, U, x, y, h1, h2, h3, h4, h5, h6, h7⟩ := y
  exact ⟨T, U, x, y, h1, h2, h3, h4, h5, h6 xs q.1, h7 ys q.2⟩
end L2
end
section
set_option maxHeartbeats 4000000
namespace Kx
open PySem PySem.Spec PyProof.Rows L2 RZ
/-- the first place, from i on, at which two lists differ -/
def difN : List Rat → List Rat → Nat → Option Nat
  | q :: qs, r :: rs, i => if q = r then difN qs rs (i + 1) else some i
  | _, _, _ => none
def difV (qs rs : List Rat) : V := match difN qs rs 0 with
  | none => .non
  | some k => .int ((k : Nat) + 1)
theorem difN_hit : ∀ (qs rs : List Rat) (i f : Nat) (q r : Rat), (∀ j < i, qs[j]? = rs[j]?) → qs[i]? = some q → rs[i]? = some r → q ≠ r → difN qs rs f = some (f + i)
  | [], _, _, _, _, _, _, h, _, _ => by simp at h
  | _ :: _, [], _, _, _, _, _, _, h, _ => by simp at h
  | q0 :: qs, r0 :: rs, 0, f, q, r, _, h1, h2, n => by
    obtain rfl : q0 = q := Option.some.inj h1
    obtain rfl : r0 = r := Option.some.inj h2
    exact if_neg n
  | q0 :: qs, r0 :: rs, i + 1, f, q, r, h, h1, h2, n => by
    have e : q0 = r0 := Option.some.inj (h 0 (Nat.succ_pos _))
    show (if q0 = r0 then difN qs rs (f + 1) else some f) = _
    rw [if_pos e, difN_hit qs rs i (f + 1) q r (fun j hj => h (j + 1) (Nat.succ_lt_succ hj)) h1 h2 n]
    exact congrArg some (by omega)
theorem difN_same : ∀ (qs rs : List Rat) (f : Nat), qs = rs → difN qs rs f = none
  | [], _, _, h => by subst h; rfl
  | q :: qs, _, f, h => by
    subst h
    show (if q = q then difN qs qs (f + 1) else some f) = none
    rw [if_pos rfl, difN_same qs qs (f + 1) rfl]
def spFd (K : PySem.W.Frag) (S CU : Addr) : Sp := fun vs H Q E => ∃ (x y : V) (qs rs : List Rat), vs = [x, y] ∧ StAt K S H x qs ∧ StAt K S H y rs ∧ (qs.length ≠ rs.length → Air H CU (fs2 "UnlikeOrders" "one" "other" [.int (qs.length : Int), .int (rs.length : Int)]) E) ∧
  (qs.length = rs.length → ∀ H', Same H H' → Q (difV qs rs) H')
abbrev nFd : List Str := ["one", "other", "at", "mine", "yours"]
section
variable {P : Program} {w : World} {K : PySem.W.Frag} {mg : Str → Option Value} {base : Heap} {f C S CF CO CU : Addr} {fd : FuncData}
theorem scFd : FnScope nFd ["one", "other"] (defScope F_first_difference) := ⟨rfl, rfl, rfl, by decide +kernel, rfl, by decide +kernel, by decide +kernel⟩
theorem ok_first (G : Fun K "first_difference" "first_difference" F_first_difference f fd) (k : StepK P w K mg base C S CF CO) (UO : Use P w K mg base (L2.CX P w) 3 "check_orders" ["one", "other"] (spCor K CU) []) (UN : MUse P w K mg base CX0 1 S "numbers" ["self"] (spNuS K S) []) (me : mg "enumerate" = none) (mz : mg "zip" = none) :
    FnOk P w K mg base (L2.CX P w) 4 f fd ["one", "other"] (spFd K S CU) := by
  refine G.okX scFd (fun vs H Q E h => ?_) (fun cdv A outer s H vs Q E hr h => ?_)
  · obtain ⟨x, y, qs, rs, rfl, _⟩ := h
    rfl
  obtain ⟨x, y, qs, rs, rfl, hX, hY, h1, h2⟩ := h
  have hr1 := hr.mono (show 1 ≤ 3 by decide)
  refine ⟨_, pss_cons (ps_expr (pe_use (E := E) UO hr rfl (passes_call (takes_of rfl rfl rfl rfl) (fun _ _ _ _ h => h)) (pa_cons (pv 0) (pa_cons (pv 1) pa_nil))))
    (pss_cons (ps_for (passes_of rfl) rfl (pi_enumzip rfl me rfl mz (pa_cons (pe_mu0 UN (pv 0) hr1 pass0) (pa_cons (pe_mu0 UN (pv 1) hr1 pass0) pa_nil))) (pg_tup rfl (pgs_cons (pg_name (i := 2) scFd.nd rfl (Or.inl rfl)) (pgs_cons (pg_tup rfl (pgs_cons (pg_name (i := 3) scFd.nd rfl (Or.inl rfl)) (pgs_cons (pg_name (i := 4) scFd.nd rfl (Or.inl rfl)) pgs_nil))) pgs_nil)))
      (pss_one (ps_if (pt_cmpR (op_neD hr.units) (pv 3) (pv 4) (nomark _)) (pss_one (ps_ret (pe_op op_add (pv 2) pe_int))) pss_nil)))
    (pss_one (ps_ret pe_non))), ?_⟩
  obtain ⟨xa, dx, b, xs, fx, rfl, hx, hb, nx, fx1, fx2, l2, l24⟩ := hX.num
  obtain ⟨ya, dy, c, ys, fy, rfl, hy, hc, ny, fy1, fy2, m2, m24⟩ := hY.num
  have lkn : ∀ {v : V} {rs : List Rat} (h : StAt K S H v rs), ∃ x dx fs, v = .ref x ∧ H x = some (.ins S dx fs) ∧ fs.lookup ("numbers" : Str) = none := fun ⟨x, dx, _, _, _, _, _, e, h, _⟩ => ⟨x, dx, _, e, h, rfl⟩
  refine ⟨_, rfl, _, rfl, _, _, (qs.length : Int), (rs.length : Int), rfl, ⟨xa, S, dx, fx, rfl, hx, k.c, k.nA _ (by simp [stN]), fx2⟩, ⟨ya, S, dy, fy, rfl, hy, k.c, k.nA _ (by simp [stN]), fy2⟩, fun e => ?_, fun e => h1 (fun z => e (by rw [z]))⟩
  have le : qs.length = rs.length := by omega
  have q := h2 le
  obtain ⟨x1, d1, f1, e1, hx1, n1⟩ := lkn hX
  obtain ⟨x2, d2, f2, e2, hx2, n2⟩ := lkn hY
  refine ⟨_, rfl, x1, d1, f1, e1, hx1, n1, _, qs, rfl, hX, fun a1 H1 zs1 s1 na1 ea1 nz1 => ?_⟩
  refine ⟨_, rfl, x2, d2, f2, e2, s1 _ _ hx2, n2, _, rs, rfl, hY.same s1, fun a2 H2 zs2 s2 na2 ea2 nz2 => ?_⟩
  have s12 := s1.trans s2
  have ea1 := s2 _ _ ea1
  have nz1 := nz1.same s2
  have lz : zs1.length = zs2.length := by rw [nz1.1, nz2.1, le]
  have lq : zs1.length = qs.length := nz1.1
  refine ⟨a1, a2, zs1, zs2, rfl, SqL.of ea1, SqL.of ea2, ?_⟩
  refine for_it (walk_enumzip (K := K) (a := a1) (b := a2) lz) (fun i σ H' => Same H2 H' ∧ (∀ j < i, qs[j]? = rs[j]?) ∧ ∃ v2 v3 v4, σ = [some (.ref xa), some (.ref ya), v2, v3, v4]) ⟨Same.refl H2, fun j h => absurd h (Nat.not_lt_zero j), none, none, none, rfl⟩ (fun i σ H' _ h => ⟨SqL.of (h.1 _ _ ea1), SqL.of (h.1 _ _ ea2)⟩) ?_ ?_
  · rintro i x σ H3 H4 hi ⟨s3, hj, v2, v3, v4, rfl⟩ ⟨T, U, y, z, rfl, hT, UT, hU, rfl, ey, ez⟩
    have sT := new_same hT (HO.tup [y, z])
    have hU' : upd H3 T (HO.tup [y, z]) U = none := by rw [upd_ne UT]; exact hU
    have sU := new_same hU' (HO.tup [.int (i : Nat), .ref T])
    have s4 := s3.trans (sT.trans sU)
    have eT := sU _ _ (show upd H3 T (HO.tup [y, z]) T = some _ from upd_same)
    refine ⟨U, [_, _], rfl, SqT.of upd_same, rfl, _, [_], rfl, _, [], rfl, T, [_, _], rfl, SqT.of eT, rfl, _, [_], rfl, _, [], rfl, rfl, rfl, ?_⟩
    obtain ⟨q0, eq, nq⟩ := nz1.get ey
    obtain ⟨r0, er, nr⟩ := nz2.get ez
    refine ⟨_, rfl, _, rfl, tupQ q0, tupQ r0, (nq.same s4).dp, (nr.same s4).dp, rfl, rfl, _, rfl, ?_⟩
    rw [eqv_num]
    by_cases c : q0 = r0
    · rw [decide_eq_true c]
      refine iteF ⟨s4, fun j hj' => ?_, _, _, _, rfl⟩
      rcases Nat.lt_or_ge j i with h | h
      · exact hj j h
      · obtain rfl : j = i := by omega
        rw [eq, er, c]
    · rw [decide_eq_false c]
      refine iteT ⟨_, rfl, ((i : Nat) : Int), 1, rfl, rfl, ?_⟩
      have := q _ (s12.trans s4)
      unfold difV at this
      rw [difN_hit qs rs i 0 q0 r0 hj eq er c, Nat.zero_add] at this
      exact this
  · rintro σ H3 ⟨s3, hj, v2, v3, v4, rfl⟩
    have := q _ (s12.trans s3)
    unfold difV at this
    rw [difN_same qs rs 0 (List.ext_getElem? fun j => ?_)] at this
    · exact this
    · rcases Nat.lt_or_ge j qs.length with h | h
      · exact hj j (by omega)
      · rw [List.getElem?_eq_none h, List.getElem?_eq_none (by omega)]
end
/-- first_difference that is refused, asked -/
theorem rd_fdB {K : PySem.W.Frag} {S : Addr} {cs : Fin 6 → Addr} {H : Hp} {x y : V} {qs rs : List Rat} {E : XK} {Q R : VK} (hX : StAt K S H x qs) (hY : StAt K S H y rs) (n : qs.length ≠ rs.length) (hE : ∀ cls d H', Flt H' cs cls d Q → E cls d H')
    (q : ∀ t H', Same H H' → H' t = some (.lst [.str "UnlikeOrders", .int (qs.length : Nat), .int (rs.length : Nat)]) → Q (.ref t) H') : spFd K S (cs 4) [x, y] H R E :=
  ⟨x, y, qs, rs, rfl, hX, hY, fun _ d H' s n e2 => hE _ _ _ (.inr (.inr (.inr (.inr (.inl ⟨rfl, d, _, _, rfl, e2, fun t H2 s2 n2 e3 => q t H2 (s.trans s2) e3⟩))))), fun e => absurd e n⟩
end Kx
end
section
set_option maxHeartbeats 4000000
namespace Kx
open PySem PySem.Spec PyProof.Rows L2 RZ
theorem op_neD_at {X : Cx} (K : PySem.W.Frag) (h : X.K = K) (hu : X.A.units + 64 < cLine) : OpR X (compareOp .NotEq) (rNeD K) := by
  subst h
  exact op_neD hu
theorem op_eqD_at {X : Cx} (K : PySem.W.Frag) (h : X.K = K) (hu : X.A.units + 64 < cLine) : OpR X (compareOp .Eq) (rEqD K) := by
  subst h
  exact op_eqD hu
def eqs (qs rs : List Rat) : List Bool := List.zipWith (fun q r => decide (q = r)) qs rs
theorem difN_bad : ∀ (qs rs : List Rat) (f : Nat), difN qs rs f = badAt (eqs qs rs) f
  | [], _, _ => rfl
  | _ :: _, [], _ => rfl
  | q :: qs, r :: rs, f => by
    show (if q = r then difN qs rs (f + 1) else some f) = (if decide (q = r) = true then badAt (eqs qs rs) (f + 1) else some f)
    by_cases c : q = r
    · rw [if_pos c, if_pos (decide_eq_true c), difN_bad qs rs (f + 1)]
    · rw [if_neg c, if_neg (by rw [decide_eq_false c]; decide)]
theorem difN_none : ∀ (qs rs : List Rat) (f : Nat), qs.length = rs.length → difN qs rs f = none → qs = rs
  | [], [], _, _, _ => rfl
  | [], _ :: _, _, h, _ => by cases h
  | _ :: _, [], _, h, _ => by cases h
  | q :: qs, r :: rs, f, h, e => by
    have e : (if q = r then difN qs rs (f + 1) else some f) = none := e
    split at e
    · rename_i c
      rw [c, difN_none qs rs (f + 1) (Nat.succ.inj h) e]
    · cases e
def dueL (qs rs : List Rat) : List V := if qs.length = rs.length then [.str "told", difV qs rs] else [.str "UnlikeOrders", .int (qs.length : Nat), .int (rs.length : Nat)]
theorem dueL_flat (qs rs : List Rat) : (dueL qs rs).length ≤ 60 ∧ ∀ v ∈ dueL qs rs, flatV v = true := by
  unfold dueL
  split
  · refine ⟨by show 2 ≤ 60; decide, fun v hv => ?_⟩
    simp only [List.mem_cons, List.not_mem_nil, or_false] at hv
    rcases hv with rfl | rfl
    · rfl
    · unfold difV
      cases difN qs rs 0 <;> rfl
  · refine ⟨by show 3 ≤ 60; decide, fun v hv => ?_⟩
    simp only [List.mem_cons, List.not_mem_nil, or_false] at hv
    rcases hv with rfl | rfl | rfl <;> rfl
theorem rd_fd {K : PySem.W.Frag} {S : Addr} {cs : Fin 6 → Addr} {H : Hp} {x y : V} {qs rs : List Rat} {E : XK} {Q R : VK} (hX : StAt K S H x qs) (hY : StAt K S H y rs) (hE : ∀ cls d H', Flt H' cs cls d Q → E cls d H')
    (hR : ∀ z H1, (2 ≤ sizeLine ∧ ∀ t, H1 t = none → Q (.ref t) (upd H1 t (.lst [.str "told", z]))) → R z H1) (q : ∀ t H', Same H H' → H' t = some (.lst (dueL qs rs)) → Q (.ref t) H') : spFd K S (cs 4) [x, y] H R E := by
  by_cases c : qs.length = rs.length
  · refine ⟨x, y, qs, rs, rfl, hX, hY, fun n => absurd c n, fun _ H' s => hR _ _ ⟨by show 2 ≤ sizeLine; decide, fun t nt => q t _ (s.trans (new_same nt _)) ?_⟩⟩
    rw [upd_same]
    unfold dueL
    rw [if_pos c]
  · refine rd_fdB hX hY c hE fun t H' s e => q t H' s ?_
    rw [e]
    unfold dueL
    rw [if_neg c]
abbrev nCp : List Str := ["_law_a", "_law_b", "_law_f", "_law_g", "_law_told", "_law_due", "_law_k"]
theorem scCp2 : FnScope nCp ["_law_a", "_law_b"] (defScope L_compared_so) := ⟨rfl, rfl, rfl, by decide +kernel, rfl, by decide +kernel, by decide +kernel⟩
def spCmp (K : PySem.W.Frag) (T : List (Addr × Str)) : Sp := fun vs H Q _ => ∃ (va vb : V) (qs rs : List Rat), vs = [va, vb] ∧ Ls K H va qs ∧ Ls K H vb rs ∧ 2 ≤ qs.length ∧ qs.length ≤ 24 ∧ 2 ≤ rs.length ∧ rs.length ≤ 24 ∧ LamX.Tabs T H ∧ ∀ H', LamX.ExtN H H' → LamX.Tabs T H' → Q (.bl true) H'
section
variable {P : Program} {w : World} {K : PySem.W.Frag} {mg : Str → Option Value} {base : Heap} {f c Pt C S CE : Addr} {cs : Fin 6 → Addr} {fd : FuncData} {T : List (Addr × Str)}
theorem ok_compared (F : FunC K "_law_compared_so" "_law_compared_so" L_compared_so f fd c) (U : KitS P w K mg base C S cs CE) (UF : Use P w K mg base (L2.CX P w) 4 "first_difference" ["one", "other"] (spFd K S (cs 4)) [["other", "one"]])
    (TB : LamX.TabB base mg c Pt) (hmT : (Pt, ((("_law_compared_so" : Str) ++ ".<locals>.") ++ "<lambda>" : Str)) ∈ T) (hu : ∀ p ∈ T, p.1 = Pt → p.2 = ((("_law_compared_so" : Str) ++ ".<locals>.") ++ "<lambda>" : Str)) : FnOk P w K mg base CX0 11 f fd ["_law_a", "_law_b"] (spCmp K T) := by
  refine F.ok scCp2 (fun vs H Q E h => ?_) (fun A outer s H vs Q E hr h => ?_)
  · obtain ⟨va, vb, qs, rs, rfl, _⟩ := h
    rfl
  obtain ⟨va, vb, qs, rs, rfl, hA, hB, l2, l24, m2, m24, hT, q⟩ := h
  have hr1 := hr.mono (show 1 ≤ 10 by decide)
  have hr6 := hr.mono (show 6 ≤ 10 by decide)
  have hr7 := hr.mono (show 7 ≤ 10 by decide)
  obtain ⟨fI, fdI, M, FI, bI, bK⟩ := U.si.ini
  obtain ⟨gA, fdA, FA, bA, mA⟩ := U.ask
  obtain ⟨oc, od, kV, doc, pm, an, cdv, ct, osl, rfl, lkA, hcdA⟩ := FA.ex
  obtain ⟨fF, fdF, PF, bF, kF, mF⟩ := U.flt
  refine ⟨_, C8.pss_cut (ps_asg (pe_tup (pa_cons (pe_make (E := fun _ _ _ => False) M FI hr7 rfl U.si.m bI .nil passF (pa_cons (pv 0) pa_nil)) (pa_cons (pe_make (E := fun _ _ _ => False) M FI hr7 rfl U.si.m bI .nil passF (pa_cons (pv 1) pa_nil)) pa_nil)))
      (pg_tup rfl (pgs_cons (pg_name (i := 2) scCp2.nd rfl (Or.inr rfl)) (pgs_cons (pg_name (i := 3) scCp2.nd rfl (Or.inr rfl)) pgs_nil))))
    (C8.pss_cut (ps_set (i := 4) scCp2.nd rfl (Or.inl rfl) (pe_lst (pa_cons
        (LamX.pe_lamcall (k := 4) (t := fun E => tCall (spFd K S (cs 4)) [] E (tCons (tVar 2) (tCons (tVar 3) tNil))) (TT := TAsk cs) rfl mA FA.kp lkA hcdA bA scAsk rfl (Or.inl rfl) (ask_gives (hr.mono (by decide)) PF bF kF mF U.mC U.e1) TB rfl hmT hu hr6 (LamX.lamS_by (show LamX.lamSB (defScope L_compared_so) _ = true by decide +kernel)) rfl (fun _ _ _ _ _ => rfl)
          (fun A outer s H E f c' hk => pe_use UF hk rfl (passes_call (takes_of rfl rfl rfl rfl) (fun _ _ _ _ h => h)) (pa_cons (pv 2) (pa_cons (pv 3) pa_nil))))
        (pa_cons (LamX.pe_lamcallD (k := 4) (kd := 0) (px := "_law_x") (t := fun E => tCallR 2 (spFd K S (cs 4)) E (tCons (tVar 3) (tCons (tVar 2) tNil))) (TT := TAsk cs) rfl mA FA.kp lkA hcdA bA scAsk rfl (Or.inl rfl) (ask_gives (hr.mono (by decide)) PF bF kF mF U.mC U.e1) TB rfl hmT hu hr6 (LamX.lamD_by (show LamX.lamDB nCp (defScope L_compared_so) _ "_law_x" = true by decide +kernel)) rfl (fun _ _ _ _ _ _ _ => ⟨_, rfl, rfl⟩)
          (fun A outer s H E f c' hk => pe_useR (ks := ["other", "one"]) UF hk rfl (passes_call (takes_of rfl rfl rfl rfl) (fun _ _ _ _ h => h)) rfl (pk_cons (pv 3) (pk_cons (pv 2) pk_nil)) (by simp))) pa_nil))))
    (C8.pss_cut (ps_set (i := 5) scCp2.nd rfl (Or.inl rfl) (pe_lst (pa_cons pe_str (pa_cons pe_non pa_nil))))
    (C8.pss_cut (ps_if (pt_cmpR op_ne (pe_callB call_len_seq rfl U.mn PySem.boot_len (pa_cons (pv 0) pa_nil)) (pe_callB call_len_seq rfl U.mn PySem.boot_len (pa_cons (pv 1) pa_nil)) (nomark _))
        (pss_one (ps_set (i := 5) scCp2.nd rfl (Or.inl rfl) (pe_lst (pa_cons pe_str (pa_cons (pe_callB call_len_seq rfl U.mn PySem.boot_len (pa_cons (pv 0) pa_nil)) (pa_cons (pe_callB call_len_seq rfl U.mn PySem.boot_len (pa_cons (pv 1) pa_nil)) pa_nil))))))
        (pss_one (ps_if (pt_cmpR (op_neD hr.units) (pv 0) (pv 1) (nomark _)) (pss_one (ps_set (i := 5) scCp2.nd rfl (Or.inl rfl) (pe_lst (pa_cons pe_str (pa_cons (pe_ix ix_list
          (pe_lc (own := [("_law_k", 6)]) (g := gName 6) rfl scCp2.nd (pi_range1 rfl U.mr (pa_cons (pe_callB call_len_seq rfl U.mn PySem.boot_len (pa_cons (pv 0) pa_nil)) pa_nil)) (blkOk_by (N := nCp) (sc := defScope L_compared_so) (by decide +kernel)) (fun _ _ _ _ _ => pg_name (i := 6) scCp2.nd rfl (Or.inl rfl))
            (fun _ _ _ _ _ => pts_one (pt_cmpR (op_neD_at K rfl hr.units) (pe_ix (ixl_at K rfl) (pv 0) (pv 6) (fun _ _ => rfl)) (pe_ix (ixl_at K rfl) (pv 1) (pv 6) (fun _ _ => rfl)) (nomark _))) (fun _ _ _ _ _ => pe_op op_add (pv 6) pe_int)) pe_int (fun _ _ => rfl)) pa_nil))))) pss_nil)))
    (pss_one (ps_ret (pe_and (pe_use U.lik hr6 rfl pass0 (pa_cons (pv 4) (pa_cons (pe_lst (pa_cons (pv 5) (pa_cons (pv 5) pa_nil))) pa_nil)))
      (pe_and (pe_cmpR op_eq (pe_cmpR (op_eqO U.oeq hr1 pass0) (pv 2) (pv 3) (nomark _)) (pe_cmpR (op_eqD hr.units) (pv 0) (pv 1) (nomark _)) (nomark _))
        (pe_one (pe_cmpR op_eq (pe_cmpR (op_eqO U.oeq hr1 pass0) (pv 3) (pv 2) (nomark _)) (pe_cmpR (op_eqD hr.units) (pv 0) (pv 1) (nomark _)) (nomark _)))))))))), ?_⟩
  obtain ⟨a, xs, rfl, ha, nx⟩ := id hA
  obtain ⟨b, ys, rfl, hb, ny⟩ := id hB
  have lx : xs.length = qs.length := nx.1
  have ly : ys.length = rs.length := ny.1
  refine ⟨fun σ H1 => ∃ x y, σ = [some (.ref a), some (.ref b), some (.ref x), some (.ref y), none, none, none] ∧ Same H H1 ∧ StAt K S H1 (.ref x) qs ∧ StAt K S H1 (.ref y) rs, ?_, ?_⟩
  · refine ⟨_, rfl, fun x dx xn dn en => ?_⟩
    refine step_newF (E := fun _ _ _ => False) (.inl ha) nx l2 l24 xn dn en fun H1 s1 hX => ⟨rfl, ?_⟩
    clear xn dn en
    refine ⟨_, rfl, fun y dy xn dn en => ?_⟩
    refine step_newF (E := fun _ _ _ => False) (.inl (s1 _ _ hb)) (ny.same s1) m2 m24 xn dn en fun H2 s2 hY => ⟨rfl, ?_⟩
    clear xn dn en
    refine ⟨(by show 2 ≤ sizeLine; decide), fun t nt => ?_⟩
    have s3 := new_same nt (HO.tup [V.ref x, V.ref y])
    exact ⟨t, _, rfl, SqT.of upd_same, rfl, _, _, rfl, _, _, rfl, rfl, x, y, rfl, (s1.trans s2).trans s3, ((hX.same s2).same s3).st, (hY.same s3).st⟩
  rintro σ H1 ⟨x, y, rfl, s1, hX, hY⟩
  have nt : ∀ (l : List V) ps, HO.lst l ≠ .tbl ps := fun l ps z => by cases z
  have T1 := hT.ext s1
  have stx : ∀ {v qs G G'}, StAt K S G v qs → LamX.ExtN G G' → StAt K S G' v qs := fun {v qs G G'} h s => by
    obtain ⟨x, dx, b, xs, x0, fv, sv, e, h1, h2, h3, h4⟩ := h
    exact ⟨x, dx, b, xs, x0, fv, sv, e, s _ _ h1 (fun ps z => by cases z), s _ _ h2 (fun ps z => by cases z), h3.ext s, h4⟩
  refine ⟨fun σ G => ∃ l r1 r2, σ = [some (.ref a), some (.ref b), some (.ref x), some (.ref y), some (.ref l), none, none] ∧ LamX.ExtN H1 G ∧ LamX.Tabs T G ∧ G l = some (.lst [.ref r1, .ref r2]) ∧ G r1 = some (.lst (dueL qs rs)) ∧ G r2 = some (.lst (dueL qs rs)), ?_, ?_⟩
  · refine ⟨T1, fun H3 x3 T3 => ⟨_, rfl, _, rfl, ?_⟩⟩
    refine rd_fd (stx hX x3) (stx hY x3) (fun _ _ _ h => h) (fun z H1 h => h) fun r1 H4 s4 e4 => ?_
    refine ⟨T3.ext s4, fun H5 t5 x5 T5 ht5 => ⟨ht5, _, rfl, _, rfl, rfl, ?_⟩⟩
    have z5 := (x3.trans (.of s4)).trans x5
    refine rd_fd (stx hX z5) (stx hY z5) (fun _ _ _ h => h) (fun z H1 h => h) fun r2 H6 s6 e6 => ?_
    refine ⟨(by show 2 ≤ sizeLine; decide), fun l nl => ?_⟩
    have s9 := new_same nl (HO.lst [V.ref r1, V.ref r2])
    exact ⟨l, r1, r2, rfl, z5.trans (.of (s6.trans s9)), T5.ext (s6.trans s9), upd_same, s9 _ _ (s6 _ _ (x5 _ _ e4 (nt _))), s9 _ _ e6⟩
  rintro σ G ⟨l, r1, r2, rfl, xG, TG, el, e1, e2⟩
  have aG := xG _ _ (s1 _ _ ha) (nt _)
  have bG := xG _ _ (s1 _ _ hb) (nt _)
  have nxG := (nx.same s1).ext xG
  have nyG := (ny.same s1).ext xG
  have hXG := stx hX xG
  have hYG := stx hY xG
  refine ⟨fun σ G' => ∃ d, σ = [some (.ref a), some (.ref b), some (.ref x), some (.ref y), some (.ref l), some (.ref d), none] ∧ Same G G' ∧ G' d = some (.lst [.str "told", .non]), ?_, ?_⟩
  · exact ⟨(by show 2 ≤ sizeLine; decide), fun d nd => ⟨d, rfl, new_same nd _, upd_same⟩⟩
  rintro σ G1 ⟨d, rfl, s2, ed⟩
  refine ⟨fun σ G' => ∃ d o6, σ = [some (.ref a), some (.ref b), some (.ref x), some (.ref y), some (.ref l), some (.ref d), o6] ∧ Same G G' ∧ G' d = some (.lst (dueL qs rs)), ?_, ?_⟩
  · refine ⟨_, rfl, a, xs, rfl, .inl (SqL.of (s2 _ _ aG)), _, rfl, b, ys, rfl, .inl (SqL.of (s2 _ _ bG)), rfl, _, rfl, ?_⟩
    by_cases le : qs.length = rs.length
    · rw [decide_eq_true (show V.int (xs.length : Nat) = V.int (ys.length : Nat) by rw [lx, ly, le])]
      refine iteF ⟨_, rfl, _, rfl, datL qs, datL rs, (nxG.same s2).dp (s2 _ _ aG), (nyG.same s2).dp (s2 _ _ bG), shaped_list _, shaped_list _, _, rfl, ?_⟩
      rw [eqv_list]
      by_cases c : qs = rs
      · rw [decide_eq_true c]
        refine iteF ⟨d, none, rfl, s2, ?_⟩
        rw [ed]
        unfold dueL difV
        rw [if_pos le, difN_same qs rs 0 c]
      rw [decide_eq_false c]
      refine iteT ⟨_, rfl, a, xs, rfl, .inl (SqL.of (s2 _ _ aG)), _, rfl, by omega, by omega, fun D nD => ?_⟩
      refine lc_range (lo := 0) (n := (((xs.length : Nat) : Int)).toNat) (fun i H' => Same G1 H' ∧ H' D = some (.lst ((badL ((eqs qs rs).take i) 0).map fun n => V.int ((n : Nat) + 1)))) ⟨new_same nD _, upd_same⟩ ?_ ?_
      · rintro i H2 hi ⟨s3, hD⟩
        rw [Int.toNat_natCast] at hi
        have ex := List.getElem?_eq_getElem (l := xs) (i := i) hi
        have ey := List.getElem?_eq_getElem (l := ys) (i := i) (by omega)
        have eq := List.getElem?_eq_getElem (l := qs) (i := i) (by omega)
        have er := List.getElem?_eq_getElem (l := rs) (i := i) (by omega)
        have nq := (nxG.2 i _ _ ex eq).same (s2.trans s3)
        have nr := (nyG.2 i _ _ ey er).same (s2.trans s3)
        have ee : (eqs qs rs)[i]? = some (decide (qs[i] = rs[i])) := by
          unfold eqs
          rw [List.getElem?_zipWith, eq, er]
        have le2 : (eqs qs rs).length = qs.length := by unfold eqs; rw [List.length_zipWith, le, Nat.min_self]
        have key : badL ((eqs qs rs).take (i + 1)) 0 = if decide (qs[i] = rs[i]) = true then badL ((eqs qs rs).take i) 0 else badL ((eqs qs rs).take i) 0 ++ [i] := by
          rw [List.take_add_one, ee]
          show badL ((eqs qs rs).take i ++ [_]) 0 = _
          rw [badL_snoc, List.length_take, Nat.min_eq_left (by omega), Nat.zero_add]
        refine ⟨rfl, _, rfl, _, rfl, a, xs, _, _, rfl, rfl, SqL.of (s3 _ _ (s2 _ _ aG)), at_of (j := i) (by omega) ex, _, rfl, _, rfl, b, ys, _, _, rfl, rfl, SqL.of (s3 _ _ (s2 _ _ bG)), at_of (j := i) (by omega) ey, tupQ qs[i], tupQ rs[i], nq.dp, nr.dp, rfl, rfl, _, rfl, ?_⟩
        rw [eqv_num]
        generalize decide (qs[i] = rs[i]) = bb at key
        cases bb with
        | true =>
          refine iteF ⟨s3, ?_⟩
          rw [key]
          exact hD
        | false =>
          refine iteT ⟨_, rfl, _, 1, rfl, rfl, _, hD, small1000 (by rw [List.length_map]; have := badL_len ((eqs qs rs).take i) 0; rw [List.length_take] at this; omega), fun e o h => by rw [upd_ne (ne_of_none h nD)]; exact s3 _ _ h, ?_⟩
          rw [upd_same, key]
          show _ = some (HO.lst ((badL ((eqs qs rs).take i) 0 ++ [i]).map _))
          rw [List.map_append, Int.zero_add]
          rfl
      · rintro H2 ⟨s3, hD⟩
        have le2 : (eqs qs rs).length = qs.length := by unfold eqs; rw [List.length_zipWith, le, Nat.min_self]
        rw [Int.toNat_natCast, List.take_of_length_le (by omega)] at hD
        have dn : difN qs rs 0 ≠ none := fun z => c (difN_none qs rs 0 le z)
        have db := difN_bad qs rs 0
        rw [bad_head] at db
        cases hbl : badL (eqs qs rs) 0 with
        | nil => rw [hbl] at db; exact absurd db dn
        | cons k ks =>
          rw [hbl] at db hD
          refine ⟨D, _, 0, _, rfl, rfl, SqL.of hD, at_of (j := 0) rfl rfl, (by show 2 ≤ sizeLine; decide), fun d2 nd2 => ⟨d2, _, rfl, (s2.trans s3).trans (new_same nd2 _), ?_⟩⟩
          rw [upd_same]
          unfold dueL difV
          rw [if_pos le, db]
          rfl
    · rw [decide_eq_false (fun z => le (by have := V.int.inj z; omega))]
      refine iteT ⟨_, rfl, a, xs, rfl, .inl (SqL.of (s2 _ _ aG)), _, rfl, b, ys, rfl, .inl (SqL.of (s2 _ _ bG)), (by show 3 ≤ sizeLine; decide), fun d2 nd2 => ⟨d2, none, rfl, s2.trans (new_same nd2 _), ?_⟩⟩
      rw [upd_same]
      unfold dueL
      rw [if_neg le, lx, ly]
  clear ed s2
  rintro σ G2 ⟨d, o6, rfl, s2, ed⟩
  obtain ⟨fl, ff⟩ := dueL_flat qs rs
  refine ⟨_, rfl, _, rfl, _, rfl, (by show 2 ≤ sizeLine; decide), fun m nm => ?_⟩
  have s3 := new_same nm (HO.lst [V.ref d, V.ref d])
  have s23 := s2.trans s3
  have lk : ∀ {r}, G r = some (.lst (dueL qs rs)) → Lk K S 3 (upd G2 m (HO.lst [V.ref d, V.ref d])) (.ref r) (.ref d) := fun h => Lk.lst (n := 2) (s23 _ _ h) (s3 _ _ ed) fl (paired_flat ff)
  refine ⟨_, _, rfl, Lk.lst (n := 3) (s23 _ _ el) upd_same (by show 2 ≤ 60; decide) (.cons (lk e1) (.cons (lk e2) .nil)), fun G3 s4 => ⟨_, rfl, iteT ?_⟩⟩
  have s24 := s23.trans s4
  refine ⟨_, rfl, _, rfl, rd_eqS U.sk (hXG.same s24) (hYG.same s24) ?_⟩
  refine ⟨_, rfl, _, rfl, datL qs, datL rs, (nxG.same s24).dp (s24 _ _ aG), (nyG.same s24).dp (s24 _ _ bG), shaped_list _, shaped_list _, ?_⟩
  rw [eqv_list]
  refine ⟨rfl, _, rfl, ?_⟩
  rw [decide_eq_true rfl]
  refine iteT ⟨_, rfl, _, rfl, rd_eqS U.sk (hYG.same s24) (hXG.same s24) ?_⟩
  refine ⟨_, rfl, _, rfl, datL qs, datL rs, (nxG.same s24).dp (s24 _ _ aG), (nyG.same s24).dp (s24 _ _ bG), shaped_list _, shaped_list _, ?_⟩
  rw [eqv_list]
  refine ⟨rfl, ?_⟩
  rw [decide_eq_true (show V.bl (decide (rs = qs)) = V.bl (decide (qs = rs)) by congr 1; rw [decide_eq_decide]; exact ⟨Eq.symm, Eq.symm⟩)]
  exact q _ ((LamX.ExtN.of s1).trans (xG.trans (.of s24))) (TG.ext s24)
end
end Kx
end
section
set_option maxHeartbeats 4000000
namespace Kx
open PySem PySem.Spec PyProof.Rows L2 RZ
def spLaw (K : PySem.W.Frag) (T : List (Addr × Str)) : Sp := fun vs H Q _ => ∃ (a : Addr) (ns : List Int), vs = [.ref a] ∧ SqL K H a (ns.map V.int) ∧ LamX.Tabs T H ∧ ∀ H', Q (.bl true) H'
abbrev nLaw : List Str := ["_law_script", "_law_bag_here", "_law_lap", "_law_a", "_law_b", "_law_c", "_law_f"]
structure Kit2 (P : Program) (w : World) (K : PySem.W.Frag) (mg : Str → Option Value) (base : Heap) (C S : Addr) (T : List (Addr × Str)) : Prop where
  md : Use P w K mg base CX0 11 "_law_made_so" ["_law_bag_here"] (spSo T) []
  gn : Use P w K mg base CX0 11 "_law_gone_so" ["_law_bag_here", "_law_a"] (spGo K T) []
  cu : Use P w K mg base CX0 11 "_law_cut_so" ["_law_bag_here", "_law_a"] (spGo K T) []
  sc : Use P w K mg base CX0 11 "_law_scaling_so" ["_law_bag_here"] (spSo T) []
  cp : Use P w K mg base CX0 11 "_law_compared_so" ["_law_a", "_law_b"] (spCmp K T) []
  sR : PySem.W.kitOne K (.ref C) (.ref S) = some false
  n1 : PySem.W.notFirst K C (.ref S) = true
  n2 : PySem.W.notFirst K S (.ref C) = true
  n3 : ∀ x ∈ ["list", "str", "tuple"], PySem.W.notFirst K S (.type x) = true
  k3 : ∀ x ∈ ["list", "str", "tuple"], PySem.W.kitOne K (.type x) (.ref S) = some false
/-- what stands in a lap -/
structure Lw (K : PySem.W.Frag) (T : List (Addr × Str)) (B p : Addr) (va vb vc : V) (qs rs ts : List Rat) (H : Hp) : Prop where
  b : Bag H B p
  t : LamX.Tabs T H
  l : Ls K H va qs
  r : Ls K H vb rs
  c : Ls K H vc ts
section
variable {P : Program} {w : World} {K : PySem.W.Frag} {mg : Str → Option Value} {base : Heap} {f C S CF CO CE : Addr} {cs : Fin 6 → Addr} {fd : FuncData} {T : List (Addr × Str)} {B p : Addr} {va vb vc : V} {qs rs ts : List Rat} {H H1 H2 : Hp}
theorem Lw.same (j : Lw K T B p va vb vc qs rs ts H1) (s : Same H1 H2) : Lw K T B p va vb vc qs rs ts H2 := ⟨j.b.same s, j.t.ext s, j.l.same s, j.r.same s, j.c.same s⟩
theorem Lw.ext (j : Lw K T B p va vb vc qs rs ts H1) (s : LamX.ExtN H1 H2) (t : LamX.Tabs T H2) : Lw K T B p va vb vc qs rs ts H2 := ⟨j.b.ext s, t, j.l.ext s, j.r.ext s, j.c.ext s⟩
theorem Lw.go (j : Lw K T B p va vb vc qs rs ts H1) (l2 : 2 ≤ qs.length) (m2 : 2 ≤ rs.length) (k2 : 2 ≤ ts.length) (b : Bag H2 B p) (g : Go B H1 H2) (t : LamX.Tabs T H2) : Lw K T B p va vb vc qs rs ts H2 := ⟨b, t, j.l.go l2 j.b g, j.r.go m2 j.b g, j.c.go k2 j.b g⟩
theorem scLaw : FnScope nLaw ["_law_script"] (defScope L_law) := ⟨rfl, rfl, rfl, by decide +kernel, rfl, by decide +kernel, by decide +kernel⟩
theorem ok_law (F : Fun K "law" "law" L_law f fd) (U : KitS P w K mg base C S cs CE) (W : Kit2 P w K mg base C S T) : FnOk P w K mg base CX0 12 f fd ["_law_script"] (spLaw K T) := by
  refine F.ok scLaw (fun vs H Q E h => ?_) (fun cdv A outer s H vs Q E hr h => ?_)
  · obtain ⟨a, ns, rfl, _⟩ := h
    rfl
  obtain ⟨a0, ns, rfl, ha0, hT, q⟩ := h
  have hr1 := hr.mono (show 1 ≤ 11 by decide)
  have hr3 := hr.mono (show 3 ≤ 11 by decide)
  have hr6 := hr.mono (show 6 ≤ 11 by decide)
  have hr7 := hr.mono (show 7 ≤ 11 by decide)
  have hr9 := hr.mono (show 9 ≤ 11 by decide)
  have hr8 := hr.mono (show 8 ≤ 11 by decide)
  obtain ⟨fI, fdI, M, FI, bI, bK⟩ := U.si.ini
  refine ⟨_, pss_cons (ps_set (i := 1) scLaw.nd rfl (Or.inl rfl) (pe_use U.bag hr1 rfl pass0 (pa_cons (pv 0) pa_nil)))
    (pss_cons (ps_for PassesOwn.never rfl (pi_range1 rfl U.mr (pa_cons pe_int pa_nil)) (pg_name (i := 2) scLaw.nd rfl (Or.inl rfl))
      (C8.pss_cut (ps_set (i := 3) scLaw.nd rfl (Or.inl rfl) (pe_use U.step hr6 rfl pass0 (pa_cons (pv 1) (pa_cons (pe_use U.size hr3 rfl pass0 (pa_cons (pv 1) pa_nil)) pa_nil))))
      (C8.pss_cut (ps_set (i := 4) scLaw.nd rfl (Or.inl rfl) (pe_use U.spoilt hr6 rfl pass0 (pa_cons (pv 1) (pa_cons (pv 3) pa_nil))))
      (C8.pss_cut (ps_set (i := 5) scLaw.nd rfl (Or.inl rfl) (pe_use U.step hr6 rfl pass0 (pa_cons (pv 1) (pa_cons (pe_use U.size hr3 rfl pass0 (pa_cons (pv 1) pa_nil)) pa_nil))))
      (C8.pss_cut (ps_if (PW.pt (pw_or (pt_not (pt_val (pe_use U.told hr9 rfl pass0 (pa_cons (pe_make (E := fun _ _ _ => False) M FI hr7 rfl U.si.m bI .nil passF (pa_cons (pv 3) pa_nil)) (pa_cons (pv 3) pa_nil)))))
          (pw_or (pt_not (pt_val (pe_use U.told hr9 rfl pass0 (pa_cons (pe_make (E := fun _ _ _ => False) M FI hr7 rfl U.si.m bI .nil passF (pa_cons (pe_callTy call_tuple_of rfl U.mt (by decide +kernel) (pa_cons (pv 4) pa_nil)) pa_nil)) (pa_cons (pv 4) pa_nil)))))
          (pw_or1 (pt_not (pt_val (pe_use U.told hr9 rfl pass0 (pa_cons (pe_make (E := fun _ _ _ => False) M FI hr7 rfl U.si.m bI .nil passF (pa_cons (pv 5) pa_nil)) (pa_cons (pv 5) pa_nil))))))))) (pss_one (ps_ret pe_bl)) pss_nil)
      (C8.pss_cut (ps_if (PW.pt (pw_or (pt_not (pt_val (pe_use W.md hr rfl pass0 (pa_cons (pv 1) pa_nil)))) (pw_or (pt_not (pt_val (pe_use W.md hr rfl pass0 (pa_cons (pv 1) pa_nil))))
          (pw_or (pt_not (pt_val (pe_use W.gn hr rfl pass0 (pa_cons (pv 1) (pa_cons (pv 3) pa_nil))))) (pw_or1 (pt_not (pt_val (pe_use W.gn hr rfl pass0 (pa_cons (pv 1) (pa_cons (pv 5) pa_nil)))))))))) (pss_one (ps_ret pe_bl)) pss_nil)
      (C8.pss_cut (ps_if (PW.pt (pw_or (pt_not (pt_val (pe_use W.cu hr rfl pass0 (pa_cons (pv 1) (pa_cons (pv 4) pa_nil))))) (pw_or1 (pt_not (pt_val (pe_use W.sc hr rfl pass0 (pa_cons (pv 1) pa_nil))))))) (pss_one (ps_ret pe_bl)) pss_nil)
      (C8.pss_cut (ps_if (PW.pt (pw_or (pt_not (pt_val (pe_use W.cp hr rfl pass0 (pa_cons (pv 3) (pa_cons (pv 4) pa_nil))))) (pw_or (pt_not (pt_val (pe_use W.cp hr rfl pass0 (pa_cons (pv 4) (pa_cons (pv 5) pa_nil)))))
          (pw_or1 (pt_not (pt_val (pe_use W.cp hr rfl pass0 (pa_cons (pv 3) (pa_cons (pe_callTy call_list_of rfl U.ml (by decide +kernel) (pa_cons (pv 3) pa_nil)) pa_nil))))))))) (pss_one (ps_ret pe_bl)) pss_nil)
      (C8.pss_cut (ps_set (i := 6) scLaw.nd rfl (Or.inl rfl) (pe_make (E := fun _ _ _ => False) M FI hr7 rfl U.si.m bI .nil passF (pa_cons (pv 3) pa_nil)))
      (pss_one (ps_if (PW.pt (pw_or (pt_cmpR (op_eqO U.oeq hr1 pass0) (pv 6) (pe_mu0 (E := fun _ _ _ => False) U.asrow (pv 6) hr8 passF) (nomark _)) (pw_or (pt_cmpR (op_eqO U.roeq hr1 pass0) (pe_mu0 (E := fun _ _ _ => False) U.asrow (pv 6) hr8 passF) (pv 6) (nomark _)) (pw_or (pt_cmpR (op_eqO U.oeq hr1 pass0) (pv 6) (pe_mu0 U.numbers (pv 6) hr1 pass0) (nomark _))
          (pw_or (pt_cmpR (op_eqO U.oeq hr1 pass0) (pv 6) pe_str (nomark _)) (pw_or1 (pt_cmpR (op_eqO U.oeq hr1 pass0) (pv 6) (pe_callTy call_tuple_of rfl U.mt (by decide +kernel) (pa_cons (pv 3) pa_nil)) (nomark _)))))))) (pss_one (ps_ret pe_bl)) pss_nil)))))))))))
    (pss_one (ps_ret pe_bl))), ?_⟩
  refine ⟨_, rfl, a0, ns, rfl, ha0, fun H1 B p s1 nb hb => ?_⟩
  refine ⟨2, rfl, by decide, by decide, for_range (lo := 0) (n := 2) (fun i σ H' => (∃ v2 v3 v4 v5 v6 : Option V, σ = [some (.ref a0), some (.ref B), v2, v3, v4, v5, v6]) ∧ Bag H' B p ∧ LamX.Tabs T H') ⟨⟨none, none, none, none, none, rfl⟩, hb, hT.ext s1⟩ ?_ ?_⟩
  · rintro i σ H2 hi ⟨⟨v2, v3, v4, v5, v6, rfl⟩, b2, T2⟩
    clear hb hT ha0 s1 nb
    refine ⟨fun σ H3 => ∃ (v2 : Option V) (va : V) (qs : List Rat), σ = [some (.ref a0), some (.ref B), v2, some va, v4, v5, v6] ∧ Bag H3 B p ∧ LamX.Tabs T H3 ∧ Ls K H3 va qs ∧ 2 ≤ qs.length ∧ qs.length ≤ 24 ∧ AllB 21 qs, ?_, ?_⟩
    · refine ⟨_, rfl, _, rfl, B, p, rfl, b2, fun H3 n b3 u3 n2 n24 => ?_⟩
      exact ⟨B, p, n, rfl, b3, n2, n24, fun H4 va qs b4 u4 hl lq bq => ⟨_, va, qs, rfl, b4, tabs_but (tabs_but T2 b2 u3) b3 u4, hl, by omega, by omega, bq⟩⟩
    clear b2 T2 v2
    rintro σ H3 ⟨v2, va, qs, rfl, b3, T3, hl, l2, l24, bq⟩
    refine ⟨fun σ H4 => ∃ vb rs, σ = [some (.ref a0), some (.ref B), v2, some va, some vb, v5, v6] ∧ Bag H4 B p ∧ LamX.Tabs T H4 ∧ Ls K H4 va qs ∧ Ls K H4 vb rs ∧ 2 ≤ rs.length ∧ rs.length ≤ 24, ?_, ?_⟩
    · exact ⟨_, rfl, _, rfl, B, p, va, qs, rfl, b3, hl, by omega, by omega, bq, fun H7 vb rs b7 u7 hr lr br => ⟨vb, rs, rfl, b7, tabs_but T3 b3 u7, hl.go l2 b3 (Go.of u7), hr, by omega, by omega⟩⟩
    clear b3 T3 hl
    rintro σ H4 ⟨vb, rs, rfl, b4, T4, hl, hr', m2, m24⟩
    refine ⟨fun σ H5 => ∃ vc ts, σ = [some (.ref a0), some (.ref B), v2, some va, some vb, some vc, v6] ∧ Lw K T B p va vb vc qs rs ts H5 ∧ 2 ≤ ts.length ∧ ts.length ≤ 24, ?_, ?_⟩
    · refine ⟨_, rfl, _, rfl, B, p, rfl, b4, fun H5 n b5 u5 n2 n24 => ?_⟩
      exact ⟨B, p, n, rfl, b5, n2, n24, fun H6 vc ts b6 u6 hc lc bc => ⟨vc, ts, rfl, ⟨b6, tabs_but (tabs_but T4 b4 u5) b5 u6, (hl.go l2 b4 (Go.of u5)).go l2 b5 (Go.of u6), (hr'.go m2 b4 (Go.of u5)).go m2 b5 (Go.of u6), hc⟩, by omega, by omega⟩⟩
    clear b4 T4 hl hr'
    rintro σ H5 ⟨vc, ts, rfl, j, k2, k24⟩
    refine ⟨fun σ H5 => σ = [some (.ref a0), some (.ref B), v2, some va, some vb, some vc, v6] ∧ Lw K T B p va vb vc qs rs ts H5, ?_, ?_⟩
    · obtain ⟨a, xs, rfl, ha, nx⟩ := id j.l
      refine ⟨_, rfl, fun x dx xn dn en => ?_⟩
      refine step_newF (E := fun _ _ _ => False) (.inl ha) nx l2 l24 xn dn en fun H6 s6 hX => ⟨rfl, ?_⟩
      clear xn dn en
      have j6 := j.same s6
      refine ⟨_, rfl, _, _, qs, rfl, hX, j6.l, fun H7 s7 => ⟨_, rfl, iteF ?_⟩⟩
      have j7 := j6.same s7
      obtain ⟨b, ys, rfl, hb, ny⟩ := id j7.r
      refine ⟨_, rfl, b, ys, rfl, .inl ⟨SqL.of hb, fun t nt => ?_⟩⟩
      have s8 := new_same nt (HO.tup ys)
      refine fun y dy xn dn en => ?_
      refine step_newF (E := fun _ _ _ => False) (.inr upd_same) (ny.same s8) m2 m24 xn dn en fun H9 s9 hY => ⟨rfl, ?_⟩
      clear xn dn en
      have j9 := j7.same (s8.trans s9)
      refine ⟨_, rfl, _, _, rs, rfl, hY, j9.r, fun H10 s10 => ⟨_, rfl, iteF ?_⟩⟩
      have j10 := j9.same s10
      obtain ⟨c, zs, rfl, hc, nz⟩ := id j10.c
      refine ⟨_, rfl, fun z dz xn dn en => ?_⟩
      refine step_newF (E := fun _ _ _ => False) (.inl hc) nz k2 k24 xn dn en fun H11 s11 hZ => ⟨rfl, ?_⟩
      clear xn dn en
      have j11 := j10.same s11
      exact ⟨_, rfl, _, _, ts, rfl, hZ, j11.c, fun H12 s12 => ⟨_, rfl, iteF ⟨rfl, j11.same s12⟩⟩⟩
    clear j
    rintro σ H5 ⟨rfl, j⟩
    refine ⟨fun σ H5 => σ = [some (.ref a0), some (.ref B), v2, some va, some vb, some vc, v6] ∧ Lw K T B p va vb vc qs rs ts H5, ?_, ?_⟩
    · refine ⟨_, rfl, B, p, rfl, j.b, j.t, fun H8 b8 g8 T8 => ⟨_, rfl, iteF ?_⟩⟩
      have j8 := j.go l2 m2 k2 b8 g8 T8
      refine ⟨_, rfl, B, p, rfl, j8.b, j8.t, fun H9 b9 g9 T9 => ⟨_, rfl, iteF ?_⟩⟩
      have j9 := j8.go l2 m2 k2 b9 g9 T9
      refine ⟨_, rfl, _, rfl, B, p, va, qs, rfl, j9.b, j9.l, l2, l24, j9.t, fun H10 b10 g10 T10 => ⟨_, rfl, iteF ?_⟩⟩
      have j10 := j9.go l2 m2 k2 b10 g10 T10
      exact ⟨_, rfl, _, rfl, B, p, vc, ts, rfl, j10.b, j10.c, k2, k24, j10.t, fun H11 b11 g11 T11 => ⟨_, rfl, iteF ⟨rfl, j10.go l2 m2 k2 b11 g11 T11⟩⟩⟩
    clear j
    rintro σ H5 ⟨rfl, j⟩
    refine ⟨fun σ H5 => σ = [some (.ref a0), some (.ref B), v2, some va, some vb, some vc, v6] ∧ Lw K T B p va vb vc qs rs ts H5, ?_, ?_⟩
    · refine ⟨_, rfl, _, rfl, B, p, vb, rs, rfl, j.b, j.r, m2, m24, j.t, fun H8 b8 g8 T8 => ⟨_, rfl, iteF ?_⟩⟩
      have j8 := j.go l2 m2 k2 b8 g8 T8
      exact ⟨_, rfl, B, p, rfl, j8.b, j8.t, fun H9 b9 g9 T9 => ⟨_, rfl, iteF ⟨rfl, j8.go l2 m2 k2 b9 g9 T9⟩⟩⟩
    clear j
    rintro σ H5 ⟨rfl, j⟩
    refine ⟨fun σ H5 => σ = [some (.ref a0), some (.ref B), v2, some va, some vb, some vc, v6] ∧ Lw K T B p va vb vc qs rs ts H5, ?_, ?_⟩
    · refine ⟨_, rfl, _, rfl, _, _, qs, rs, rfl, j.l, j.r, l2, l24, m2, m24, j.t, fun H8 x8 T8 => ⟨_, rfl, iteF ?_⟩⟩
      have j8 := j.ext x8 T8
      refine ⟨_, rfl, _, rfl, _, _, rs, ts, rfl, j8.r, j8.c, m2, m24, k2, k24, j8.t, fun H9 x9 T9 => ⟨_, rfl, iteF ?_⟩⟩
      have j9 := j8.ext x9 T9
      obtain ⟨a, xs, rfl, ha, nx⟩ := id j9.l
      refine ⟨_, rfl, _, rfl, a, xs, rfl, .inl (SqL.of ha), fun d nd => ?_⟩
      have s10 := new_same nd (HO.lst xs)
      have j10 := j9.same s10
      exact ⟨_, _, qs, qs, rfl, j10.l, ⟨d, xs, rfl, upd_same, nx.same s10⟩, l2, l24, l2, l24, j10.t, fun H11 x11 T11 => ⟨_, rfl, iteF ⟨rfl, j10.ext x11 T11⟩⟩⟩
    clear j
    rintro σ H5 ⟨rfl, j⟩
    refine ⟨fun σ H5 => ∃ x, σ = [some (.ref a0), some (.ref B), v2, some va, some vb, some vc, some (.ref x)] ∧ Lw K T B p va vb vc qs rs ts H5 ∧ StF K S H5 (.ref x) qs, ?_, ?_⟩
    · obtain ⟨a, xs, rfl, ha, nx⟩ := id j.l
      refine ⟨_, rfl, fun x dx xn dn en => ?_⟩
      exact step_newF (E := fun _ _ _ => False) (.inl ha) nx l2 l24 xn dn en fun H6 s6 hX => ⟨rfl, x, rfl, j.same s6, hX⟩
    clear j
    rintro σ H5 ⟨x, rfl, j, hX⟩
    obtain ⟨x', dx, fs, ex, hx, _, _, _, fn, fr⟩ := hX.ins
    obtain rfl := V.ref.inj ex
    obtain ⟨a, xs, rfl, ha, nx⟩ := id j.l
    refine ⟨_, rfl, _, rfl, x, dx, fs, rfl, hx, fr, _, qs, rfl, hX, fun H6 y s6 r6 => ?_⟩
    obtain ⟨y', dy, _, _, rfl, hy, _⟩ := id r6
    have tC := U.rk.ty _ _ _ _ hy
    refine ⟨x, dx, _, .ref C, rfl, s6 _ _ hx, tC, W.n2, _, _, qs, rfl, (hX.same s6).st, .inr ⟨.ref C, tC, W.sR, _, rfl, iteF ?_⟩⟩
    refine ⟨_, rfl, x, dx, fs, rfl, s6 _ _ hx, fr, _, qs, rfl, hX.same s6, fun H7 z s7 r7 => ?_⟩
    have s67 := s6.trans s7
    obtain ⟨z', dz, _, _, rfl, hz, _⟩ := id r7
    have tS := U.sk.ty _ _ _ _ (s67 _ _ hx)
    refine ⟨_, rfl, z', dz, _, .ref S, rfl, hz, tS, W.n1, _, _, _, rfl, r7, .inr ⟨.ref S, tS, U.sk.kR, _, rfl, iteF ?_⟩⟩
    refine ⟨_, rfl, _, rfl, x, dx, fs, rfl, s67 _ _ hx, fn, _, qs, rfl, (hX.same s67).st, fun d H8 zs s8 n8 e8 k8 => ?_⟩
    have s68 := s67.trans s8
    have tL : TyX K H8 (.ref d) (.type "list") := .base (.lst e8)
    refine ⟨x, dx, _, _, rfl, s68 _ _ hx, tL, W.n3 _ (by simp), _, _, qs, rfl, (hX.same s68).st, .inr ⟨_, tL, W.k3 _ (by simp), _, rfl, iteF ?_⟩⟩
    have tT : TyX K H8 (.str "still") (.type "str") := .base (.str _)
    refine ⟨_, rfl, x, dx, _, _, rfl, s68 _ _ hx, tT, W.n3 _ (by simp), _, _, qs, rfl, (hX.same s68).st, .inr ⟨_, tT, W.k3 _ (by simp), _, rfl, iteF ?_⟩⟩
    refine ⟨_, rfl, _, rfl, a, xs, rfl, .inl ⟨SqL.of (s68 _ _ ha), fun t nt => ?_⟩⟩
    have s9 := new_same nt (HO.tup xs)
    have s69 := s68.trans s9
    have tU : TyX K (upd H8 t (HO.tup xs)) (.ref t) (.type "tuple") := .base (.tup upd_same)
    have j2 := j.same s69
    exact ⟨x, dx, _, _, rfl, s69 _ _ hx, tU, W.n3 _ (by simp), _, _, qs, rfl, (hX.same s69).st, .inr ⟨_, tU, W.k3 _ (by simp), _, rfl, iteF ⟨⟨_, _, _, _, _, rfl⟩, j2.b, j2.t⟩⟩⟩
  · rintro σ H' ⟨⟨v2, v3, v4, v5, v6, rfl⟩, _, _⟩
    exact q H'
end
end Kx
end
section
set_option maxHeartbeats 4000000
namespace Kx
open PySem PySem.Spec PyProof.Rows L2
theorem kpB_ok {K : PySem.W.Frag} {a : Addr} {x y : Int} (h : kpB K a x y = true) : KP K a x y := by
  unfold kpB at h
  split at h
  · rename_i c d its n sl q
    obtain ⟨h1, h⟩ := He.ba h
    obtain ⟨h2, h3⟩ := He.ba h
    exact ⟨_, its, n, q, congrArg Value.type (of_decide_eq_true h1), rfl, of_decide_eq_true h2, He.relAll_ok h3⟩
  · cases h
theorem owB_ok {K : PySem.W.Frag} {C iA sA gA : Addr} {m : Str} {ns : List Str} (h : owB K C iA sA gA m ns = true) (hk : PySem.W.keepIn K (.ref gA) = true) :
    Cls K C ∧ (∀ n ∈ ns, NoAttr K C n) ∧ Mk K C iA ∧ ClX.CRead K C (.type "type") ∧ CSta K C (.type "type") m sA gA ∧ ∀ (H : Hp) a dx fs, H a = some (.ins C dx fs) → TyX K H (.ref a) (.ref C) := by
  unfold owB at h
  obtain ⟨a1, h⟩ := He.ba h
  obtain ⟨a2, h⟩ := He.ba h
  obtain ⟨a3, h⟩ := He.ba h
  obtain ⟨a4, h⟩ := He.ba h
  obtain ⟨a5, h⟩ := He.ba h
  obtain ⟨a6, h⟩ := He.ba h
  obtain ⟨a7, h⟩ := He.ba h
  obtain ⟨a8, h⟩ := He.ba h
  obtain ⟨a9, h⟩ := He.ba h
  obtain ⟨b1, h⟩ := He.ba h
  obtain ⟨b2, h⟩ := He.ba h
  obtain ⟨b3, h⟩ := He.ba h
  obtain ⟨b4, h⟩ := He.ba h
  obtain ⟨b5, h⟩ := He.ba h
  obtain ⟨b6, h⟩ := He.ba h
  obtain ⟨b7, h⟩ := He.ba h
  obtain ⟨b8, b9⟩ := He.ba h
  have cls : Cls K C := ⟨a1, a2, a3, He.eqO_ok a4⟩
  obtain ⟨w1, w2⟩ := He5.wrapB_ok b1
  rw [of_decide_eq_true b2] at w1 w2
  rw [of_decide_eq_true b3] at w2
  exact ⟨cls, fun n hn => He.eqO_ok (List.all_eq_true.mp a5 n hn), ⟨a6, He.eqO_ok a7, a8, a9⟩, ⟨b4, He.eqO_ok b5⟩, ⟨w1, w2, hk⟩,
    fun H a dx fs e => .base (.ins e cls (He.eqO_ok b6) (He.eqO_ok b7) (of_decide_eq_true b8) (of_decide_eq_true b9))⟩
theorem exB_ok {K : PySem.W.Frag} {C iA : Addr} {mb : List Value} {nw : String} {ns : List Str} (h : exB K C iA mb nw ns = true) (hb : ∃ B iid, ExcBaseFacts B nw iid mb ∧ StoreFacts B mb "object.__setattr__" "object") :
    XC K C ∧ PySem.W.typeIn K (.ref C) = some (.type "type") ∧ PySem.W.findIn K (.ref C) "__init__" = some (some (.ref iA)) ∧ PySem.W.isFn K (.ref iA) = true ∧ ∀ n ∈ ns, PySem.W.findIn K (.ref C) n = some none := by
  unfold exB at h
  obtain ⟨B, iid, FB, SF⟩ := hb
  obtain ⟨a1, h⟩ := He.ba h
  obtain ⟨a2, h⟩ := He.ba h
  obtain ⟨a3, h⟩ := He.ba h
  obtain ⟨a4, h⟩ := He.ba h
  obtain ⟨a5, h⟩ := He.ba h
  obtain ⟨a6, h⟩ := He.ba h
  obtain ⟨a7, h⟩ := He.ba h
  obtain ⟨a8, h⟩ := He.ba h
  obtain ⟨a9, h⟩ := He.ba h
  obtain ⟨b1, h⟩ := He.ba h
  obtain ⟨b2, h⟩ := He.ba h
  obtain ⟨b3, h⟩ := He.ba h
  obtain ⟨b4, h⟩ := He.ba h
  obtain ⟨b5, h⟩ := He.ba h
  obtain ⟨b6, h⟩ := He.ba h
  obtain ⟨b7, b8⟩ := He.ba h
  exact ⟨⟨⟨B, nw, iid, mb, FB, SF, a1, a2⟩, a3, a4, He.eqO_ok a5, He.eqO_ok a6, He.eqO_ok a7, of_decide_eq_true a8, He.eqO_ok a9, He.eqO_ok b1, of_decide_eq_true b2, of_decide_eq_true b3, b4⟩, of_decide_eq_true b5, He.eqO_ok b6, b7, fun n hn => He.eqO_ok (List.all_eq_true.mp b8 n hn)⟩
section
variable {K : PySem.W.Frag}
theorem SaysR.fact (c : SaysR K) (i : Nat) {f : PySem.W.Frag → Bool} (h : faT[i]? = some f := by rfl) : f K = true :=
  List.all_eq_true.mp (He.ba (show ((faT.all fun f => f K) && fnT.all fun d => d.ok K) = true from congrArg (fun z : ObV => z.1) c)).1 f (List.mem_of_getElem? h)
theorem SaysR.def_ (c : SaysR K) (i : Nat) {d : He5.DefA} (h : fnT[i]? = some d) : ∃ fd, L2.FunD K d.name d.qual d.params d.body d.scope (d.dvs K) (d.kws K) (d.at_ K) fd := by
  have c2 := (He.ba (show ((faT.all fun f => f K) && fnT.all fun d => d.ok K) = true from congrArg (fun z : ObV => z.1) c)).2
  have e : fnT.map (fun d => He5.fnA K (d.at_ K)) = fnT.map He5.DefA.val := congrArg (fun z : ObV => z.2) c
  have e2 : (fnT.map fun d => He5.fnA K (d.at_ K))[i]? = (fnT.map He5.DefA.val)[i]? := by rw [e]
  rw [List.getElem?_map, List.getElem?_map, h] at e2
  exact He5.DefA.funD (Option.some.inj e2) (List.all_eq_true.mp c2 d (List.mem_of_getElem? h))
theorem fun_ld (c : SaysR K) (i : Nat) {d : LD} (h : ldT[i]? = some d) : ∃ fd, Fun K d.nm d.nm (top d.ix) d.f fd := by
  obtain ⟨fd, F⟩ := c.def_ (i + 20) (d := ldD d) (by
    show (clT ++ ldT.map ldD)[i + 20]? = _
    rw [List.getElem?_append_right (by show 20 ≤ i + 20; omega)]
    show (ldT.map ldD)[i + 20 - 20]? = _
    rw [Nat.add_sub_cancel, List.getElem?_map, h]
    rfl)
  exact ⟨fd, He5.fun_of F⟩
theorem fun_cl (c : SaysR K) (i : Nat) {q nm : Str} {f : Addr} {st : Stmt} (h : fnT[i]? = some (mtD q nm f st) := by rfl) : ∃ fd, Fun K nm q st f fd := by
  obtain ⟨fd, F⟩ := c.def_ i h
  exact ⟨fd, He5.fun_of F⟩
theorem fun_c {x q : Str} {st : Stmt} {f c : Addr} {fd : FuncData} (F : Fun K x q st f fd) (h : codeB K f c = true) : FunC K x q st f fd c := by
  obtain ⟨oc, od, kV, doc, pm, an, cdv, ct, osl, rfl, lk, hcd⟩ := F.ex
  have e : cdv = .ref c := by
    unfold codeB at h
    rw [lk] at h
    cases cdv <;> first | exact congrArg Value.ref (of_decide_eq_true h) | exact (Bool.false_ne_true h).elim
  subst e
  exact ⟨⟨oc, od, kV, doc, pm, an, ct, osl, rfl, lk, hcd⟩, F.kp⟩
section
variable {h : Heap} {mg : Str → Option Value}
theorem mg_ld (X : K.In h) (G : h.Ns mainGlobals mg) (c : SaysR K) {d : LD} (hd : d ∈ ldT) : mg d.nm = some (.ref d.f) := PySem.W.mg_of X G (He.eqO_ok (List.all_eq_true.mp (c.fact 0) d hd))
theorem mg_free (X : K.In h) (G : h.Ns mainGlobals mg) (c : SaysR K) {x : Str} (hx : x ∈ freeN) : mg x = none := PySem.W.mg_none_of X G (He.eqO_ok (List.all_eq_true.mp (c.fact 1) x hx))
theorem mg_at (X : K.In h) (G : h.Ns mainGlobals mg) {x : Str} {v : Value} (e : He.eqO (PySem.W.nsIn K mainGlobals x) (some (some v)) = true) : mg x = some v := PySem.W.mg_of X G (He.eqO_ok e)
theorem at_ld (X : K.In h) (G : h.Ns mainGlobals mg) (c : SaysR K) {d : LD} (i : Nat) (e : ldT[i]? = some d) : (∃ fd, Fun K d.nm d.nm (top d.ix) d.f fd) ∧ mg d.nm = some (.ref d.f) := ⟨fun_ld c i e, mg_ld X G c (List.mem_of_getElem? e)⟩
end
end
end Kx
end
section
set_option maxHeartbeats 4000000
namespace Kx
open PySem PySem.Spec PyProof.Rows L2
section
variable {P : Program} {w : World} {K : PySem.W.Frag} {mg : Str → Option Value} {h base : Heap} {CX : CXT} {k : Nat} {x : Str} {f : Addr} {fd : FuncData} {ps ks : List Str} {sp : Sp}
theorem use0 (G : FnOk P w K mg base CX k f fd ps sp) (b : Binds K fd ps []) (kp : PySem.W.keepIn K (.ref f) = true) (m : mg x = some (.ref f)) : Use P w K mg base CX k x ps sp [] := ⟨⟨f, fd, G, b, kp, m, (fun _ h => (nomatch h)), (fun _ h => (nomatch h))⟩⟩
theorem useR (G : FnOk P w K mg base CX k f fd ps sp) (b : Binds K fd ps []) (kp : PySem.W.keepIn K (.ref f) = true) (m : mg x = some (.ref f)) (kb : KBn K fd ps 0 ks revB revA) (hl : ¬ (ks.length = 1 ∧ ps.length = 2)) : Use P w K mg base CX k x ps sp [ks] :=
  ⟨⟨f, fd, G, b, kp, m, fun ks' h _ => by rw [List.mem_singleton.mp h]; exact kb, fun ks' h l1 l2 => absurd ⟨by rw [← List.mem_singleton.mp h]; exact l1, l2⟩ hl⟩⟩
theorem useN (G : FnOk P w K mg base CX k f fd ps sp) (b : Binds K fd ps []) (kp : PySem.W.keepIn K (.ref f) = true) (m : mg x = some (.ref f)) (kb : KBn K fd ps 1 ks appB appA) (hl : ks.length ≠ ps.length) : Use P w K mg base CX k x ps sp [ks] :=
  ⟨⟨f, fd, G, b, kp, m, fun ks' h l => absurd (by rw [← List.mem_singleton.mp h]; exact l) hl, fun ks' h _ _ => by rw [List.mem_singleton.mp h]; exact kb⟩⟩
end
def csT : List (Addr × Addr) := [(984, 980), (989, 987), (996, 992), (1003, 999), (1008, 1006)]
theorem c1 : ((984 : Addr), (980 : Addr)) ∈ csT := List.mem_cons_self
theorem c2 : ((989 : Addr), (987 : Addr)) ∈ csT := List.mem_cons_of_mem _ (List.mem_cons_self)
theorem c3 : ((996 : Addr), (992 : Addr)) ∈ csT := List.mem_cons_of_mem _ (List.mem_cons_of_mem _ (List.mem_cons_self))
theorem c4 : ((1003 : Addr), (999 : Addr)) ∈ csT := List.mem_cons_of_mem _ (List.mem_cons_of_mem _ (List.mem_cons_of_mem _ (List.mem_cons_self)))
theorem c5 : ((1008 : Addr), (1006 : Addr)) ∈ csT := List.mem_cons_of_mem _ (List.mem_cons_of_mem _ (List.mem_cons_of_mem _ (List.mem_cons_of_mem _ (List.mem_cons_self))))
abbrev lmN (x : Str) : Str := (x ++ ".<locals>.") ++ "<lambda>"
def tbT : List (Addr × Str) := [(980, lmN "_law_made_so"), (987, lmN "_law_gone_so"), (992, lmN "_law_cut_so"), (999, lmN "_law_scaling_so"), (1006, lmN "_law_compared_so")]
theorem t1 : ((980 : Addr), lmN "_law_made_so") ∈ tbT := List.mem_cons_self
theorem t2 : ((987 : Addr), lmN "_law_gone_so") ∈ tbT := List.mem_cons_of_mem _ (List.mem_cons_self)
theorem t3 : ((992 : Addr), lmN "_law_cut_so") ∈ tbT := List.mem_cons_of_mem _ (List.mem_cons_of_mem _ (List.mem_cons_self))
theorem t4 : ((999 : Addr), lmN "_law_scaling_so") ∈ tbT := List.mem_cons_of_mem _ (List.mem_cons_of_mem _ (List.mem_cons_of_mem _ (List.mem_cons_self)))
theorem t5 : ((1006 : Addr), lmN "_law_compared_so") ∈ tbT := List.mem_cons_of_mem _ (List.mem_cons_of_mem _ (List.mem_cons_of_mem _ (List.mem_cons_of_mem _ (List.mem_cons_self))))
theorem mem5 {α : Type} {p a b c d e : α} (h : p ∈ [a, b, c, d, e]) : p = a ∨ p = b ∨ p = c ∨ p = d ∨ p = e := by simpa using h
theorem tu1 : ∀ p ∈ tbT, p.1 = 980 → p.2 = lmN "_law_made_so" := fun p hp e => by
  rcases mem5 hp with h | h | h | h | h <;> rw [h] at e ⊢
  · exact absurd (show (987 : Nat) = 980 from e) (by decide)
  · exact absurd (show (992 : Nat) = 980 from e) (by decide)
  · exact absurd (show (999 : Nat) = 980 from e) (by decide)
  · exact absurd (show (1006 : Nat) = 980 from e) (by decide)
theorem tu2 : ∀ p ∈ tbT, p.1 = 987 → p.2 = lmN "_law_gone_so" := fun p hp e => by
  rcases mem5 hp with h | h | h | h | h <;> rw [h] at e ⊢
  · exact absurd (show (980 : Nat) = 987 from e) (by decide)
  · exact absurd (show (992 : Nat) = 987 from e) (by decide)
  · exact absurd (show (999 : Nat) = 987 from e) (by decide)
  · exact absurd (show (1006 : Nat) = 987 from e) (by decide)
theorem tu3 : ∀ p ∈ tbT, p.1 = 992 → p.2 = lmN "_law_cut_so" := fun p hp e => by
  rcases mem5 hp with h | h | h | h | h <;> rw [h] at e ⊢
  · exact absurd (show (980 : Nat) = 992 from e) (by decide)
  · exact absurd (show (987 : Nat) = 992 from e) (by decide)
  · exact absurd (show (999 : Nat) = 992 from e) (by decide)
  · exact absurd (show (1006 : Nat) = 992 from e) (by decide)
theorem tu4 : ∀ p ∈ tbT, p.1 = 999 → p.2 = lmN "_law_scaling_so" := fun p hp e => by
  rcases mem5 hp with h | h | h | h | h <;> rw [h] at e ⊢
  · exact absurd (show (980 : Nat) = 999 from e) (by decide)
  · exact absurd (show (987 : Nat) = 999 from e) (by decide)
  · exact absurd (show (992 : Nat) = 999 from e) (by decide)
  · exact absurd (show (1006 : Nat) = 999 from e) (by decide)
theorem tu5 : ∀ p ∈ tbT, p.1 = 1006 → p.2 = lmN "_law_compared_so" := fun p hp e => by
  rcases mem5 hp with h | h | h | h | h <;> rw [h] at e ⊢
  · exact absurd (show (980 : Nat) = 1006 from e) (by decide)
  · exact absurd (show (987 : Nat) = 1006 from e) (by decide)
  · exact absurd (show (992 : Nat) = 1006 from e) (by decide)
  · exact absurd (show (999 : Nat) = 1006 from e) (by decide)
theorem all6 {f : _root_.Fin 6 → Bool} (h : (List.finRange 6).all f = true) (i : _root_.Fin 6) : f i = true := List.all_eq_true.mp h i (List.mem_finRange i)
section
variable {P : Program} {w : World} {K : PySem.W.Frag} {mg : Str → Option Value} {h : Heap}
theorem facts {f : Addr} (X : K.In h) (G : h.Ns mainGlobals mg) (hfa : mg ("law" : Str) = some (.ref f)) (c : SaysR K) :
    ∃ fd : FuncData, (∀ (s : Shared) (v : Value), BindsTo s fd ⟨[v], []⟩ [("_law_script", v)]) ∧ ∀ base : Heap, K.In base → base.Ns mainGlobals mg → (∀ p ∈ csT, LamX.TabB base mg p.1 p.2) → FnOk P w K mg base CX0 12 f fd ["_law_script"] (spLaw K tbT) := by
  have mf : ∀ x ∈ freeN, mg x = none := fun x hx => mg_free X G c hx
  have mn := mf "len" (by decide)
  have mI := mf "isinstance" (by decide)
  have ml := mf "list" (by decide)
  have mt := mf "tuple" (by decide)
  have mi := mf "int" (by decide)
  have mr := mf "range" (by decide)
  have ma := mf "all" (by decide)
  have mz := mf "zip" (by decide)
  have mb := mf "bool" (by decide)
  have ms := mf "str" (by decide)
  have mabs := mf "abs" (by decide)
  have men := mf "enumerate" (by decide)
  have msum := mf "sum" (by decide)
  have mG : mg "gcd" = some (.builtin "math.gcd") := mg_at X G (c.fact 2)
  have mLc : mg "lcm" = some (.builtin "math.lcm") := mg_at X G (c.fact 3)
  have mS : mg "Step" = some (.ref stA) := mg_at X G (c.fact 4)
  have mR : mg "Row" = some (.ref rwA) := mg_at X G (c.fact 5)
  have mZ : mg "ZERO" = some (.ref zeA) := mg_at X G (c.fact 6)
  have mO : mg "ONE" = some (.ref onA) := mg_at X G (c.fact 7)
  have mM : mg "MINUS_ONE" = some (.ref moA) := mg_at X G (c.fact 8)
  have mC : mg "CreepError" = some (.ref ceA) := mg_at X G (c.fact 9)
  have mLO : ∃ u, mg "LOWEST_ORDER" = some u ∧ RelV (.int 2) u := let ⟨t, e⟩ := He.int_ok X G (c.fact 10); ⟨_, e, t, rfl⟩
  have mHO : ∃ u, mg "HIGHEST_ORDER" = some u ∧ RelV (.int 24) u := let ⟨t, e⟩ := He.int_ok X G (c.fact 11); ⟨_, e, t, rfl⟩
  have k0 : KP K zeA 0 1 := kpB_ok (c.fact 12)
  have k1 : KP K onA 1 1 := kpB_ok (c.fact 13)
  have km : KP K moA (-1) 1 := kpB_ok (c.fact 14)
  obtain ⟨dm0, Fm0⟩ := fun_cl c 0
  obtain ⟨dm1, Fm1⟩ := fun_cl c 1
  obtain ⟨dm2, Fm2⟩ := fun_cl c 2
  obtain ⟨dm3, Fm3⟩ := fun_cl c 3
  obtain ⟨dm4, Fm4⟩ := fun_cl c 4
  obtain ⟨dm5, Fm5⟩ := fun_cl c 5
  obtain ⟨dm6, Fm6⟩ := fun_cl c 6
  obtain ⟨dm7, Fm7⟩ := fun_cl c 7
  obtain ⟨dm8, Fm8⟩ := fun_cl c 8
  obtain ⟨dm9, Fm9⟩ := fun_cl c 9
  obtain ⟨dm10, Fm10⟩ := fun_cl c 10
  obtain ⟨dm11, Fm11⟩ := fun_cl c 11
  obtain ⟨dm12, Fm12⟩ := fun_cl c 12
  obtain ⟨dm13, Fm13⟩ := fun_cl c 13
  obtain ⟨dm14, Fm14⟩ := fun_cl c 14
  obtain ⟨dm15, Fm15⟩ := fun_cl c 15
  obtain ⟨dm16, Fm16⟩ := fun_cl c 16
  obtain ⟨dm17, Fm17⟩ := fun_cl c 17
  obtain ⟨dm18, Fm18⟩ := fun_cl c 18
  obtain ⟨dm19, Fm19⟩ := fun_cl c 19
  obtain ⟨clS, nAS, MkS, rS, cS, tyS'⟩ := owB_ok (c.fact 15) Fm1.kp
  obtain ⟨clR, nAR, MkR, rR, cR, tyR'⟩ := owB_ok (c.fact 16) Fm13.kp
  have cL : CSta K stA (.type "type") "scaling" 711 709 := by
    obtain ⟨w0, w3⟩ := He.ba (c.fact 54)
    obtain ⟨w4, w5⟩ := He.ba w3
    obtain ⟨w1, w2⟩ := He5.wrapB_ok w0
    rw [of_decide_eq_true w4] at w1 w2
    rw [of_decide_eq_true w5] at w2
    exact ⟨w1, w2, Fm2.kp⟩
  obtain ⟨x0, ty0, i0, fi0, n0⟩ := exB_ok (c.fact 17) ⟨_, _, F.excBase_ValueError, F.store_ValueError⟩
  obtain ⟨x1, ty1, i1, fi1, n1⟩ := exB_ok (c.fact 18) ⟨_, _, F.excBase_ValueError, F.store_ValueError⟩
  obtain ⟨x2, ty2, i2, fi2, n2⟩ := exB_ok (c.fact 19) ⟨_, _, F.excBase_ValueError, F.store_ValueError⟩
  obtain ⟨x3, ty3, i3, fi3, n3⟩ := exB_ok (c.fact 20) ⟨_, _, F.excBase_ValueError, F.store_ValueError⟩
  obtain ⟨x4, ty4, i4, fi4, n4⟩ := exB_ok (c.fact 21) ⟨_, _, F.excBase_ValueError, F.store_ValueError⟩
  obtain ⟨x5, ty5, i5, fi5, n5⟩ := exB_ok (c.fact 22) ⟨_, _, F.excBase_ValueError, F.store_ValueError⟩
  obtain ⟨⟨d_is_whole, F_is_whole⟩, g_is_whole⟩ := at_ld X G c 0 rfl
  obtain ⟨⟨d_is_between, F_is_between⟩, g_is_between⟩ := at_ld X G c 1 rfl
  obtain ⟨⟨d_is_fraction, F_is_fraction⟩, g_is_fraction⟩ := at_ld X G c 2 rfl
  obtain ⟨⟨d_is_listing, F_is_listing⟩, g_is_listing⟩ := at_ld X G c 3 rfl
  obtain ⟨⟨d_check_order, F_check_order⟩, g_check_order⟩ := at_ld X G c 4 rfl
  obtain ⟨⟨d_check_orders, F_check_orders⟩, g_check_orders⟩ := at_ld X G c 5 rfl
  obtain ⟨⟨d_check_cut, F_check_cut⟩, g_check_cut⟩ := at_ld X G c 6 rfl
  obtain ⟨⟨d_check_place, F_check_place⟩, g_check_place⟩ := at_ld X G c 7 rfl
  obtain ⟨⟨d_check_number, F_check_number⟩, g_check_number⟩ := at_ld X G c 8 rfl
  obtain ⟨⟨d_wrong_item, F_wrong_item⟩, g_wrong_item⟩ := at_ld X G c 9 rfl
  obtain ⟨⟨d_check_fractions, F_check_fractions⟩, g_check_fractions⟩ := at_ld X G c 10 rfl
  obtain ⟨⟨d_checked_numbers, F_checked_numbers⟩, g_checked_numbers⟩ := at_ld X G c 11 rfl
  obtain ⟨⟨d_is_zero, F_is_zero⟩, g_is_zero⟩ := at_ld X G c 12 rfl
  obtain ⟨⟨d_least_place, F_least_place⟩, g_least_place⟩ := at_ld X G c 13 rfl
  obtain ⟨⟨d_still_numbers, F_still_numbers⟩, g_still_numbers⟩ := at_ld X G c 14 rfl
  obtain ⟨⟨d_kind_of, F_kind_of⟩, g_kind_of⟩ := at_ld X G c 15 rfl
  obtain ⟨⟨d_first_difference, F_first_difference⟩, g_first_difference⟩ := at_ld X G c 16 rfl
  obtain ⟨⟨d__law_bag, F__law_bag⟩, g__law_bag⟩ := at_ld X G c 17 rfl
  obtain ⟨⟨d__law_draw, F__law_draw⟩, g__law_draw⟩ := at_ld X G c 18 rfl
  obtain ⟨⟨d__law_of, F__law_of⟩, g__law_of⟩ := at_ld X G c 19 rfl
  obtain ⟨⟨d__law_like, F__law_like⟩, g__law_like⟩ := at_ld X G c 20 rfl
  obtain ⟨⟨d__law_low, F__law_low⟩, g__law_low⟩ := at_ld X G c 21 rfl
  obtain ⟨⟨d__law_add, F__law_add⟩, g__law_add⟩ := at_ld X G c 22 rfl
  obtain ⟨⟨d__law_still, F__law_still⟩, g__law_still⟩ := at_ld X G c 23 rfl
  obtain ⟨⟨d__law_number, F__law_number⟩, g__law_number⟩ := at_ld X G c 24 rfl
  obtain ⟨⟨d__law_full, F__law_full⟩, g__law_full⟩ := at_ld X G c 25 rfl
  obtain ⟨⟨d__law_spread, F__law_spread⟩, g__law_spread⟩ := at_ld X G c 26 rfl
  obtain ⟨⟨d__law_lead, F__law_lead⟩, g__law_lead⟩ := at_ld X G c 27 rfl
  obtain ⟨⟨d__law_step, F__law_step⟩, g__law_step⟩ := at_ld X G c 28 rfl
  obtain ⟨⟨d__law_odd, F__law_odd⟩, g__law_odd⟩ := at_ld X G c 29 rfl
  obtain ⟨⟨d__law_bent, F__law_bent⟩, g__law_bent⟩ := at_ld X G c 30 rfl
  obtain ⟨⟨d__law_spoilt, F__law_spoilt⟩, g__law_spoilt⟩ := at_ld X G c 31 rfl
  obtain ⟨⟨d__law_is, F__law_is⟩, g__law_is⟩ := at_ld X G c 32 rfl
  obtain ⟨⟨d__law_any_size, F__law_any_size⟩, g__law_any_size⟩ := at_ld X G c 33 rfl
  obtain ⟨⟨d__law_not_order, F__law_not_order⟩, g__law_not_order⟩ := at_ld X G c 34 rfl
  obtain ⟨⟨d__law_list, F__law_list⟩, g__law_list⟩ := at_ld X G c 35 rfl
  obtain ⟨⟨d__law_refused, F__law_refused⟩, g__law_refused⟩ := at_ld X G c 36 rfl
  obtain ⟨⟨d__law_kind, F__law_kind⟩, g__law_kind⟩ := at_ld X G c 37 rfl
  obtain ⟨⟨d__law_fault, F__law_fault⟩, g__law_fault⟩ := at_ld X G c 38 rfl
  obtain ⟨⟨d__law_ask, F__law_ask⟩, g__law_ask⟩ := at_ld X G c 39 rfl
  obtain ⟨⟨d__law_told_so, F__law_told_so⟩, g__law_told_so⟩ := at_ld X G c 40 rfl
  obtain ⟨⟨d__law_made_so, F__law_made_so⟩, g__law_made_so⟩ := at_ld X G c 41 rfl
  obtain ⟨⟨d__law_gone_so, F__law_gone_so⟩, g__law_gone_so⟩ := at_ld X G c 42 rfl
  obtain ⟨⟨d__law_cut_so, F__law_cut_so⟩, g__law_cut_so⟩ := at_ld X G c 43 rfl
  obtain ⟨⟨d__law_scaling_so, F__law_scaling_so⟩, g__law_scaling_so⟩ := at_ld X G c 44 rfl
  obtain ⟨⟨d__law_compared_so, F__law_compared_so⟩, g__law_compared_so⟩ := at_ld X G c 45 rfl
  obtain ⟨⟨d_law, F_law⟩, g_law⟩ := at_ld X G c 46 rfl
  have b_is_whole : Binds K d_is_whole ["value"] [] := F_is_whole.binds fun _ _ _ _ _ _ us hl => match us, hl with | [_], _ => rfl
  have b_is_between : Binds K d_is_between ["value", "low", "high"] [] := F_is_between.binds fun _ _ _ _ _ _ us hl => match us, hl with | [_, _, _], _ => rfl
  have b_is_fraction : Binds K d_is_fraction ["value"] [] := F_is_fraction.binds fun _ _ _ _ _ _ us hl => match us, hl with | [_], _ => rfl
  have b_is_listing : Binds K d_is_listing ["value"] [] := F_is_listing.binds fun _ _ _ _ _ _ us hl => match us, hl with | [_], _ => rfl
  have b_check_order : Binds K d_check_order ["order"] [] := F_check_order.binds fun _ _ _ _ _ _ us hl => match us, hl with | [_], _ => rfl
  have b_check_orders : Binds K d_check_orders ["one", "other"] [] := F_check_orders.binds fun _ _ _ _ _ _ us hl => match us, hl with | [_, _], _ => rfl
  have b_check_cut : Binds K d_check_cut ["have", "wanted"] [] := F_check_cut.binds fun _ _ _ _ _ _ us hl => match us, hl with | [_, _], _ => rfl
  have b_check_place : Binds K d_check_place ["place", "first", "last"] [] := F_check_place.binds fun _ _ _ _ _ _ us hl => match us, hl with | [_, _, _], _ => rfl
  have b_check_number : Binds K d_check_number ["value"] [] := F_check_number.binds fun _ _ _ _ _ _ us hl => match us, hl with | [_], _ => rfl
  have b_wrong_item : Binds K d_wrong_item ["numbers"] [] := F_wrong_item.binds fun _ _ _ _ _ _ us hl => match us, hl with | [_], _ => rfl
  have b_check_fractions : Binds K d_check_fractions ["numbers"] [] := F_check_fractions.binds fun _ _ _ _ _ _ us hl => match us, hl with | [_], _ => rfl
  have b_checked_numbers : Binds K d_checked_numbers ["numbers", "further"] [] := F_checked_numbers.binds fun _ _ _ _ _ _ us hl => match us, hl with | [_, _], _ => rfl
  have b_is_zero : Binds K d_is_zero ["numbers"] [] := F_is_zero.binds fun _ _ _ _ _ _ us hl => match us, hl with | [_], _ => rfl
  have b_least_place : Binds K d_least_place ["numbers", "first"] [] := F_least_place.binds fun _ _ _ _ _ _ us hl => match us, hl with | [_, _], _ => rfl
  have b_still_numbers : Binds K d_still_numbers ["order"] [] := F_still_numbers.binds fun _ _ _ _ _ _ us hl => match us, hl with | [_], _ => rfl
  have b_kind_of : Binds K d_kind_of ["numbers"] [] := F_kind_of.binds fun _ _ _ _ _ _ us hl => match us, hl with | [_], _ => rfl
  have b_first_difference : Binds K d_first_difference ["one", "other"] [] := F_first_difference.binds fun _ _ _ _ _ _ us hl => match us, hl with | [_, _], _ => rfl
  have b__law_bag : Binds K d__law_bag ["_law_script"] [] := F__law_bag.binds fun _ _ _ _ _ _ us hl => match us, hl with | [_], _ => rfl
  have b__law_draw : Binds K d__law_draw ["_law_bag_here", "_law_limit"] [] := F__law_draw.binds fun _ _ _ _ _ _ us hl => match us, hl with | [_, _], _ => rfl
  have b__law_of : Binds K d__law_of ["_law_bag_here", "_law_things"] [] := F__law_of.binds fun _ _ _ _ _ _ us hl => match us, hl with | [_, _], _ => rfl
  have b__law_like : Binds K d__law_like ["_law_told", "_law_due"] [] := F__law_like.binds fun _ _ _ _ _ _ us hl => match us, hl with | [_, _], _ => rfl
  have b__law_low : Binds K d__law_low ["_law_p", "_law_q"] [] := F__law_low.binds fun _ _ _ _ _ _ us hl => match us, hl with | [_, _], _ => rfl
  have b__law_add : Binds K d__law_add ["_law_a", "_law_b"] [] := F__law_add.binds fun _ _ _ _ _ _ us hl => match us, hl with | [_, _], _ => rfl
  have b__law_still : Binds K d__law_still ["_law_size"] [] := F__law_still.binds fun _ _ _ _ _ _ us hl => match us, hl with | [_], _ => rfl
  have b__law_number : Binds K d__law_number ["_law_bag_here"] [] := F__law_number.binds fun _ _ _ _ _ _ us hl => match us, hl with | [_], _ => rfl
  have b__law_full : Binds K d__law_full ["_law_bag_here"] [] := F__law_full.binds fun _ _ _ _ _ _ us hl => match us, hl with | [_], _ => rfl
  have b__law_spread : Binds K d__law_spread ["_law_bag_here", "_law_size", "_law_first"] [] := F__law_spread.binds fun _ _ _ _ _ _ us hl => match us, hl with | [_, _, _], _ => rfl
  have b__law_lead : Binds K d__law_lead ["_law_bag_here"] [] := F__law_lead.binds fun _ _ _ _ _ _ us hl => match us, hl with | [_], _ => rfl
  have b__law_step : Binds K d__law_step ["_law_bag_here", "_law_size"] [] := F__law_step.binds fun _ _ _ _ _ _ us hl => match us, hl with | [_, _], _ => rfl
  have b__law_odd : Binds K d__law_odd ["_law_bag_here"] [] := F__law_odd.binds fun _ _ _ _ _ _ us hl => match us, hl with | [_], _ => rfl
  have b__law_bent : Binds K d__law_bent ["_law_bag_here", "_law_a"] [] := F__law_bent.binds fun _ _ _ _ _ _ us hl => match us, hl with | [_, _], _ => rfl
  have b__law_spoilt : Binds K d__law_spoilt ["_law_bag_here", "_law_a"] [] := F__law_spoilt.binds fun _ _ _ _ _ _ us hl => match us, hl with | [_, _], _ => rfl
  have b__law_is : Binds K d__law_is ["_law_thing"] [] := F__law_is.binds fun _ _ _ _ _ _ us hl => match us, hl with | [_], _ => rfl
  have b__law_any_size : Binds K d__law_any_size ["_law_bag_here"] [] := F__law_any_size.binds fun _ _ _ _ _ _ us hl => match us, hl with | [_], _ => rfl
  have b__law_not_order : Binds K d__law_not_order ["_law_bag_here"] [] := F__law_not_order.binds fun _ _ _ _ _ _ us hl => match us, hl with | [_], _ => rfl
  have b__law_list : Binds K d__law_list ["_law_bag_here"] [] := F__law_list.binds fun _ _ _ _ _ _ us hl => match us, hl with | [_], _ => rfl
  have b__law_refused : Binds K d__law_refused ["_law_some", "_law_less"] [] := F__law_refused.binds fun _ _ _ _ _ _ us hl => match us, hl with | [_, _], _ => rfl
  have b__law_kind : Binds K d__law_kind ["_law_a"] [] := F__law_kind.binds fun _ _ _ _ _ _ us hl => match us, hl with | [_], _ => rfl
  have b__law_fault : Binds K d__law_fault ["_law_error"] [] := F__law_fault.binds fun _ _ _ _ _ _ us hl => match us, hl with | [_], _ => rfl
  have b__law_ask : Binds K d__law_ask ["_law_deed"] [] := F__law_ask.binds fun _ _ _ _ _ _ us hl => match us, hl with | [_], _ => rfl
  have b__law_told_so : Binds K d__law_told_so ["_law_f", "_law_a"] [] := F__law_told_so.binds fun _ _ _ _ _ _ us hl => match us, hl with | [_, _], _ => rfl
  have b__law_made_so : Binds K d__law_made_so ["_law_bag_here"] [] := F__law_made_so.binds fun _ _ _ _ _ _ us hl => match us, hl with | [_], _ => rfl
  have b__law_gone_so : Binds K d__law_gone_so ["_law_bag_here", "_law_a"] [] := F__law_gone_so.binds fun _ _ _ _ _ _ us hl => match us, hl with | [_, _], _ => rfl
  have b__law_cut_so : Binds K d__law_cut_so ["_law_bag_here", "_law_a"] [] := F__law_cut_so.binds fun _ _ _ _ _ _ us hl => match us, hl with | [_, _], _ => rfl
  have b__law_scaling_so : Binds K d__law_scaling_so ["_law_bag_here"] [] := F__law_scaling_so.binds fun _ _ _ _ _ _ us hl => match us, hl with | [_], _ => rfl
  have b__law_compared_so : Binds K d__law_compared_so ["_law_a", "_law_b"] [] := F__law_compared_so.binds fun _ _ _ _ _ _ us hl => match us, hl with | [_, _], _ => rfl
  have b_law : Binds K d_law ["_law_script"] [] := F_law.binds fun _ _ _ _ _ _ us hl => match us, hl with | [_], _ => rfl
  have bm0 : Binds K dm0 ["self", "numbers"] [] := Fm0.binds fun _ _ _ _ _ _ us hl => match us, hl with | [_, _], _ => rfl
  have bm1 : Binds K dm1 ["order"] [] := Fm1.binds fun _ _ _ _ _ _ us hl => match us, hl with | [_], _ => rfl
  have bm2 : Binds K dm2 ["lead", "order"] [] := Fm2.binds fun _ _ _ _ _ _ us hl => match us, hl with | [_, _], _ => rfl
  have bm3 : Binds K dm3 ["self"] [] := Fm3.binds fun _ _ _ _ _ _ us hl => match us, hl with | [_], _ => rfl
  have bm4 : Binds K dm4 ["self", "place"] [] := Fm4.binds fun _ _ _ _ _ _ us hl => match us, hl with | [_, _], _ => rfl
  have bm5 : Binds K dm5 ["self", "order"] [] := Fm5.binds fun _ _ _ _ _ _ us hl => match us, hl with | [_, _], _ => rfl
  have bm6 : Binds K dm6 ["self", "numbers"] [] := Fm6.binds fun _ _ _ _ _ _ us hl => match us, hl with | [_, _], _ => rfl
  have bm7 : Binds K dm7 ["self"] [] := Fm7.binds fun _ _ _ _ _ _ us hl => match us, hl with | [_], _ => rfl
  have bm8 : Binds K dm8 ["self", "other"] [] := Fm8.binds fun _ _ _ _ _ _ us hl => match us, hl with | [_, _], _ => rfl
  have bm9 : Binds K dm9 ["self"] [] := Fm9.binds fun _ _ _ _ _ _ us hl => match us, hl with | [_], _ => rfl
  have bm10 : Binds K dm10 ["self", "numbers"] [] := Fm10.binds fun _ _ _ _ _ _ us hl => match us, hl with | [_, _], _ => rfl
  have bm11 : Binds K dm11 ["self"] [] := Fm11.binds fun _ _ _ _ _ _ us hl => match us, hl with | [_], _ => rfl
  have bm12 : Binds K dm12 ["self", "other"] [] := Fm12.binds fun _ _ _ _ _ _ us hl => match us, hl with | [_, _], _ => rfl
  have bm13 : Binds K dm13 ["value", "order"] [] := Fm13.binds fun _ _ _ _ _ _ us hl => match us, hl with | [_, _], _ => rfl
  have bm14 : Binds K dm14 ["self", "value"] [] := Fm14.binds fun _ _ _ _ _ _ us hl => match us, hl with | [_, _], _ => rfl
  have bm15 : Binds K dm15 ["self", "at"] [] := Fm15.binds fun _ _ _ _ _ _ us hl => match us, hl with | [_, _], _ => rfl
  have bm16 : Binds K dm16 ["self", "value"] [] := Fm16.binds fun _ _ _ _ _ _ us hl => match us, hl with | [_, _], _ => rfl
  have bm17 : Binds K dm17 ["self", "have", "wanted"] [] := Fm17.binds fun _ _ _ _ _ _ us hl => match us, hl with | [_, _, _], _ => rfl
  have bm18 : Binds K dm18 ["self", "one", "other"] [] := Fm18.binds fun _ _ _ _ _ _ us hl => match us, hl with | [_, _, _], _ => rfl
  have bm19 : Binds K dm19 ["self", "value"] [] := Fm19.binds fun _ _ _ _ _ _ us hl => match us, hl with | [_, _], _ => rfl
  have e : f = 1016 := Value.ref.inj (Option.some.inj (hfa.symm.trans g_law))
  subst e
  refine ⟨d_law, fun s v => ?_, fun base _ _ hTB => ?_⟩
  · obtain ⟨oc, od, kV, doc, pm, an, cdv, ct, osl, e, lk, hcd⟩ := F_law.ex
    rw [e]
    exact .of_eq rfl
  have Z0 : ErrC P w K mg base "InvalidNumber" 1 (fs1 "InvalidNumber" "value") (csE 0) := ⟨x0, ty0, mg_at X G (c.fact 23), 76, dm14, _, i0, fi0, init_1 Fm14 x0 (n0 _ (by decide)) (n0 _ (by decide)), bm14⟩
  have Z1 : ErrC P w K mg base "InvalidFraction" 1 (fs1 "InvalidFraction" "at") (csE 1) := ⟨x1, ty1, mg_at X G (c.fact 24), 95, dm15, _, i1, fi1, init_2 Fm15 x1 (n1 _ (by decide)) (n1 _ (by decide)), bm15⟩
  have Z2 : ErrC P w K mg base "InvalidOrder" 1 (fs1 "InvalidOrder" "value") (csE 2) := ⟨x2, ty2, mg_at X G (c.fact 25), 114, dm16, _, i2, fi2, init_3 Fm16 x2 (n2 _ (by decide)) (n2 _ (by decide)), bm16⟩
  have Z3 : ErrC P w K mg base "OrderTooLow" 2 (fs2 "OrderTooLow" "have" "wanted") (csE 3) := ⟨x3, ty3, mg_at X G (c.fact 26), 133, dm17, _, i3, fi3, init_4 Fm17 x3 (n3 _ (by decide)) (n3 _ (by decide)) (n3 _ (by decide)), bm17⟩
  have Z4 : ErrC P w K mg base "UnlikeOrders" 2 (fs2 "UnlikeOrders" "one" "other") (csE 4) := ⟨x4, ty4, mg_at X G (c.fact 27), 152, dm18, _, i4, fi4, init_5 Fm18 x4 (n4 _ (by decide)) (n4 _ (by decide)) (n4 _ (by decide)), bm18⟩
  have Z5 : ErrC P w K mg base "InvalidPlace" 1 (fs1 "InvalidPlace" "value") (csE 5) := ⟨x5, ty5, mg_at X G (c.fact 28), 171, dm19, _, i5, fi5, init_6 Fm19 x5 (n5 _ (by decide)) (n5 _ (by decide)), bm19⟩
  have Uw : Use P w K mg base CX0 1 "is_whole" ["value"] (spWhole K) [] := use0 (ok_whole F_is_whole mI mi mb) b_is_whole F_is_whole.kp g_is_whole
  have Ub : Use P w K mg base CX0 2 "is_between" ["value", "low", "high"] (spBtw K) [] := use0 (ok_btw F_is_between Uw) b_is_between F_is_between.kp g_is_between
  have Uf : Use P w K mg base CX0 2 "is_fraction" ["value"] (spIsG K) [] := use0 (ok_isg F_is_fraction mI mt mn mG Uw) b_is_fraction F_is_fraction.kp g_is_fraction
  have Uco : Use P w K mg base (L2.CX P w) 3 "check_order" ["order"] (spCo K (csE 2)) [] := use0 (ok_corder F_check_order Ub mLO mHO Z2) b_check_order F_check_order.kp g_check_order
  have Uck : Use P w K mg base (L2.CX P w) 3 "check_number" ["value"] (spCk K (csE 0)) [] := use0 (ok_cnum F_check_number Uf Z0) b_check_number F_check_number.kp g_check_number
  have Ucp : Use P w K mg base (L2.CX P w) 3 "check_place" ["place", "first", "last"] (spCp K (csE 5)) [] := use0 (ok_cplace F_check_place Ub Z5) b_check_place F_check_place.kp g_check_place
  have Ucs : Use P w K mg base (L2.CX P w) 3 "check_orders" ["one", "other"] (spCor K (csE 4)) [] := use0 (ok_corders F_check_orders Z4) b_check_orders F_check_orders.kp g_check_orders
  have Ucc : Use P w K mg base (L2.CX P w) 4 "check_cut" ["have", "wanted"] (spCc K (csE 2) (csE 3)) [] := use0 (ok_ccut F_check_cut Uco Z3) b_check_cut F_check_cut.kp g_check_cut
  have Uil : Use P w K mg base CX0 1 "is_listing" ["value"] (spIl K) [] := use0 (ok_listing F_is_listing mI ml mt) b_is_listing F_is_listing.kp g_is_listing
  have Uwi : Use P w K mg base CX0 3 "wrong_item" ["numbers"] (spWi K) [] := use0 (ok_wrong F_wrong_item men Uf) b_wrong_item F_wrong_item.kp g_wrong_item
  have Ucf : Use P w K mg base (L2.CX P w) 4 "check_fractions" ["numbers"] (spCf K (csE 1)) [] := use0 (ok_cfrac F_check_fractions Uwi Z1) b_check_fractions F_check_fractions.kp g_check_fractions
  have Ucn : Use P w K mg base (L2.CX P w) 5 "checked_numbers" ["numbers", "further"] (spCn K (csE 1) (csE 2)) [] := use0 (ok_checked F_checked_numbers mn ml Uil Uco Ucf Z1) b_checked_numbers F_checked_numbers.kp g_checked_numbers
  have Uiz : Use P w K mg base CX0 1 "is_zero" ["numbers"] (spIz K) [] := use0 (ok_iszero F_is_zero k0 ma mZ) b_is_zero F_is_zero.kp g_is_zero
  have Ulp : Use P w K mg base CX0 1 "least_place" ["numbers", "first"] (spLp K) [] := use0 (ok_least F_least_place k0 men mZ) b_least_place F_least_place.kp g_least_place
  have Uko : Use P w K mg base CX0 2 "kind_of" ["numbers"] (spKo K) [] := use0 (ok_kind F_kind_of k1 k0 km mZ mO mM Uiz) b_kind_of F_kind_of.kp g_kind_of
  have Usn : Use P w K mg base CX0 1 "still_numbers" ["order"] (spSn K) [] := use0 (ok_stilln F_still_numbers k1 k0 mZ mO) b_still_numbers F_still_numbers.kp g_still_numbers
  have rk : RowK P w K mg base rwA (csE 1) (csE 2) := ⟨clR, nAR, mR, ⟨_, _, MkR, ok_rwinit Fm10 clR nAR mn Ucn Ulp, bm10, kb_mix Fm10 (fun _ _ _ _ _ _ _ _ => rfl)⟩, tyR', of_decide_eq_true (c.fact 35)⟩
  have sk : StepK P w K mg base rwA stA (csE 1) (csE 2) := ⟨clS, nAS, mS, ⟨_, _, MkS, ok_stinit Fm0 clS nAS mn Ucn Uko Ulp, bm0⟩, tyS', of_decide_eq_true (c.fact 34), fun n hn => of_decide_eq_true (List.all_eq_true.mp (c.fact 31) n hn), of_decide_eq_true (c.fact 32)⟩
  have si : StepI P w K mg base stA (csE 1) (csE 2) := ⟨mS, ⟨_, _, MkS, ok_stinitF Fm0 clS nAS mn Ucn Uko Ulp, bm0, kb_mix Fm0 (fun _ _ _ _ _ _ _ _ => rfl)⟩⟩
  have mt' : ∀ t ∈ mtT, PySem.W.findIn K (.ref t.1) t.2.2 = some (some (.ref t.2.1)) ∧ PySem.W.isFn K (.ref t.2.1) = true := fun t ht => by
    obtain ⟨h1, h2⟩ := He.ba (List.all_eq_true.mp (c.fact 42) t ht)
    exact ⟨He.eqO_ok h1, h2⟩
  have Mnu : MUse P w K mg base CX0 1 stA "numbers" ["self"] (spNuS K stA) [] := ⟨⟨719, dm3, ⟨(mt' (stA, 719, "numbers") (by simp [mtT])).1, (mt' (stA, 719, "numbers") (by simp [mtT])).2, Fm3.kp⟩, ok_snumbers Fm3 sk ml, bm3, fun ks hk => nomatch hk⟩, clS⟩
  have Mnm : MUse P w K mg base (L2.CX P w) 4 stA "number" ["self", "place"] (spNmS K stA (csE 5)) [["place"]] := ⟨⟨726, dm4, ⟨(mt' (stA, 726, "number") (by simp [mtT])).1, (mt' (stA, 726, "number") (by simp [mtT])).2, Fm4.kp⟩, ok_snumber Fm4 sk Ucp, bm4, fun ks hk => by rw [List.mem_singleton.mp hk]; exact kb_mix Fm4 (fun _ _ _ _ _ _ _ _ => rfl)⟩, clS⟩
  have Mcu : MUse P w K mg base (L2.CX P w) 8 stA "cut" ["self", "order"] (spCuF K stA (csE 2) (csE 3)) [["order"]] := ⟨⟨747, dm5, ⟨(mt' (stA, 747, "cut") (by simp [mtT])).1, (mt' (stA, 747, "cut") (by simp [mtT])).2, Fm5.kp⟩, ok_cutF Fm5 sk si Ucc, bm5, fun ks hk => by rw [List.mem_singleton.mp hk]; exact kb_mix Fm5 (fun _ _ _ _ _ _ _ _ => rfl)⟩, clS⟩
  have Mgo : MUse P w K mg base (L2.CX P w) 8 stA "gone_on" ["self", "numbers"] (spGoF K stA (csE 1) (csE 2)) [["numbers"]] := ⟨⟨754, dm6, ⟨(mt' (stA, 754, "gone_on") (by simp [mtT])).1, (mt' (stA, 754, "gone_on") (by simp [mtT])).2, Fm6.kp⟩, ok_goneF Fm6 sk si mn Ucn, bm6, fun ks hk => by rw [List.mem_singleton.mp hk]; exact kb_mix Fm6 (fun _ _ _ _ _ _ _ _ => rfl)⟩, clS⟩
  have Mar : MUse P w K mg base (L2.CX P w) 8 stA "as_row" ["self"] (spArF K rwA stA) [] := ⟨⟨761, dm7, ⟨(mt' (stA, 761, "as_row") (by simp [mtT])).1, (mt' (stA, 761, "as_row") (by simp [mtT])).2, Fm7.kp⟩, ok_asrowF Fm7 sk rk k0 mZ, bm7, fun ks hk => nomatch hk⟩, clS⟩
  have Mrn : MUse P w K mg base CX0 1 rwA "numbers" ["self"] (spNu K rwA) [] := ⟨⟨575, dm11, ⟨(mt' (rwA, 575, "numbers") (by simp [mtT])).1, (mt' (rwA, 575, "numbers") (by simp [mtT])).2, Fm11.kp⟩, ok_numbers Fm11 rk ml, bm11, fun ks hk => nomatch hk⟩, clR⟩
  have Oeq : OpM P w K mg base CX0 1 stA "__eq__" (spEqF K stA) := ⟨⟨789, dm8, _, (mt' (stA, 789, "__eq__") (by simp [mtT])).1, (mt' (stA, 789, "__eq__") (by simp [mtT])).2, ok_seqF Fm8 sk mI, bm8⟩, c.fact 40⟩
  have Ose : OpM P w K mg base CX0 1 stA "__eq__" (spEqS K stA) := ⟨⟨789, dm8, _, (mt' (stA, 789, "__eq__") (by simp [mtT])).1, (mt' (stA, 789, "__eq__") (by simp [mtT])).2, ok_seqS (ok_seqF Fm8 sk mI), bm8⟩, c.fact 40⟩
  have Oln : OpM P w K mg base CX0 1 stA "__len__" (spLeS K stA) := ⟨⟨796, dm9, _, (mt' (stA, 796, "__len__") (by simp [mtT])).1, (mt' (stA, 796, "__len__") (by simp [mtT])).2, ok_slen Fm9 sk mn, bm9⟩, c.fact 40⟩
  have Oer : OpM P w K mg base CX0 1 rwA "__eq__" (spEqR K rwA) := ⟨⟨643, dm12, _, (mt' (rwA, 643, "__eq__") (by simp [mtT])).1, (mt' (rwA, 643, "__eq__") (by simp [mtT])).2, ok_req Fm12 rk mI, bm12⟩, c.fact 41⟩
  have Gst : FnOk P w K mg base CX0 8 699 dm1 ["order"] (spStil K stA) := calm (ok_still Fm1 sk Uco Usn) (fun _ _ _ _ z => z)
  have Ufd : Use P w K mg base (L2.CX P w) 4 "first_difference" ["one", "other"] (spFd K stA (csE 4)) [["other", "one"]] := ⟨_, _, ok_first F_first_difference sk Ucs Mnu men mz, b_first_difference, F_first_difference.kp, g_first_difference, fun ks hk _ => by rw [List.mem_singleton.mp hk]; exact kb_two F_first_difference (fun _ _ _ _ _ _ _ _ => rfl), fun ks hk h1 _ => by rw [List.mem_singleton.mp hk] at h1; exact absurd h1 (by decide)⟩
  have Ldr : Use P w K mg base CX0 1 "_law_draw" ["_law_bag_here", "_law_limit"] spDraw [] := use0 (ok_draw F__law_draw mn mi) b__law_draw F__law_draw.kp g__law_draw
  have Lof : Use P w K mg base CX0 2 "_law_of" ["_law_bag_here", "_law_things"] spOfL [] := use0 (ok_ofL F__law_of (ok_draw F__law_draw mn mi) b__law_draw F__law_draw.kp g__law_draw mn) b__law_of F__law_of.kp g__law_of
  have Glo := ok_lowQ (P := P) (w := w) (base := base) F__law_low mabs mi
  have Llo : Use P w K mg base CX0 1 "_law_low" ["_law_p", "_law_q"] spLowQ [] := use0 (Glo) b__law_low F__law_low.kp g__law_low
  have Lad : Use P w K mg base CX0 2 "_law_add" ["_law_a", "_law_b"] (spAddQ K) [] := use0 (ok_addQ F__law_add Glo b__law_low F__law_low.kp g__law_low) b__law_add F__law_add.kp g__law_add
  have Lst : Use P w K mg base CX0 1 "_law_still" ["_law_size"] (spLst K) [] := use0 (ok_lstill F__law_still) b__law_still F__law_still.kp g__law_still
  have Lnu : Use P w K mg base CX0 3 "_law_number" ["_law_bag_here"] (spNum K) [] := use0 (ok_num Ldr Lof Llo F__law_number) b__law_number F__law_number.kp g__law_number
  have Lfu : Use P w K mg base CX0 4 "_law_full" ["_law_bag_here"] (spNum K) [] := use0 (ok_full Ldr Lof Llo F__law_full Lnu) b__law_full F__law_full.kp g__law_full
  have Lspr : Use P w K mg base CX0 5 "_law_spread" ["_law_bag_here", "_law_size", "_law_first"] (spSpr K) [] := use0 (ok_spread F__law_spread mr Lof Lfu Lnu) b__law_spread F__law_spread.kp g__law_spread
  have Lld : Use P w K mg base CX0 3 "_law_lead" ["_law_bag_here"] (spNum K) [] := use0 (ok_lead F__law_lead Lof) b__law_lead F__law_lead.kp g__law_lead
  have Lsp0 : Use P w K mg base CX0 6 "_law_step" ["_law_bag_here", "_law_size"] (spStp K) [] := use0 (ok_step F__law_step Ldr Lld Lspr) b__law_step F__law_step.kp g__law_step
  have Lod : Use P w K mg base CX0 9 "_law_odd" ["_law_bag_here"] (spOdd K stA) [] := use0 (ok_odd F__law_odd sk rS cS Gst bm1 Lof) b__law_odd F__law_odd.kp g__law_odd
  have Lbe : Use P w K mg base CX0 5 "_law_bent" ["_law_bag_here", "_law_a"] (spBent K) [] := use0 (ok_bent F__law_bent mabs Lad Lfu Lnu) b__law_bent F__law_bent.kp g__law_bent
  have Lsp : Use P w K mg base CX0 6 "_law_spoilt" ["_law_bag_here", "_law_a"] (spSpoilt K) [] := use0 (ok_spoilt F__law_spoilt mn ml Ldr Lbe) b__law_spoilt F__law_spoilt.kp g__law_spoilt
  have Lis : Use P w K mg base CX0 2 "_law_is" ["_law_thing"] (spIs K) [] := use0 (ok_is F__law_is mI mt mn mi mb ma Llo) b__law_is F__law_is.kp g__law_is
  have Lsz : Use P w K mg base CX0 3 "_law_any_size" ["_law_bag_here"] spSize [] := use0 (ok_size F__law_any_size Ldr Lof) b__law_any_size F__law_any_size.kp g__law_any_size
  have Lno : Use P w K mg base CX0 3 "_law_not_order" ["_law_bag_here"] (spNo K stA) [] := use0 (ok_no F__law_not_order Ldr Lof) b__law_not_order F__law_not_order.kp g__law_not_order
  have Lre : Use P w K mg base CX0 3 "_law_refused" ["_law_some", "_law_less"] (spRf K) [] := use0 (ok_refused F__law_refused mI ml mt mn mr Lis) b__law_refused F__law_refused.kp g__law_refused
  have Lli : Use P w K mg base CX0 10 "_law_list" ["_law_bag_here"] (spLi2 K stA) [] := use0 (ok_list2 F__law_list sk rS cS Gst bm1 Ldr Lof Lsz Lnu Lod mr mt) b__law_list F__law_list.kp g__law_list
  have Lkd : Use P w K mg base CX0 1 "_law_kind" ["_law_a"] (spKd K) [] := use0 (ok_lkind F__law_kind mr mn) b__law_kind F__law_kind.kp g__law_kind
  have L0 : FnOk P w K mg base CX0 2 _ _ _ (spLike K stA 0) := ok_like F__law_like sk Ose b__law_like g__law_like (fun n' e => by cases e) mI ml mt mb ms mi mn mz ma
  have L1 : FnOk P w K mg base CX0 3 _ _ _ (spLike K stA 1) := ok_like F__law_like sk Ose b__law_like g__law_like (fun n' e => by cases e; exact L0) mI ml mt mb ms mi mn mz ma
  have L2 : FnOk P w K mg base CX0 4 _ _ _ (spLike K stA 2) := ok_like F__law_like sk Ose b__law_like g__law_like (fun n' e => by cases e; exact L1) mI ml mt mb ms mi mn mz ma
  have L3 : FnOk P w K mg base CX0 5 _ _ _ (spLike K stA 3) := ok_like F__law_like sk Ose b__law_like g__law_like (fun n' e => by cases e; exact L2) mI ml mt mb ms mi mn mz ma
  have L4 : FnOk P w K mg base CX0 6 _ _ _ (spLike K stA 4) := ok_like F__law_like sk Ose b__law_like g__law_like (fun n' e => by cases e; exact L3) mI ml mt mb ms mi mn mz ma
  have Llk : Use P w K mg base CX0 6 "_law_like" ["_law_told", "_law_due"] (spLike K stA 4) [] := use0 (L4) b__law_like F__law_like.kp g__law_like
  have kT : KitT P w K mg base rwA stA (csE 1) (csE 2) (csE 5) := ⟨rk, sk, si, Mnu, Mrn, Mnm, Mar, Oln, Oeq, Lkd, Llk, mn, mI, mr⟩
  have Lto : Use P w K mg base CX0 9 "_law_told_so" ["_law_f", "_law_a"] (spTo K stA) [] := use0 (ok_told F__law_told_so kT) b__law_told_so F__law_told_so.kp g__law_told_so
  have ZZ : Errs P w K mg base csE := ⟨Z0, Z1, Z2, Z3, Z4, Z5, fun i => by
    match i with
    | 0 => exact n0 _ (by decide)
    | 1 => exact n1 _ (by decide)
    | 2 => exact n2 _ (by decide)
    | 3 => exact n3 _ (by decide)
    | 4 => exact n4 _ (by decide)
    | 5 => exact n5 _ (by decide),
    n0 "value" (by decide), n1 "at" (by decide), n2 "value" (by decide), n3 "have" (by decide), n3 "wanted" (by decide), n4 "one" (by decide), n4 "other" (by decide), n5 "value" (by decide),
    fun i j => of_decide_eq_true (all6 (all6 (c.fact 29) i) j)⟩
  have Gfa := ok_fault (P := P) (w := w) (base := base) F__law_fault mI ZZ
  have kit : KitS P w K mg base rwA stA csE ceA := {
    rk := rk
    sk := sk
    si := si
    numbers := Mnu
    number := Mnm
    asrow := Mar
    cut := Mcu
    gone := Mgo
    oeq := Oeq
    roeq := Oer
    still := ⟨_, _, _, _, rS, cS, ok_stillF Fm1 si Uco Usn, bm1, kb_one Fm1 (fun _ _ _ _ _ _ _ => rfl)⟩
    scaling := ⟨_, _, _, _, rS, cL, ok_scalingF Fm2 si k0 mZ Uck Uco, bm2, kb_two Fm2 (fun _ _ _ _ _ _ _ _ => rfl)⟩
    bag := use0 (ok_bag F__law_bag ml mi) b__law_bag F__law_bag.kp g__law_bag
    draw := Ldr
    ofL := Lof
    num := Lnu
    lstill := Lst
    step := Lsp0
    odd := Lod
    spoilt := Lsp
    lis := Lis
    size := Lsz
    no := Lno
    list := Lli
    refused := Lre
    told := Lto
    lik := Llk
    flt := ⟨_, _, Gfa, b__law_fault, F__law_fault.kp, g__law_fault⟩
    ask := ⟨_, _, F__law_ask, b__law_ask, g__law_ask⟩
    mC := mC
    e1 := fun i => of_decide_eq_true (all6 (c.fact 30) i)
    mn := mn
    mI := mI
    ml := ml
    mt := mt
    mi := mi
    mb := mb
    mr := mr }
  have Lmd : Use P w K mg base CX0 11 "_law_made_so" ["_law_bag_here"] (spSo tbT) [] := use0 (ok_made (fun_c F__law_made_so (c.fact 44)) kit (hTB (984, 980) c1) t1 tu1) b__law_made_so F__law_made_so.kp g__law_made_so
  have Lgn : Use P w K mg base CX0 11 "_law_gone_so" ["_law_bag_here", "_law_a"] (spGo K tbT) [] := use0 (ok_gone (fun_c F__law_gone_so (c.fact 45)) kit (hTB (989, 987) c2) t2 tu2) b__law_gone_so F__law_gone_so.kp g__law_gone_so
  have Lcu : Use P w K mg base CX0 11 "_law_cut_so" ["_law_bag_here", "_law_a"] (spGo K tbT) [] := use0 (ok_cutso (fun_c F__law_cut_so (c.fact 46)) kit (hTB (996, 992) c3) t3 tu3) b__law_cut_so F__law_cut_so.kp g__law_cut_so
  have Lsc : Use P w K mg base CX0 11 "_law_scaling_so" ["_law_bag_here"] (spSo tbT) [] := use0 (ok_scalingso (fun_c F__law_scaling_so (c.fact 47)) kit (hTB (1003, 999) c4) t4 tu4) b__law_scaling_so F__law_scaling_so.kp g__law_scaling_so
  have Lcp : Use P w K mg base CX0 11 "_law_compared_so" ["_law_a", "_law_b"] (spCmp K tbT) [] := use0 (ok_compared (fun_c F__law_compared_so (c.fact 48)) kit Ufd (hTB (1008, 1006) c5) t5 tu5) b__law_compared_so F__law_compared_so.kp g__law_compared_so
  exact ok_law F_law kit ⟨Lmd, Lgn, Lcu, Lsc, Lcp, of_decide_eq_true (c.fact 33), c.fact 36, c.fact 37, fun x hx => List.all_eq_true.mp (c.fact 38) x hx, fun x hx => of_decide_eq_true (List.all_eq_true.mp (c.fact 39) x hx)⟩
end
end Kx
end
section
set_option maxHeartbeats 0
namespace Kx
open PySem PySem.Spec PyProof.Rows L2
theorem cs_tab {h : Heap} (hT : ∀ a ∈ tabA, h.get? a = some { cls := .none, data := .fields #[] }) : ∀ p ∈ csT, h.get? p.2 = some { cls := .none, data := .fields #[] } := fun p hp => by
  rcases mem5 hp with e | e | e | e | e <;> rw [e]
  · exact hT 980 (List.mem_cons_self)
  · exact hT 987 (List.mem_cons_of_mem _ (List.mem_cons_self))
  · exact hT 992 (List.mem_cons_of_mem _ (List.mem_cons_of_mem _ (List.mem_cons_self)))
  · exact hT 999 (List.mem_cons_of_mem _ (List.mem_cons_of_mem _ (List.mem_cons_of_mem _ (List.mem_cons_self))))
  · exact hT 1006 (List.mem_cons_of_mem _ (List.mem_cons_of_mem _ (List.mem_cons_of_mem _ (List.mem_cons_of_mem _ (List.mem_cons_self)))))
theorem cs_none {K : PySem.W.Frag} (c : SaysR K) : ∀ p ∈ csT, K.lookup p.2 = none := fun p hp => by
  have n := c.fact 43
  have nn : ∀ a ∈ tabA, K.lookup a = none := fun a ha => Option.isNone_iff_eq_none.mp (List.all_eq_true.mp n a ha)
  rcases mem5 hp with e | e | e | e | e <;> rw [e]
  · exact nn 980 (List.mem_cons_self)
  · exact nn 987 (List.mem_cons_of_mem _ (List.mem_cons_self))
  · exact nn 992 (List.mem_cons_of_mem _ (List.mem_cons_of_mem _ (List.mem_cons_self)))
  · exact nn 999 (List.mem_cons_of_mem _ (List.mem_cons_of_mem _ (List.mem_cons_of_mem _ (List.mem_cons_self))))
  · exact nn 1006 (List.mem_cons_of_mem _ (List.mem_cons_of_mem _ (List.mem_cons_of_mem _ (List.mem_cons_of_mem _ (List.mem_cons_self)))))
theorem cs_code {K : PySem.W.Frag} {h : Heap} (X : K.In h) (c : SaysR K) : ∀ p ∈ csT, PySem.W.CodeHd h p.1 p.2 := fun p hp => by
  rcases mem5 hp with e | e | e | e | e <;> rw [e]
  · exact PySem.W.codeHd_of_K X (c.fact 49)
  · exact PySem.W.codeHd_of_K X (c.fact 50)
  · exact PySem.W.codeHd_of_K X (c.fact 51)
  · exact PySem.W.codeHd_of_K X (c.fact 52)
  · exact PySem.W.codeHd_of_K X (c.fact 53)
theorem tabs_start {H : Hp} (hH : ∀ p ∈ csT, H p.2 = some (.tbl #[])) : LamX.Tabs tbT H := fun p hp => by
  rcases mem5 hp with e | e | e | e | e <;> rw [e]
  · exact LamX.TabS.nil (hH _ c1)
  · exact LamX.TabS.nil (hH _ c2)
  · exact LamX.TabS.nil (hH _ c3)
  · exact LamX.TabS.nil (hH _ c4)
  · exact LamX.TabS.nil (hH _ c5)
end Kx
open PySem PySem.W PySem.Calls PyProof.Rows
theorem PySem.Challenge.cw_creepclocks_k07_steps_told_holds : PySem.Challenge.rw_creepclocks_k07_steps_told.Holds := by
  w_on; o_law
  refine HandSHeadRun.head_imp (r := OpenLaw.row PySem.Challenge.rw_creepclocks_k07_steps_told) (q := view (OpenLaw.row PySem.Challenge.rw_creepclocks_k07_steps_told).prog [0, 103]) (H := Kx.hookR) (ob := Kx.ob) (M := 20000) (loose := Kx.names) (d := HandSHeadRun.topDef (OpenLaw.row PySem.Challenge.rw_creepclocks_k07_steps_told).prog 103) (kwd := []) Kx.ob_eq
    Kx.run (by kernel_rfl) (by kernel_rfl) (by kernel_rfl) (by rfl) (by first | assumption | decide +kernel) (by decide +kernel) ⟨rfl, rfl, rfl, rfl, rfl, by decide +kernel⟩ ?hw ?hc
  case hw => w_witness2
  case hc =>
    refine LamX.walk_ofTsE (l := PySem.Challenge.rw_creepclocks_k07_steps_told) (n := 63) (k := 12) (x := "_law_script") (CX := fun _ => L2.CX0) rfl (by decide) (by kernel_rfl) ⟨rfl, by decide, by decide⟩ ?F (fun _ _ _ _ _ z => z)
    intro w mg fa h Y G hmg0
    obtain ⟨⟨K, KX, c⟩, hT⟩ := Y
    have hmg : mg ("law" : PySem.Str) = some (.ref fa) := by
      have e : (HandSHeadRun.topDef (OpenLaw.row PySem.Challenge.rw_creepclocks_k07_steps_told).prog 103).name = ("law" : PySem.Str) := by kernel_rfl
      rw [← e]
      exact hmg0
    obtain ⟨fd, hb, hF⟩ := Kx.facts (P := (PySem.Challenge.rw_creepclocks_k07_steps_told).prog) (w := w) KX G hmg c
    exact ⟨K, KX, fd, Kx.csT, Kx.spLaw K Kx.tbT, Kx.cs_tab hT, Kx.cs_none c, Kx.cs_code KX c, hb, fun H a ns hl _ hH hS => ⟨a, ns, rfl, hS, Kx.tabs_start hH, fun _ => rfl⟩, hF⟩
end
