import PyProof.Rows.All
import Wide.All
import OpenK.AllK
import Wide.FinOn
import HandS.Words
import HandS.WordsExc
import HandS.ForMost
import HandS.Zip
import HandS.Codes
import HandS.Walk
import HandS.Wide
import HandS.Gcd
import HandS.IsInst
import HandS.AnyAll
import HandS.ClsMeth
import HandS.Lambda
import HandS.ExcInitHot
import HandS.Defaults
import HandS.HeadHook1
import HandS.HeadHook2
import HandS.HeadNt
import HandS.NestedK
import KE.KExcInit
import KE.KStateDown
import Lean
import HandS.Head0
import HandS.Head1
import HandS.Head2
import HandS.Head3
import HandS.HeadEnd
import HandS.ExcInit
import KE.KExcIs
import HandS.MakeKw
import HandS.Exc
import HandS.ExcIs
import HandS.ExcField
import HandS.TryMany
import HandS.HotCalls
import PyProof.Draws
import PyProof.EnumMake
import KE.GoesMore
import HandS.MakeKwOnly
import HandS.Zip0
import HandS.Style
import HandS.HeadWalk
import PySem.Challenge.RW_creepclocks_k04_whole_powers_and_logs_of
set_option Elab.async false
set_option linter.all false
set_option maxRecDepth 100000
section
set_option maxHeartbeats 4000000
namespace Kx
open PySem PySem.Spec PyProof.Rows L2
def top (i : Nat) : Stmt := PySem.Challenge.pw_creepclocks_k04_whole_powers_and_logs_of.main.body.getD i (.Pass ⟨0, 0, 0, 0⟩)
abbrev F__wall : Stmt := top 1
abbrev C_CreepError : Stmt := top 3
abbrev C_InvalidNumber : Stmt := top 4
abbrev C_InvalidNumber_init : Stmt := inClass (top 4) 0
abbrev C_InvalidFraction : Stmt := top 5
abbrev C_InvalidFraction_init : Stmt := inClass (top 5) 0
abbrev C_InvalidOrder : Stmt := top 6
abbrev C_InvalidOrder_init : Stmt := inClass (top 6) 0
abbrev C_UnlikeOrders : Stmt := top 7
abbrev C_UnlikeOrders_init : Stmt := inClass (top 7) 0
abbrev C_InvalidPlace : Stmt := top 8
abbrev C_InvalidPlace_init : Stmt := inClass (top 8) 0
abbrev C_InvalidPower : Stmt := top 9
abbrev C_InvalidPower_init : Stmt := inClass (top 9) 0
abbrev C_CantTurn : Stmt := top 10
abbrev C_CantTurn_init : Stmt := inClass (top 10) 0
abbrev C_NotSlow : Stmt := top 11
abbrev C_NotSlow_init : Stmt := inClass (top 11) 0
abbrev C_NotOne : Stmt := top 12
abbrev C_NotOne_init : Stmt := inClass (top 12) 0
abbrev C_NoAnswer : Stmt := top 13
abbrev C_DividedByZero : Stmt := top 14
abbrev C_DividedByZero_init : Stmt := inClass (top 14) 0
abbrev F_is_whole : Stmt := top 20
abbrev F_is_between : Stmt := top 21
abbrev F_is_fraction : Stmt := top 22
abbrev F_ratio : Stmt := top 23
abbrev F_difference_of : Stmt := top 24
abbrev F_product_of : Stmt := top 25
abbrev F_quotient_of : Stmt := top 26
abbrev F_negative_of : Stmt := top 27
abbrev F_fraction_text : Stmt := top 28
abbrev F_is_listing : Stmt := top 32
abbrev F_check_order : Stmt := top 33
abbrev F_check_orders : Stmt := top 34
abbrev F_check_place : Stmt := top 35
abbrev F_check_number : Stmt := top 36
abbrev F_wrong_item : Stmt := top 37
abbrev F_check_fractions : Stmt := top 38
abbrev F_checked_numbers : Stmt := top 39
abbrev F_check_slow : Stmt := top 40
abbrev F_check_turnable : Stmt := top 41
abbrev F_is_zero : Stmt := top 43
abbrev F_least_place : Stmt := top 44
abbrev F_sums_of : Stmt := top 45
abbrev F_differences_of : Stmt := top 46
abbrev F_multiples_of : Stmt := top 47
abbrev F_dot : Stmt := top 48
abbrev F_mixed : Stmt := top 49
abbrev F_over_one_lower : Stmt := top 50
abbrev F_multiplied : Stmt := top 51
abbrev F_reciprocal_of : Stmt := top 52
abbrev F_log_slopes : Stmt := top 53
abbrev F_unit_log : Stmt := top 54
abbrev F_unit_power : Stmt := top 55
abbrev F_still_numbers : Stmt := top 56
abbrev F_table_lines : Stmt := top 57
abbrev F_row_behind : Stmt := top 58
abbrev F_put_behind : Stmt := top 59
abbrev F_solved : Stmt := top 60
abbrev F_turned_back : Stmt := top 61
abbrev F_done_times : Stmt := top 62
abbrev F_differences : Stmt := top 63
abbrev F_binomials : Stmt := top 64
abbrev F_binomial_power : Stmt := top 65
abbrev F_letter_text : Stmt := top 67
abbrev F_term_text : Stmt := top 68
abbrev F_term_words : Stmt := top 69
abbrev F_numbers_text : Stmt := top 70
abbrev C_Row : Stmt := top 72
abbrev C_Row_init : Stmt := inClass (top 72) 0
abbrev C_Row_constant : Stmt := inClass (top 72) 1
abbrev C_Row_numbers : Stmt := inClass (top 72) 2
abbrev C_Row_number : Stmt := inClass (top 72) 3
abbrev C_Row_scaled : Stmt := inClass (top 72) 4
abbrev C_Row_cut : Stmt := inClass (top 72) 5
abbrev C_Row_behind : Stmt := inClass (top 72) 6
abbrev C_Row_text : Stmt := inClass (top 72) 7
abbrev C_Row_add : Stmt := inClass (top 72) 8
abbrev C_Row_sub : Stmt := inClass (top 72) 9
abbrev C_Row_mul : Stmt := inClass (top 72) 10
abbrev C_Row_neg : Stmt := inClass (top 72) 11
abbrev C_Row_eq : Stmt := inClass (top 72) 12
abbrev C_Row_len : Stmt := inClass (top 72) 13
abbrev C_Row_str : Stmt := inClass (top 72) 14
abbrev C_Row_repr : Stmt := inClass (top 72) 15
abbrev F_reciprocal : Stmt := top 73
abbrev F_check_unit_row : Stmt := top 74
abbrev F_row_power : Stmt := top 75
abbrev F_row_log : Stmt := top 76
abbrev F_kind_of : Stmt := top 78
abbrev C_Step : Stmt := top 79
abbrev C_Step_init : Stmt := inClass (top 79) 0
abbrev C_Step_still : Stmt := inClass (top 79) 1
abbrev C_Step_scaling : Stmt := inClass (top 79) 2
abbrev C_Step_numbers : Stmt := inClass (top 79) 3
abbrev C_Step_number : Stmt := inClass (top 79) 4
abbrev C_Step_power : Stmt := inClass (top 79) 5
abbrev C_Step_renamed : Stmt := inClass (top 79) 6
abbrev C_Step_cut : Stmt := inClass (top 79) 7
abbrev C_Step_gone_on : Stmt := inClass (top 79) 8
abbrev C_Step_as_row : Stmt := inClass (top 79) 9
abbrev C_Step_text : Stmt := inClass (top 79) 10
abbrev C_Step_mul : Stmt := inClass (top 79) 11
abbrev C_Step_invert : Stmt := inClass (top 79) 12
abbrev C_Step_eq : Stmt := inClass (top 79) 13
abbrev C_Step_len : Stmt := inClass (top 79) 14
abbrev C_Step_str : Stmt := inClass (top 79) 15
abbrev C_Step_repr : Stmt := inClass (top 79) 16
abbrev L_bag : Stmt := top 81
abbrev L_draw : Stmt := top 82
abbrev L_of : Stmt := top 83
abbrev L_like : Stmt := top 84
abbrev L_low : Stmt := top 85
abbrev L_add : Stmt := top 86
abbrev L_mul : Stmt := top 87
abbrev L_times : Stmt := top 88
abbrev L_scale : Stmt := top 89
abbrev L_number : Stmt := top 90
abbrev L_odd : Stmt := top 91
abbrev L_big : Stmt := top 92
abbrev L_wide : Stmt := top 93
abbrev L_is : Stmt := top 94
abbrev L_fault : Stmt := top 95
abbrev L_ask : Stmt := top 96
abbrev L_row : Stmt := top 97
abbrev L_slope : Stmt := top 98
abbrev L_power_so : Stmt := top 99
abbrev L_log_so : Stmt := top 100
abbrev L_small : Stmt := top 101
abbrev L_whole_so : Stmt := top 102
abbrev L_back_so : Stmt := top 103
abbrev L_refused_so : Stmt := top 104
abbrev L_law : Stmt := top 105
end Kx
end
section
set_option maxHeartbeats 4000000
namespace Kx
open PySem PySem.Spec PyProof.Rows L2
/-- a def of the module: its name, its place in the text, its address -/
structure LD where
  nm : Str
  ix : Nat
  f : Addr
def rwN0 : List Str := ["_numbers", "order", "height"]
def stN0 : List Str := ["_numbers", "order", "lead", "kind", "height", "flat", "strength"]
def ldT : List LD := [
  ⟨"is_whole", 20, 275⟩,
  ⟨"is_between", 21, 282⟩,
  ⟨"is_fraction", 22, 289⟩,
  ⟨"ratio", 23, 296⟩,
  ⟨"difference_of", 24, 303⟩,
  ⟨"product_of", 25, 310⟩,
  ⟨"quotient_of", 26, 317⟩,
  ⟨"negative_of", 27, 324⟩,
  ⟨"is_listing", 32, 338⟩,
  ⟨"check_order", 33, 345⟩,
  ⟨"check_orders", 34, 352⟩,
  ⟨"check_place", 35, 359⟩,
  ⟨"check_number", 36, 366⟩,
  ⟨"wrong_item", 37, 373⟩,
  ⟨"check_fractions", 38, 380⟩,
  ⟨"checked_numbers", 39, 387⟩,
  ⟨"is_zero", 43, 406⟩,
  ⟨"least_place", 44, 413⟩,
  ⟨"sums_of", 45, 418⟩,
  ⟨"multiples_of", 47, 428⟩,
  ⟨"dot", 48, 435⟩,
  ⟨"over_one_lower", 50, 445⟩,
  ⟨"multiplied", 51, 450⟩,
  ⟨"reciprocal_of", 52, 457⟩,
  ⟨"log_slopes", 53, 464⟩,
  ⟨"unit_log", 54, 469⟩,
  ⟨"unit_power", 55, 476⟩,
  ⟨"still_numbers", 56, 483⟩,
  ⟨"reciprocal", 73, 702⟩,
  ⟨"check_unit_row", 74, 709⟩,
  ⟨"row_power", 75, 716⟩,
  ⟨"row_log", 76, 723⟩,
  ⟨"kind_of", 78, 730⟩,
  ⟨"_law_bag", 81, 876⟩,
  ⟨"_law_draw", 82, 883⟩,
  ⟨"_law_of", 83, 890⟩,
  ⟨"_law_like", 84, 895⟩,
  ⟨"_law_low", 85, 902⟩,
  ⟨"_law_add", 86, 909⟩,
  ⟨"_law_mul", 87, 916⟩,
  ⟨"_law_times", 88, 923⟩,
  ⟨"_law_scale", 89, 928⟩,
  ⟨"_law_number", 90, 935⟩,
  ⟨"_law_odd", 91, 942⟩,
  ⟨"_law_big", 92, 949⟩,
  ⟨"_law_wide", 93, 956⟩,
  ⟨"_law_is", 94, 961⟩,
  ⟨"_law_fault", 95, 968⟩,
  ⟨"_law_ask", 96, 975⟩,
  ⟨"_law_row", 97, 980⟩,
  ⟨"_law_slope", 98, 985⟩,
  ⟨"_law_power_so", 99, 990⟩,
  ⟨"_law_log_so", 100, 995⟩,
  ⟨"_law_small", 101, 1002⟩,
  ⟨"_law_whole_so", 102, 1009⟩,
  ⟨"_law_back_so", 103, 1014⟩,
  ⟨"_law_refused_so", 104, 1021⟩,
  ⟨"law", 105, 1028⟩
]
abbrev stA : Addr := 865
abbrev rwA : Addr := 691
abbrev zeA : Addr := 266
abbrev onA : Addr := 267
abbrev moA : Addr := 268
abbrev ceA : Addr := 59
abbrev naA : Addr := 243
def csE : _root_.Fin 3 → Addr := fun i => [79, 231, 263].getD i.val 0
abbrev cuA : Addr := 136
abbrev cfA : Addr := 98
abbrev coA : Addr := 117
abbrev cpA : Addr := 155
def freeN : List Str := ["isinstance", "len", "list", "tuple", "int", "range", "all", "zip", "bool", "str", "abs", "enumerate", "sum"]
def tabA : List Addr := [1011, 1016]
def ldD (d : LD) : He5.DefA := { at_ := fun _ => d.f, name := d.nm, qual := d.nm, params := defArgs (top d.ix), body := defBody (top d.ix), scope := defScope (top d.ix) }
def mtD (q nm : Str) (f : Addr) (st : Stmt) : He5.DefA := { at_ := fun _ => f, name := nm, qual := q, params := defArgs st, body := defBody st, scope := defScope st }
def clT : List He5.DefA := [mtD "Step.__init__" "__init__" 744 (inClass (top 79) 0),
  mtD "Step.still" "still" 751 (inClass (top 79) 1),
  mtD "Step.__eq__" "__eq__" 841 (inClass (top 79) 13),
  mtD "Row.__init__" "__init__" 582 (inClass (top 72) 0),
  mtD "Row.numbers" "numbers" 599 (inClass (top 72) 2),
  mtD "Row.number" "number" 606 (inClass (top 72) 3),
  mtD "Row.scaled" "scaled" 613 (inClass (top 72) 4),
  mtD "Row.__add__" "__add__" 641 (inClass (top 72) 8),
  mtD "Row.__mul__" "__mul__" 655 (inClass (top 72) 10),
  mtD "InvalidNumber.__init__" "__init__" 76 (inClass (top 4) 0),
  mtD "NotOne.__init__" "__init__" 228 (inClass (top 12) 0),
  mtD "DividedByZero.__init__" "__init__" 260 (inClass (top 14) 0),
  mtD "UnlikeOrders.__init__" "__init__" 133 (inClass (top 7) 0),
  mtD "InvalidFraction.__init__" "__init__" 95 (inClass (top 5) 0),
  mtD "InvalidOrder.__init__" "__init__" 114 (inClass (top 6) 0),
  mtD "InvalidPlace.__init__" "__init__" 152 (inClass (top 8) 0)]
def fnT : List He5.DefA := clT ++ ldT.map ldD
def kpB (K : PySem.W.Frag) (a : Addr) (x y : Int) : Bool := match K.lookup a with
  | some ⟨.type c, _, .seq its _, _⟩ => decide (c = "tuple") && (decide (its.size ≤ sizeLine) && He.relAll [.int x, .int y] its.toList)
  | _ => false
/-- an own class -/
def owB (K : PySem.W.Frag) (C iA sA gA : Addr) (m : Str) (ns : List Str) : Bool :=
  PySem.W.plainGet K C Str.empty && (PySem.W.hasDictIn K C && (PySem.W.plainOver K C && (He.eqO (PySem.W.findIn K (.ref C) "__setattr__") (some (some (.builtin "object.__setattr__"))) && (ns.all (fun x => He.eqO (PySem.W.findIn K (.ref C) x) (some none)) &&
  (PySem.W.makesIn K C && (He.eqO (PySem.W.findIn K (.ref C) "__init__") (some (some (.ref iA))) && (PySem.W.isFn K (.ref iA) && (PySem.W.keepIn K (.ref C) && (He5.wrapB K C "staticmethod" "staticmethod.__get__" m && (decide (He.ma K C m = sA) && (decide (He5.wf K C "staticmethod" m = gA) &&
  (PySem.W.readsIn K C (.type "type") && (He.eqO (PySem.W.specialIn K (.ref C) "__getattribute__") (some (some (.builtin "type.__getattribute__"))) && (He.eqO (PySem.W.findIn K (.ref C) "__class__") (some (some (.builtin "object.__class__"))) &&
  (He.eqO (PySem.W.specialIn K (.builtin "object.__class__") "__get__") (some (some (.builtin "getset_descriptor.__get__"))) && (decide (PySem.W.takesIn K (.builtin "object.__class__") = some true) && decide (PySem.W.mroIn K C (.type "object") = some true)))))))))))))))))
def owT (K : PySem.W.Frag) (C iA : Addr) (ns : List Str) : Bool :=
  PySem.W.plainGet K C Str.empty && (PySem.W.hasDictIn K C && (PySem.W.plainOver K C && (He.eqO (PySem.W.findIn K (.ref C) "__setattr__") (some (some (.builtin "object.__setattr__"))) && (ns.all (fun x => He.eqO (PySem.W.findIn K (.ref C) x) (some none)) &&
  (PySem.W.makesIn K C && (He.eqO (PySem.W.findIn K (.ref C) "__init__") (some (some (.ref iA))) && (PySem.W.isFn K (.ref iA) && (PySem.W.keepIn K (.ref C) && (He.eqO (PySem.W.findIn K (.ref C) "__class__") (some (some (.builtin "object.__class__"))) &&
  (He.eqO (PySem.W.specialIn K (.builtin "object.__class__") "__get__") (some (some (.builtin "getset_descriptor.__get__"))) && (decide (PySem.W.takesIn K (.builtin "object.__class__") = some true) && decide (PySem.W.mroIn K C (.type "object") = some true))))))))))))
/-- an own exception class -/
def ecB (K : PySem.W.Frag) (C iA : Addr) (mb : List Value) (nw : String) (ns : List Str) : Bool :=
  PySem.W.excInitIn K C mb nw && (PySem.W.excOver K C mb && ((PySem.W.clsIn K C).isSome && (PySem.W.hasDictIn K C && (He.eqO (PySem.W.findIn K (.ref C) "__setattr__") (some (some (.builtin "object.__setattr__"))) && (He.eqO (PySem.W.findIn K (.ref C) "__getattribute__") (some (some (.builtin "BaseException.__getattribute__"))) &&
  (He.eqO (PySem.W.findIn K (.ref C) "__getattr__") (some none) && (decide (PySem.W.subIn K (.ref C) (.type "BaseException") = some true) && (He.eqO (PySem.W.findIn K (.ref C) "__class__") (some (some (.builtin "object.__class__"))) && (He.eqO (PySem.W.specialIn K (.builtin "object.__class__") "__get__") (some (some (.builtin "getset_descriptor.__get__"))) &&
  (decide (PySem.W.takesIn K (.builtin "object.__class__") = some true) && (decide (PySem.W.mroIn K C (.type "object") = some true) && (PySem.W.keepIn K (.ref C) && (decide (PySem.W.typeIn K (.ref C) = some (.type "type")) && (He.eqO (PySem.W.findIn K (.ref C) "__init__") (some (some (.ref iA))) &&
  (PySem.W.isFn K (.ref iA) && ns.all (fun x => He.eqO (PySem.W.findIn K (.ref C) x) (some none)))))))))))))))))
def codeB (K : PySem.W.Frag) (f c : Addr) : Bool := match K.lookup f with
  | some ⟨_, _, .func fd, _⟩ => (match fd.code with | .ref c' => decide (c' = c) | _ => false)
  | _ => false
def mtB (K : PySem.W.Frag) (C f : Addr) (m : Str) : Bool := He.eqO (PySem.W.findIn K (.ref C) m) (some (some (.ref f))) && PySem.W.isFn K (.ref f)
def mtT : List (Addr × Addr × Str) := [(stA, 841, "__eq__"), (rwA, 599, "numbers"), (rwA, 606, "number"), (rwA, 613, "scaled"), (rwA, 641, "__add__"), (rwA, 655, "__mul__")]
/-- the looks -/
def faT : List (PySem.W.Frag → Bool) := [
  fun K => ldT.all fun d => He.eqO (PySem.W.nsIn K mainGlobals d.nm) (some (some (.ref d.f))),
  fun K => freeN.all fun x => He.eqO (PySem.W.nsIn K mainGlobals x) (some none),
  fun K => He.eqO (PySem.W.nsIn K mainGlobals "gcd") (some (some (.builtin "math.gcd"))),
  fun K => He.eqO (PySem.W.nsIn K mainGlobals "lcm") (some (some (.builtin "math.lcm"))),
  fun K => He.eqO (PySem.W.nsIn K mainGlobals "Step") (some (some (.ref stA))),
  fun K => He.eqO (PySem.W.nsIn K mainGlobals "Row") (some (some (.ref rwA))),
  fun K => He.eqO (PySem.W.nsIn K mainGlobals "ZERO") (some (some (.ref zeA))),
  fun K => He.eqO (PySem.W.nsIn K mainGlobals "ONE") (some (some (.ref onA))),
  fun K => He.eqO (PySem.W.nsIn K mainGlobals "MINUS_ONE") (some (some (.ref moA))),
  fun K => He.eqO (PySem.W.nsIn K mainGlobals "CreepError") (some (some (.ref ceA))),
  fun K => He.eqO (PySem.W.nsIn K mainGlobals "NoAnswer") (some (some (.ref naA))),
  (He.Fa.int "LOWEST_ORDER" 2).ok,
  (He.Fa.int "HIGHEST_ORDER" 24).ok,
  fun K => kpB K zeA 0 1,
  fun K => kpB K onA 1 1,
  fun K => kpB K moA (-1) 1,
  fun K => owB K stA 744 753 751 "still" stN0,
  fun K => owT K rwA 582 rwN0,
  fun K => ecB K 79 76 [.type "ValueError", .type "Exception", .type "BaseException", .type "object"] "ValueError.__new__" ["code", "value"],
  fun K => ecB K 231 228 [.type "ValueError", .type "Exception", .type "BaseException", .type "object"] "ValueError.__new__" ["code", "first"],
  fun K => ecB K 263 260 [.type "ArithmeticError", .type "Exception", .type "BaseException", .type "object"] "ArithmeticError.__new__" ["code"],
  fun K => ecB K 136 133 [.type "ValueError", .type "Exception", .type "BaseException", .type "object"] "ValueError.__new__" ["code", "one", "other"],
  fun K => ecB K 98 95 [.type "ValueError", .type "Exception", .type "BaseException", .type "object"] "ValueError.__new__" ["code", "at"],
  fun K => ecB K 117 114 [.type "ValueError", .type "Exception", .type "BaseException", .type "object"] "ValueError.__new__" ["code", "value"],
  fun K => ecB K 155 152 [.type "ValueError", .type "Exception", .type "BaseException", .type "object"] "ValueError.__new__" ["code", "value"],
  fun K => He.eqO (PySem.W.nsIn K mainGlobals "InvalidNumber") (some (some (.ref 79))),
  fun K => He.eqO (PySem.W.nsIn K mainGlobals "NotOne") (some (some (.ref 231))),
  fun K => He.eqO (PySem.W.nsIn K mainGlobals "DividedByZero") (some (some (.ref 263))),
  fun K => He.eqO (PySem.W.nsIn K mainGlobals "UnlikeOrders") (some (some (.ref 136))),
  fun K => He.eqO (PySem.W.nsIn K mainGlobals "InvalidFraction") (some (some (.ref 98))),
  fun K => He.eqO (PySem.W.nsIn K mainGlobals "InvalidOrder") (some (some (.ref 117))),
  fun K => He.eqO (PySem.W.nsIn K mainGlobals "InvalidPlace") (some (some (.ref 155))),
  fun K => (List.finRange 3).all fun i => (List.finRange 3).all fun j => decide (PySem.W.kitOne K (.ref (csE i)) (.ref (csE j)) = some (decide (i = j))),
  fun K => decide (PySem.W.exmOne K (.ref (csE 0)) (.ref ceA) = some true),
  fun K => decide (PySem.W.exmOne K (.ref (csE 1)) (.ref ceA) = some true),
  fun K => decide (PySem.W.exmOne K (.ref (csE 2)) (.ref ceA) = some false),
  fun K => decide (PySem.W.exmOne K (.ref (csE 2)) (.ref naA) = some true),
  fun K => (["int", "bool", "str", "tuple", "list"] : List String).all fun n => decide (PySem.W.kitOne K (.ref stA) (.type n) = some false),
  fun K => decide (PySem.W.kitOne K (.ref stA) (.ref rwA) = some false),
  fun K => decide (PySem.W.kitOne K (.ref stA) (.ref stA) = some true),
  fun K => decide (PySem.W.kitOne K (.ref rwA) (.ref rwA) = some true),
  fun K => PySem.W.selfFirst K stA,
  fun K => PySem.W.selfFirst K rwA,
  fun K => mtT.all fun t => mtB K t.1 t.2.1 t.2.2,
  fun K => tabA.all fun a => (K.lookup a).isNone,
  fun K => codeB K 1014 1013,
  fun K => codeB K 1021 1020,
  fun K => PySem.W.codeHdIn K 1013 1011,
  fun K => PySem.W.codeHdIn K 1020 1016]
abbrev ObV : Type := Bool × List He5.FnW
def obK (K : PySem.W.Frag) : ObV := ((faT.all fun f => f K) && fnT.all fun d => d.ok K, fnT.map fun d => He5.fnA K (d.at_ K))
def valR : ObV := (true, fnT.map He5.DefA.val)
def adr : List Addr := [mainGlobals, cStatics, stA, 864, rwA, 690, ceA, 58, naA, 242, zeA, onA, moA, 753, 752, 79, 78, 231, 230, 263, 262, 136, 135, 98, 97, 117, 116, 155, 154, 744, 743, 751, 750, 841, 840, 582, 581, 599, 598, 606, 605, 613, 612, 641, 640, 655, 654, 76, 75, 228, 227, 260, 259, 133, 132, 95, 94, 114, 113, 152, 151] ++ ldT.flatMap fun d => [d.f, d.f - 1]
def obR (g : Addr → Option Obj) : ObV := obK (He.frG g adr)
def tblB (g : Addr → Option Obj) : Bool := tabA.all fun a => match g a with
  | some ⟨.none, none, .fields vs, sl⟩ => decide (vs = #[]) && decide (sl.size = 0)
  | _ => false
theorem tblB_ok {g : Addr → Option Obj} (h : tblB g = true) : ∀ a ∈ tabA, g a = some { cls := .none, data := .fields #[] } := fun a ha => by
  have q := List.all_eq_true.mp h a ha
  split at q
  · rename_i vs sl e
    obtain ⟨q1, q2⟩ := He.ba q
    have e2 : sl = #[] := Array.eq_empty_of_size_eq_zero (of_decide_eq_true q2)
    rw [e, of_decide_eq_true q1, e2]
  · cases q
def SaysR (K : PySem.W.Frag) : Prop := obK K = valR
def hookR : PySem.W.Hook where
  α := ObV × Bool
  obs := fun s => (obR s.heap.get?, tblB s.heap.get?)
  val := fun _ => (valR, true)
  says := fun _ h => (∃ K : PySem.W.Frag, K.In h ∧ SaysR K) ∧ ∀ a ∈ tabA, h.get? a = some { cls := .none, data := .fields #[] }
  of := fun _ _ e => ⟨⟨_, He.frG_in, (Prod.mk.inj e).1⟩, tblB_ok (Prod.mk.inj e).2⟩
  keeps := fun _ _ _ ⟨⟨K, hK, c⟩, t⟩ k => ⟨⟨K, PySem.W.Frag.In.keeps hK k, c⟩, fun a ha => k _ _ (t a ha)⟩
end Kx
end
section
set_option maxHeartbeats 0
namespace Kx
open PySem PySem.Spec PyProof.Rows L2
abbrev R : PySem.W.OpenRow := PySem.W.OpenLaw.row PySem.Challenge.rw_creepclocks_k04_whole_powers_and_logs_of
def names0 : List PySem.Str := ["_wall", "CreepError", "InvalidNumber", "InvalidFraction", "InvalidOrder", "UnlikeOrders", "InvalidPlace", "InvalidPower", "CantTurn", "NotSlow", "NotOne", "NoAnswer", "DividedByZero", "ZERO", "ONE", "MINUS_ONE", "MOST_POWER", "is_whole", "is_between", "is_fraction"]
def names1 : List PySem.Str := ["ratio", "difference_of", "product_of", "quotient_of", "negative_of", "fraction_text", "LOWEST_ORDER", "HIGHEST_ORDER", "is_listing", "check_order", "check_orders", "check_place", "check_number", "wrong_item", "check_fractions", "checked_numbers", "check_slow", "check_turnable", "is_zero", "least_place"]
def names2 : List PySem.Str := ["sums_of", "differences_of", "multiples_of", "dot", "mixed", "over_one_lower", "multiplied", "reciprocal_of", "log_slopes", "unit_log", "unit_power", "still_numbers", "table_lines", "row_behind", "put_behind", "solved", "turned_back", "done_times", "differences", "binomials"]
def names3 : List PySem.Str := ["binomial_power", "letter_text", "term_text", "term_words", "numbers_text", "Row", "reciprocal", "check_unit_row", "row_power", "row_log", "kind_of", "Step", "_law_bag", "_law_draw", "_law_of", "_law_like", "_law_low", "_law_add", "_law_mul", "_law_times"]
def names4 : List PySem.Str := ["_law_scale", "_law_number", "_law_odd", "_law_big", "_law_wide", "_law_is", "_law_fault", "_law_ask", "_law_row", "_law_slope", "_law_power_so", "_law_log_so", "_law_small", "_law_whole_so", "_law_back_so", "_law_refused_so"]
def names : List PySem.Str := names0 ++ names1 ++ names2 ++ names3 ++ names4
abbrev hk : PySem.W.Hook := hookR
def ob (s : PySem.W.SharedT) : ObV × Bool := (obR (HandSHeadRun.getT s), tblB (HandSHeadRun.getT s))
theorem ob_eq (s : PySem.W.SharedT) : ob s = hk.obs s.abs := by
  have e : HandSHeadRun.getT s = s.abs.heap.get? := funext fun a => HandSHeadRun.getT_eq s a
  unfold ob
  rw [e]
  rfl
noncomputable abbrev endI (w : World) := HandSHeadRun.wholeF (fun p => HandSHeadRun.stepQ (HandSHeadRun.denQ HandSHeadRun.tabQ) p w) HandSHeadRun.fenceQ 20000 R.prog
abbrev qv := PySem.W.view R.prog [0, 105]
theorem run1 (w : World) : (endI w).map (fun x => (HandSHeadRun.looksF R.prog x.1.heap x.2.abs, ob x.2)) = some (true, (valR, true)) := by
  kernel_rfl
theorem run2 (w : World) : (endI w).map (fun x => HandSHeadRun.seenQ qv names (importedModules R.prog.main.body) (fun s => PySem.W.xlAt qv [] s && PySem.W.recOk R.toRowW.records s) x.2.abs) = some (PySem.W.openGood qv names) := by
  kernel_rfl
theorem run (w : World) : HandSHeadRun.RunEqI R qv hk ob 20000 names w := by
  obtain ⟨x, e1, e2⟩ := Option.map_eq_some_iff.mp (run1 w)
  have e3 := run2 w
  show (endI w).map _ = _
  rw [e1] at e3 ⊢
  have e4 := Option.some.inj e3
  have e5 := (Prod.mk.inj e2).1
  have e6 := (Prod.mk.inj e2).2
  show some (HandSHeadRun.looksF R.prog x.1.heap x.2.abs, HandSHeadRun.seenQ qv names (importedModules R.prog.main.body) (fun s => PySem.W.xlAt qv [] s && PySem.W.recOk R.toRowW.records s) x.2.abs, ob x.2) = _
  rw [e5, e6]
  exact congrArg some (congrArg (Prod.mk true) (congrArg (fun z => (z, (valR, true))) e4))
end Kx
end
section
set_option maxHeartbeats 4000000
namespace Kx
open PySem PySem.Spec PyProof.Rows L2
/-! ### the bag -/
def bagL (p : Addr) (i r sd c : Int) : List V := [.ref p, .int i, .int r, .int sd, .int c]
structure Bag (H : Hp) (B p : Addr) : Prop where
  ex : ∃ (ns : List Int) (i r sd c : Int), H B = some (.lst (bagL p i r sd c)) ∧ H p = some (.lst (ns.map V.int)) ∧ p ≠ B ∧ 0 ≤ i ∧ 0 ≤ r ∧ 0 ≤ sd ∧ sd < 2147483629
/-- all but the bag stands -/
def But (B : Addr) (H H' : Hp) : Prop := ∀ b o, b ≠ B → H b = some o → H' b = some o
theorem But.refl {B : Addr} {H : Hp} : But B H H := fun _ _ _ h => h
theorem But.trans {B : Addr} {H H1 H2 : Hp} (a : But B H H1) (b : But B H1 H2) : But B H H2 := fun x o n h => b x o n (a x o n h)
theorem But.new {B : Addr} {H : Hp} {p : Addr} {o : HO} (h : H p = none) : But B H (upd H p o) := fun b u _ q => by rw [upd_ne (ne_of_none q h)]; exact q
theorem But.same {B : Addr} {H H' : Hp} (h : Same H H') : But B H H' := fun b o _ q => h b o q
theorem Bag.same {H H' : Hp} {B p : Addr} (b : Bag H B p) (h : Same H H') : Bag H' B p := by
  obtain ⟨ns, i, r, sd, c, h1, h2, h3⟩ := b.ex
  exact ⟨ns, i, r, sd, c, h _ _ h1, h _ _ h2, h3⟩
def spDraw : Sp := fun vs H Q _ => ∃ (B p : Addr) (L : Int), vs = [.ref B, .int L] ∧ 0 < L ∧ L < 1073741824 ∧ Bag H B p ∧
  ∀ H' k, Bag H' B p → But B H H' → 0 ≤ k → k < L → Q (.int k) H'
section
variable {P : Program} {w : World} {K : PySem.W.Frag} {mg : Str → Option Value} {base : Heap} {f : Addr} {fd : FuncData}
theorem scDraw : FnScope ["_law_bag_here", "_law_limit", "_law_item", "_law_digit"] ["_law_bag_here", "_law_limit"] (defScope L_draw) := ⟨rfl, rfl, rfl, by decide +kernel, rfl, by decide +kernel, by decide +kernel⟩
theorem ok_draw (F : Fun K "_law_draw" "_law_draw" L_draw f fd) (ml : mg "len" = none) (mi : mg "int" = none) : FnOk P w K mg base CX0 1 f fd ["_law_bag_here", "_law_limit"] spDraw := by
  refine F.ok scDraw (fun vs H Q E h => ?_) (fun cdv A outer s H vs Q E hr h => ?_)
  · obtain ⟨B, p, L, rfl, _⟩ := h
    rfl
  obtain ⟨B, p, L, rfl, l1, l2, hb, q⟩ := h
  obtain ⟨ns, i, r, sd, c, hB, hp, np, i0, r0, s0, s1⟩ := hb.ex
  refine ⟨_, pss_cons (ps_asg (pe_op op_add (pe_ix ix_list (pv 0) pe_int (fun _ _ => rfl)) pe_int) (pg_sub (pv 0) pe_int set_list))
    (C8.pss_cut (ps_if (PW.pt (pw_and (pt_cmpR op_eq (pe_ix ix_list (pv 0) pe_int (fun _ _ => rfl)) pe_int (nomark _)) (pw_and1 (pt_cmpR op_lt (pe_ix ix_list (pv 0) pe_int (fun _ _ => rfl)) (pe_callB call_len_seq rfl ml PySem.boot_len (pa_cons (pe_ix ix_list (pv 0) pe_int (fun _ _ => rfl)) pa_nil)) (nomark _)))))
        (pss_cons (ps_set (i := 2) scDraw.nd rfl (Or.inl rfl) (pe_ix ix_list (pe_ix ix_list (pv 0) pe_int (fun _ _ => rfl)) (pe_ix ix_list (pv 0) pe_int (fun _ _ => rfl)) (fun _ _ => rfl)))
        (pss_cons (ps_asg (pe_op op_add (pe_ix ix_list (pv 0) pe_int (fun _ _ => rfl)) pe_int) (pg_sub (pv 0) pe_int set_list))
        (pss_one (ps_if (pt_cmpR op_ge (pv 2) (pe_op op_pow pe_int pe_int) (nomark _))
          (pss_one (ps_asg (pv 2) (pg_sub (pv 0) pe_int set_list)))
          (pss_one (ps_asg (pe_op op_mod (pe_callTy call_int1 rfl mi (by decide +kernel) (pa_cons (pe_op op_add (pe_op op_add (pe_op op_mul (pe_ix ix_list (pv 0) pe_int (fun _ _ => rfl)) pe_int) (pe_op op_mul (pe_op op_mod (pe_callTy call_int1 rfl mi (by decide +kernel) (pa_cons (pv 2) pa_nil)) pe_int) pe_int)) pe_int) pa_nil)) pe_int) (pg_sub (pv 0) pe_int set_list)))))))
        pss_nil)
    (pss_cons (ps_if (pt_cmpR op_gt (pe_ix ix_list (pv 0) pe_int (fun _ _ => rfl)) pe_int (nomark _))
        (pss_cons (ps_set (i := 3) scDraw.nd rfl (Or.inl rfl) (pe_op op_mod (pe_callTy call_int1 rfl mi (by decide +kernel) (pa_cons (pe_ix ix_list (pv 0) pe_int (fun _ _ => rfl)) pa_nil)) (pv 1)))
        (pss_cons (ps_asg (pe_op op_fdiv (pe_ix ix_list (pv 0) pe_int (fun _ _ => rfl)) (pv 1)) (pg_sub (pv 0) pe_int set_list))
        (pss_one (ps_ret (pv 3)))))
        pss_nil)
    (pss_cons (ps_asg (pe_op op_mod (pe_callTy call_int1 rfl mi (by decide +kernel) (pa_cons (pe_op op_add (pe_op op_add (pe_op op_pow (pe_ix ix_list (pv 0) pe_int (fun _ _ => rfl)) pe_int) (pe_op op_mul (pe_ix ix_list (pv 0) pe_int (fun _ _ => rfl)) pe_int)) pe_int) pa_nil)) pe_int) (pg_sub (pv 0) pe_int set_list))
    (pss_one (ps_ret (pe_op op_mod (pe_callTy call_int1 rfl mi (by decide +kernel) (pa_cons (pe_op op_add (pe_op op_fdiv (pe_ix ix_list (pv 0) pe_int (fun _ _ => rfl)) pe_int) (pe_op op_mul (pe_op op_mod (pe_callTy call_int1 rfl mi (by decide +kernel) (pa_cons (pe_ix ix_list (pv 0) pe_int (fun _ _ => rfl)) pa_nil)) pe_int) pe_int)) pa_nil)) (pv 1))))))), ?_⟩
  refine ⟨_, rfl, B, _, 4, _, rfl, rfl, SqL.of hB, rfl, c, 1, rfl, rfl, _, rfl, B, _, 4, 4, rfl, rfl, hB, rfl, ?_⟩
  have e1 : (bagL p i r sd c).set 4 (.int (c + 1)) = bagL p i r sd (c + 1) := rfl
  have hB1 : (upd H B (.lst ((bagL p i r sd c).set 4 (.int (c + 1))))) B = some (.lst (bagL p i r sd (c + 1))) := upd_same
  have hp1 : (upd H B (.lst ((bagL p i r sd c).set 4 (.int (c + 1))))) p = some (.lst (ns.map V.int)) := by rw [upd_ne np]; exact hp
  have b1 : But B H (upd H B (.lst ((bagL p i r sd c).set 4 (.int (c + 1))))) := fun b o n z => by rw [upd_ne n]; exact z
  generalize upd H B (.lst ((bagL p i r sd c).set 4 (.int (c + 1)))) = H1 at hB1 hp1 b1 ⊢
  refine ⟨fun σ' H' => ∃ (i r sd : Int) (v w : Option V), σ' = [some (.ref B), some (.int L), v, w] ∧ H' B = some (.lst (bagL p i r sd (c + 1))) ∧ H' p = some (.lst (ns.map V.int)) ∧ But B H H' ∧ 0 ≤ i ∧ 0 ≤ r ∧ 0 ≤ sd ∧ sd < 2147483629, ?_, ?_⟩
  · refine ⟨_, rfl, B, _, 2, _, rfl, rfl, SqL.of hB1, rfl, rfl, _, rfl, ?_⟩
    refine ite2 (fun _ => ?_) (fun _ => iteF ⟨i, r, sd, none, none, rfl, hB1, hp1, b1, i0, r0, s0, s1⟩)
    refine ⟨_, rfl, B, _, 1, _, rfl, rfl, SqL.of hB1, rfl, _, rfl, B, _, 0, _, rfl, rfl, SqL.of hB1, rfl, p, _, rfl, .inl (SqL.of hp1), i, _, rfl, rfl, _, rfl, ?_⟩
    refine ite2 (fun c1 => ?_) (fun _ => ⟨i, r, sd, none, none, rfl, hB1, hp1, b1, i0, r0, s0, s1⟩)
    have c2 : i < (((ns.map V.int).length : Nat) : Int) := of_decide_eq_true c1
    rw [List.length_map] at c2
    have hz : (ns.map V.int)[i.toNat]? = some (.int (ns[i.toNat]'(by omega))) := by rw [List.getElem?_map, List.getElem?_eq_getElem (by omega)]; rfl
    generalize ns[i.toNat]'(by omega) = z at hz
    have ha : atI (ns.map V.int) i = some (.int z) := at_of (by omega) hz
    refine ⟨_, rfl, B, _, 0, _, rfl, rfl, SqL.of hB1, rfl, _, rfl, B, _, 1, _, rfl, rfl, SqL.of hB1, rfl, p, _, i, _, rfl, rfl, SqL.of hp1, ha, ?_⟩
    refine ⟨_, rfl, B, _, 1, _, rfl, rfl, SqL.of hB1, rfl, i, 1, rfl, rfl, _, rfl, B, _, 1, 1, rfl, rfl, hB1, rfl, ?_⟩
    have hB2 : (upd H1 B (.lst ((bagL p i r sd (c + 1)).set 1 (.int (i + 1))))) B = some (.lst (bagL p (i + 1) r sd (c + 1))) := upd_same
    have hp2 : (upd H1 B (.lst ((bagL p i r sd (c + 1)).set 1 (.int (i + 1))))) p = some (.lst (ns.map V.int)) := by rw [upd_ne np]; exact hp1
    have b2 : But B H (upd H1 B (.lst ((bagL p i r sd (c + 1)).set 1 (.int (i + 1))))) := b1.trans fun b o n z => by rw [upd_ne n]; exact z
    generalize upd H1 B (.lst ((bagL p i r sd (c + 1)).set 1 (.int (i + 1)))) = H2 at hB2 hp2 b2 ⊢
    refine ⟨_, rfl, 10, 18, rfl, rfl, ⟨by decide, by decide, by decide⟩, z, _, rfl, rfl, _, rfl, ?_⟩
    refine ite2 (fun c3 => ?_) (fun _ => ?_)
    · have c4 : (10 : Int) ^ (18 : Int).toNat ≤ z := of_decide_eq_true c3
      refine ⟨_, rfl, _, rfl, B, _, 2, 2, rfl, rfl, hB2, rfl, i + 1, z, sd, some (.int z), none, rfl, upd_same, by rw [upd_ne np]; exact hp2, b2.trans fun b o n z => by rw [upd_ne n]; exact z, by omega, ?_, s0, s1⟩
      exact Int.le_trans (by decide) c4
    · refine ⟨_, rfl, B, _, 3, _, rfl, rfl, SqL.of hB2, rfl, sd, 69621, rfl, rfl, .inr ⟨by decide, by decide⟩, _, rfl, .inl ⟨z, rfl, ?_⟩⟩
      refine ⟨z, 2147483549, rfl, rfl, (by show (0 : Int) < 2147483549; decide), _, 30103, rfl, rfl, .inr ⟨by decide, by decide⟩, _, _, rfl, rfl, _, 89, rfl, rfl, .inl ⟨_, rfl, ?_⟩⟩
      refine ⟨_, 2147483629, rfl, rfl, (by show (0 : Int) < 2147483629; decide), _, rfl, B, _, 3, 3, rfl, rfl, hB2, rfl, i + 1, r, _, some (.int z), none, rfl, upd_same, by rw [upd_ne np]; exact hp2, b2.trans fun b o n z => by rw [upd_ne n]; exact z, by omega, r0, Int.emod_nonneg _ (by decide), Int.emod_lt_of_pos _ (by decide)⟩
  · rintro σ' H' ⟨i, r, sd, v, w', rfl, hB2, hp2, b2, i0, r0, s0, s1⟩
    refine ⟨_, rfl, B, _, 2, _, rfl, rfl, SqL.of hB2, rfl, r, 0, rfl, rfl, _, rfl, ?_⟩
    refine ite2 (fun _ => ?_) (fun _ => ?_)
    · refine ⟨_, rfl, B, _, 2, _, rfl, rfl, SqL.of hB2, rfl, .inl ⟨r, rfl, _, rfl, r, L, rfl, rfl, l1, ?_⟩⟩
      refine ⟨_, rfl, B, _, 2, _, rfl, rfl, SqL.of hB2, rfl, _, rfl, r, L, rfl, rfl, ⟨l1, l2⟩, _, rfl, B, _, 2, 2, rfl, rfl, hB2, rfl, ?_⟩
      refine ⟨_, rfl, q _ _ ⟨ns, i, r / L, sd, c + 1, upd_same, by rw [upd_ne np]; exact hp2, np, i0, Int.ediv_nonneg r0 (by omega), s0, s1⟩ (b2.trans fun b o n z => by rw [upd_ne n]; exact z) (Int.emod_nonneg _ (by omega)) (Int.emod_lt_of_pos _ l1)⟩
    · refine ⟨_, rfl, B, _, 3, _, rfl, rfl, SqL.of hB2, rfl, sd, 3, rfl, rfl, ⟨by decide, by decide, by omega⟩, ?_⟩
      refine ⟨_, rfl, B, _, 4, _, rfl, rfl, SqL.of hB2, rfl, c + 1, 1299709, rfl, rfl, .inr ⟨by decide, by decide⟩, _, _, rfl, rfl, _, 60013, rfl, rfl, .inl ⟨_, rfl, _, 2147483629, rfl, rfl, (by show (0 : Int) < 2147483629; decide), _, rfl, B, _, 3, 3, rfl, rfl, hB2, rfl, ?_⟩⟩
      have v0 := Int.emod_nonneg (sd ^ Int.toNat 3 + (c + 1) * 1299709 + 60013) (show (2147483629 : Int) ≠ 0 by decide)
      have v1 := Int.emod_lt_of_pos (sd ^ Int.toNat 3 + (c + 1) * 1299709 + 60013) (show (0 : Int) < 2147483629 by decide)
      have hB3 : (upd H' B (.lst ((bagL p i r sd (c + 1)).set 3 (.int ((sd ^ Int.toNat 3 + (c + 1) * 1299709 + 60013) % 2147483629))))) B = some (.lst (bagL p i r ((sd ^ Int.toNat 3 + (c + 1) * 1299709 + 60013) % 2147483629) (c + 1))) := upd_same
      have hp3 : (upd H' B (.lst ((bagL p i r sd (c + 1)).set 3 (.int ((sd ^ Int.toNat 3 + (c + 1) * 1299709 + 60013) % 2147483629))))) p = some (.lst (ns.map V.int)) := by rw [upd_ne np]; exact hp2
      have b3 : But B H (upd H' B (.lst ((bagL p i r sd (c + 1)).set 3 (.int ((sd ^ Int.toNat 3 + (c + 1) * 1299709 + 60013) % 2147483629))))) := b2.trans fun b o n z => by rw [upd_ne n]; exact z
      refine ⟨_, rfl, B, _, 3, _, rfl, rfl, SqL.of hB3, rfl, _, 97, rfl, rfl, ⟨by decide, by decide⟩, _, rfl, B, _, 3, _, rfl, rfl, SqL.of hB3, rfl, .inl ⟨_, rfl, ?_⟩⟩
      refine ⟨_, 7901, rfl, rfl, (by show (0 : Int) < 7901; decide), _, 67, rfl, rfl, .inr ⟨by decide, by decide⟩, _, _, rfl, rfl, .inl ⟨_, rfl, _, rfl, _, L, rfl, rfl, l1, ?_⟩⟩
      exact q _ _ ⟨ns, i, r, _, c + 1, hB3, hp3, np, i0, r0, v0, v1⟩ b3 (Int.emod_nonneg _ (by omega)) (Int.emod_lt_of_pos _ l1)
end
end Kx
end
section
set_option maxHeartbeats 4000000
namespace Kx
open PySem PySem.Spec PyProof.Rows L2
theorem cut_map (ns : List Int) (lo hi : Option Int) : ∃ ms : List Int, cutV (ns.map V.int) lo hi = ms.map V.int := by
  unfold cutV
  rw [List.length_map, ← List.map_drop, ← List.map_take]
  exact ⟨_, rfl⟩
def spBag (K : PySem.W.Frag) : Sp := fun vs H Q _ => ∃ (a : Addr) (ns : List Int), vs = [.ref a] ∧ SqL K H a (ns.map V.int) ∧ ∀ H' B p, Same H H' → H B = none → Bag H' B p → Q (.ref B) H'
theorem new_same {H : Hp} {p : Addr} (h : H p = none) (o : HO) : Same H (upd H p o) := fun b u q => by rw [upd_ne (ne_of_none q h)]; exact q
section
variable {P : Program} {w : World} {K : PySem.W.Frag} {mg : Str → Option Value} {base : Heap} {f fD : Addr} {fd fdD : FuncData}
theorem scBag : FnScope ["_law_script", "_law_seed", "_law_item"] ["_law_script"] (defScope L_bag) := ⟨rfl, rfl, rfl, by decide +kernel, rfl, by decide +kernel, by decide +kernel⟩
theorem ok_bag (F : Fun K "_law_bag" "_law_bag" L_bag f fd) (ml : mg "list" = none) (mi : mg "int" = none) : FnOk P w K mg base CX0 1 f fd ["_law_script"] (spBag K) := by
  refine F.ok scBag (fun vs H Q E h => ?_) (fun cdv A outer s H vs Q E hr h => ?_)
  · obtain ⟨a, ns, rfl, _⟩ := h
    rfl
  obtain ⟨a, ns, rfl, hS, q⟩ := h
  obtain ⟨ms, hm⟩ := cut_map ns none (some 63)
  refine ⟨_, pss_cons (ps_set (i := 1) scBag.nd rfl (Or.inl rfl) pe_int)
    (pss_cons (ps_for PassesOwn.never rfl (pi_list (pe_slice sl_list (pv 0) po_none (po_some pe_int))) (pg_name (i := 2) scBag.nd rfl (Or.inl rfl))
      (pss_one (ps_set (i := 1) scBag.nd rfl (Or.inl rfl) (pe_op op_mod (pe_callTy call_int1 rfl mi (by decide +kernel) (pa_cons (pe_op op_add (pe_op op_add (pe_op op_mul (pv 1) pe_int) (pe_op op_mod (pe_callTy call_int1 rfl mi (by decide +kernel) (pa_cons (pv 2) pa_nil)) pe_int)) pe_int) pa_nil)) pe_int))))
    (pss_one (ps_ret (pe_lst (pa_cons (pe_callTy call_list_of rfl ml (by decide +kernel) (pa_cons (pe_slice sl_list (pv 0) po_none (po_some pe_int)) pa_nil)) (pa_cons pe_int (pa_cons pe_int (pa_cons (pv 1) (pa_cons pe_int pa_nil))))))))), ?_⟩
  refine ⟨_, rfl, 63, rfl, a, _, rfl, hS, fun p np => ⟨p, rfl, ⟨_, SqL.of upd_same⟩, for_list (K := K) (a := p) (xs := cutV (ns.map V.int) none (some 63))
    (fun i σ H' => ∃ (sd : Int) (v : Option V), σ = [some (.ref a), some (.int sd), v] ∧ 0 ≤ sd ∧ sd < 2147483629 ∧ H' = upd H p (.lst (cutV (ns.map V.int) none (some 63)))) ⟨13960, none, rfl, by decide, by decide, rfl⟩ (fun i σ H' _ h => ?_) ?_ ?_⟩⟩
  · obtain ⟨_, _, _, _, _, rfl⟩ := h
    exact SqL.of upd_same
  · rintro i y σ H' hy ⟨sd, v, rfl, s0, s1, rfl⟩
    obtain ⟨z, rfl⟩ : ∃ z, y = V.int z := by
      rw [hm, List.getElem?_map] at hy
      obtain ⟨z, _, e⟩ := Option.map_eq_some_iff.mp hy
      exact ⟨z, e.symm⟩
    refine ⟨_, rfl, sd, 48271, rfl, rfl, .inr ⟨by decide, by decide⟩, _, rfl, .inl ⟨z, rfl, z, 2147483587, rfl, rfl, (by show (0 : Int) < 2147483587; decide), _, _, rfl, rfl, _, 307, rfl, rfl, .inl ⟨_, rfl, _, 2147483629, rfl, rfl, (by show (0 : Int) < 2147483629; decide), ?_⟩⟩⟩
    exact ⟨_, _, rfl, Int.emod_nonneg _ (by decide), Int.emod_lt_of_pos _ (by decide), rfl⟩
  · rintro σ H' ⟨sd, v, rfl, s0, s1, rfl⟩
    have g1 : Same H (upd H p (.lst (cutV (ns.map V.int) none (some 63)))) := new_same np _
    generalize upd H p (.lst (cutV (ns.map V.int) none (some 63))) = H1 at g1
    refine ⟨_, rfl, 63, rfl, a, _, rfl, g1.seq hS, fun p2 np2 => ⟨p2, _, rfl, .inl (SqL.of upd_same), fun l nl => ?_⟩⟩
    have g2 := g1.trans (new_same np2 (.lst (cutV (ns.map V.int) none (some 63))))
    generalize upd H1 p2 (.lst (cutV (ns.map V.int) none (some 63))) = H2 at g2 nl
    have g3 := g2.trans (new_same nl (.lst (cutV (ns.map V.int) none (some 63))))
    have hl : (upd H2 l (.lst (cutV (ns.map V.int) none (some 63)))) l = some (.lst (ms.map V.int)) := by rw [upd_same, hm]
    generalize upd H2 l (.lst (cutV (ns.map V.int) none (some 63))) = H3 at g3 hl
    refine ⟨_, rfl, (by show 5 ≤ sizeLine; decide), fun B nB => q _ B l (g3.trans (new_same nB _)) (g3.free nB) ⟨ms, 0, 0, sd, 0, upd_same, ?_, ?_, by decide, by decide, s0, s1⟩⟩
    · rw [upd_ne (ne_of_none hl nB)]
      exact hl
    · exact ne_of_none hl nB
/-! ### one of several -/
def spOfL : Sp := fun vs H Q _ => ∃ (B p t : Addr) (xs : List V), vs = [.ref B, .ref t] ∧ H t = some (.lst xs) ∧ t ≠ B ∧ 0 < xs.length ∧ xs.length ≤ 1000 ∧ Bag H B p ∧ ∀ H' x, Bag H' B p → But B H H' → x ∈ xs → Q x H'
def spOfS : Sp := fun vs H Q _ => ∃ (B p : Addr) (z : Str), vs = [.ref B, .str z] ∧ 0 < z.length ∧ z.length ≤ 1000 ∧ Bag H B p ∧ ∀ H' c, Bag H' B p → But B H H' → Q (.str ⟨#[c]⟩) H'
theorem scOf : FnScope ["_law_bag_here", "_law_things"] ["_law_bag_here", "_law_things"] (defScope L_of) := ⟨rfl, rfl, rfl, by decide +kernel, rfl, by decide +kernel, by decide +kernel⟩
theorem at_in {xs : List V} {k : Int} (h0 : 0 ≤ k) (h1 : k < (xs.length : Int)) : ∃ x, atI xs k = some x ∧ x ∈ xs := by
  have hk : k.toNat < xs.length := by omega
  exact ⟨xs[k.toNat], at_of (by omega) (List.getElem?_eq_getElem hk), List.getElem_mem hk⟩
theorem ok_ofL (F : Fun K "_law_of" "_law_of" L_of f fd) (G : FnOk P w K mg base CX0 1 fD fdD ["_law_bag_here", "_law_limit"] spDraw) (bD : Binds K fdD ["_law_bag_here", "_law_limit"] []) (kD : PySem.W.keepIn K (.ref fD) = true) (mD : mg "_law_draw" = some (.ref fD)) (ml : mg "len" = none) :
    FnOk P w K mg base CX0 2 f fd ["_law_bag_here", "_law_things"] spOfL := by
  refine F.ok scOf (fun vs H Q E h => ?_) (fun cdv A outer s H vs Q E hr h => ?_)
  · obtain ⟨B, p, t, xs, rfl, _⟩ := h
    rfl
  obtain ⟨B, p, t, xs, rfl, ht, nt, l0, l1, hb, q⟩ := h
  refine ⟨_, pss_one (ps_ret (pe_ix ix_list (pv 1) (pe_call G hr rfl mD kD bD .nil pass0 (pa_cons (pv 0) (pa_cons (pe_callB call_len_seq rfl ml PySem.boot_len (pa_cons (pv 1) pa_nil)) pa_nil))) (fun _ _ => rfl))), ?_⟩
  refine ⟨_, rfl, _, rfl, _, rfl, t, _, rfl, .inl (SqL.of ht), B, p, _, rfl, by omega, by omega, hb, fun H' k b' u k0 k1 => ?_⟩
  obtain ⟨x, hx, hm⟩ := at_in k0 k1
  exact ⟨t, xs, k, x, rfl, rfl, SqL.of (u _ _ nt ht), hx, q H' x b' u hm⟩
theorem ok_ofS (F : Fun K "_law_of" "_law_of" L_of f fd) (G : FnOk P w K mg base CX0 1 fD fdD ["_law_bag_here", "_law_limit"] spDraw) (bD : Binds K fdD ["_law_bag_here", "_law_limit"] []) (kD : PySem.W.keepIn K (.ref fD) = true) (mD : mg "_law_draw" = some (.ref fD)) (ml : mg "len" = none) :
    FnOk P w K mg base CX0 2 f fd ["_law_bag_here", "_law_things"] spOfS := by
  refine F.ok scOf (fun vs H Q E h => ?_) (fun cdv A outer s H vs Q E hr h => ?_)
  · obtain ⟨B, p, z, rfl, _⟩ := h
    rfl
  obtain ⟨B, p, z, rfl, l0, l1, hb, q⟩ := h
  refine ⟨_, pss_one (ps_ret (pe_ix ix_str (pv 1) (pe_call G hr rfl mD kD bD .nil pass0 (pa_cons (pv 0) (pa_cons (pe_callB call_len_str rfl ml PySem.boot_len (pa_cons (pv 1) pa_nil)) pa_nil))) (fun _ _ => rfl))), ?_⟩
  have hz : z.length ≤ sizeLine := Nat.le_of_lt (small1000 l1)
  refine ⟨_, rfl, _, rfl, _, rfl, z, rfl, hz, B, p, _, rfl, by omega, by omega, hb, fun H' k b' u k0 k1 => ?_⟩
  have el : z.cps.toList.length = z.length := Array.length_toList
  have hk : k.toNat < z.cps.toList.length := by omega
  exact ⟨z, k, z.cps.toList[k.toNat], rfl, rfl, hz, by
    have e : atI z.cps.toList ((k.toNat : Nat) : Int) = some z.cps.toList[k.toNat] := atI_nat (List.getElem?_eq_getElem hk)
    rw [show ((k.toNat : Nat) : Int) = k by omega] at e
    exact e, q H' _ b' u⟩
end
end Kx
end
section
set_option maxHeartbeats 4000000
namespace Kx
open PySem PySem.Spec PyProof.Rows L2
/-- // by any divisor but 0, below 2 ^ 9000 -/
theorem op_fdivA {X : Cx} : OpR X (binaryOp .FloorDiv) (rI (fun _ j => j ≠ 0 ∧ j.natAbs.log2 < 9000) fun i j => .int (i.fdiv j)) := opI fun _ _ _ _ _ _ _ hc q => floordiv_int hc.1 q (.inl (PyProof.noPylong_of_log2 hc.2))
/-- the greatest common divisor, with the sign of q -/
def gS (p q : Int) : Int := if q < 0 then -((Nat.gcd p.natAbs q.natAbs : Nat) : Int) else ((Nat.gcd p.natAbs q.natAbs : Nat) : Int)
/-- p over q in lowest terms, above and below -/
def lowU (p q : Int) : Int := p.fdiv (gS p q)
def lowL (p q : Int) : Int := q.fdiv (gS p q)
theorem gS_ne {p q : Int} (h : q ≠ 0) : gS p q ≠ 0 := by
  have g : Nat.gcd p.natAbs q.natAbs ≠ 0 := fun e => h (Int.natAbs_eq_zero.mp (Nat.eq_zero_of_gcd_eq_zero_right e))
  unfold gS
  split <;> omega
theorem gS_abs (p q : Int) : (gS p q).natAbs = Nat.gcd p.natAbs q.natAbs := by
  unfold gS
  split <;> omega
theorem gS_le {p q : Int} (h : q ≠ 0) : (gS p q).natAbs ≤ q.natAbs := by
  rw [gS_abs]
  exact Nat.gcd_le_right _ (Nat.pos_of_ne_zero (fun e => h (Int.natAbs_eq_zero.mp e)))
theorem log_le {a b : Nat} (h : a ≤ b) : a.log2 ≤ b.log2 := by
  by_cases e : a = 0
  · subst e
    rw [Nat.log2_zero]
    omega
  · have := Nat.log2_self_le e
    exact (Nat.le_log2 (by omega)).mpr (Nat.le_trans this h)
theorem abs_nat (i : Int) : (if i < 0 then -i else i) = ((i.natAbs : Nat) : Int) := by
  split <;> omega
def spLow : Sp := fun vs H Q _ => ∃ p q : Int, vs = [.int p, .int q] ∧ q ≠ 0 ∧ q.natAbs.log2 < 9000 ∧ ∀ t, H t = none → Q (.ref t) (upd H t (.tup [.int (lowU p q), .int (lowL p q)]))
abbrev nLow : List Str := ["_law_p", "_law_q", "_law_a", "_law_b"]
section
variable {P : Program} {w : World} {K : PySem.W.Frag} {mg : Str → Option Value} {base : Heap} {f : Addr} {fd : FuncData}
theorem scLow : FnScope nLow ["_law_p", "_law_q"] (defScope L_low) := ⟨rfl, rfl, rfl, by decide +kernel, rfl, by decide +kernel, by decide +kernel⟩
theorem ok_low (F : Fun K "_law_low" "_law_low" L_low f fd) (ma : mg "abs" = none) (mi : mg "int" = none) : FnOk P w K mg base CX0 1 f fd ["_law_p", "_law_q"] spLow := by
  refine F.ok scLow (fun vs H Q E h => ?_) (fun cdv A outer s H vs Q E hr h => ?_)
  · obtain ⟨p, q, rfl, _⟩ := h
    rfl
  obtain ⟨p, q, rfl, hq, hl, qq⟩ := h
  refine ⟨_, pss_cons (ps_par (i := 2) (j := 3) rfl scLow.nd rfl rfl (by decide) rfl rfl (pa_cons (pe_callB call_abs rfl ma (by decide +kernel) (pa_cons (pv 0) pa_nil)) (pa_cons (pe_callB call_abs rfl ma (by decide +kernel) (pa_cons (pv 1) pa_nil)) pa_nil)) rfl)
    (pss_cons (ps_while PassesOwn.never (pt_cmpR op_gt (pv 3) pe_int (nomark _)) (pss_one (ps_par (i := 2) (j := 3) rfl scLow.nd rfl rfl (by decide) rfl rfl (pa_cons (pv 3) (pa_cons (pe_op op_mod (pe_callTy call_int1 rfl mi (by decide +kernel) (pa_cons (pv 2) pa_nil)) (pv 3)) pa_nil)) rfl)))
    (pss_cons (ps_if (pt_cmpR op_lt (pv 1) pe_int (nomark _)) (pss_one (ps_set (i := 2) scLow.nd rfl (Or.inl rfl) (pe_un un_neg (pv 2)))) pss_nil)
    (pss_one (ps_ret (pe_tup (pa_cons (pe_op op_fdivA (pv 0) (pv 2)) (pa_cons (pe_op op_fdivA (pv 1) (pv 2)) pa_nil))))))), ?_⟩
  refine ⟨_, rfl, p, rfl, _, rfl, q, rfl, _, _, rfl, ?_⟩
  rw [abs_nat, abs_nat]
  refine ⟨fun m σ H' => H' = H ∧ ∃ a b : Nat, σ = [some (.int p), some (.int q), some (.int a), some (.int b)] ∧ Nat.gcd a b = Nat.gcd p.natAbs q.natAbs ∧ b = m, ⟨_, rfl, _, _, rfl, rfl, rfl⟩, ?_⟩
  rintro m σ H' ⟨rfl, a, b, rfl, hg, rfl⟩
  refine ⟨_, rfl, b, 0, rfl, rfl, _, rfl, ite2 (fun c => ?_) (fun c => ?_)⟩
  · have hb : (0 : Int) < (b : Nat) := of_decide_eq_true c
    refine ⟨fun σ' H2 => H2 = H' ∧ σ' = [some (.int p), some (.int q), some (.int b), some (.int ((a % b : Nat) : Int))], ?_, ?_⟩
    · rintro σ' H2 ⟨rfl, rfl⟩
      exact ⟨a % b, Nat.mod_lt _ (by omega), rfl, b, a % b, rfl, by rw [← hg, Nat.gcd_comm a b, Nat.gcd_rec b a, Nat.gcd_comm], rfl⟩
    · exact ⟨_, rfl, _, rfl, .inl ⟨_, rfl, _, rfl, a, b, rfl, rfl, hb, _, _, rfl, rfl, rfl⟩⟩
  · have hb : ¬ (0 : Int) < (b : Nat) := of_decide_eq_false (Bool.eq_false_iff.mpr c)
    obtain rfl : b = 0 := by omega
    rw [Nat.gcd_zero_right] at hg
    subst hg
    have fin : ∀ g : Int, g = gS p q → (∀ t, H' t = none → Q (.ref t) (upd H' t (.tup [.int (p.fdiv g), .int (q.fdiv g)]))) ∧ g ≠ 0 ∧ g.natAbs.log2 < 9000 := by
      rintro g rfl
      exact ⟨qq, gS_ne hq, Nat.lt_of_le_of_lt (log_le (gS_le hq)) hl⟩
    refine ⟨_, rfl, q, 0, rfl, rfl, _, rfl, ite2 (fun c => ?_) (fun c => ?_)⟩
    · obtain ⟨q1, n0, l9⟩ := fin (-((Nat.gcd p.natAbs q.natAbs : Nat) : Int)) (by unfold gS; rw [if_pos (of_decide_eq_true c)])
      exact ⟨_, rfl, _, rfl, _, rfl, _, rfl, p, _, rfl, rfl, ⟨n0, l9⟩, _, rfl, _, rfl, q, _, rfl, rfl, ⟨n0, l9⟩, (by show 2 ≤ sizeLine; decide), q1⟩
    · obtain ⟨q1, n0, l9⟩ := fin ((Nat.gcd p.natAbs q.natAbs : Nat) : Int) (by unfold gS; rw [if_neg (of_decide_eq_false (Bool.eq_false_iff.mpr c))])
      exact ⟨_, rfl, _, rfl, p, _, rfl, rfl, ⟨n0, l9⟩, _, rfl, _, rfl, q, _, rfl, rfl, ⟨n0, l9⟩, (by show 2 ≤ sizeLine; decide), q1⟩
end
end Kx
end
section
set_option maxHeartbeats 4000000
namespace Kx
open PySem PySem.Spec PyProof.Rows L2
theorem low_rat {p q : Int} (h : q ≠ 0) : lowU p q = (Rat.divInt p q).num ∧ lowL p q = ((Rat.divInt p q).den : Int) := by
  have g0 : 0 < Nat.gcd p.natAbs q.natAbs := Nat.gcd_pos_of_pos_right _ (Nat.pos_of_ne_zero fun e => h (Int.natAbs_eq_zero.mp e))
  obtain ⟨a, ha⟩ : ((Nat.gcd p.natAbs q.natAbs : Nat) : Int) ∣ p := Int.ofNat_dvd_left.mpr (Nat.gcd_dvd_left _ _)
  obtain ⟨b, hb⟩ : ((Nat.gcd p.natAbs q.natAbs : Nat) : Int) ∣ q := Int.ofNat_dvd_left.mpr (Nat.gcd_dvd_right _ _)
  have gi : (0 : Int) < ((Nat.gcd p.natAbs q.natAbs : Nat) : Int) := by omega
  have gc : Int.gcd q p = Nat.gcd p.natAbs q.natAbs := Nat.gcd_comm _ _
  have key : gS p q = q.sign * ((Nat.gcd p.natAbs q.natAbs : Nat) : Int) ∧ (q.sign = 1 ∨ q.sign = -1) ∧ (q.natAbs : Int) = q.sign * q := by
    unfold gS
    by_cases c : q < 0
    · rw [if_pos c, Int.sign_eq_neg_one_of_neg c]
      omega
    · have c2 : 0 < q := by omega
      rw [if_neg c, Int.sign_eq_one_of_pos c2]
      omega
  obtain ⟨hg, hs, hab⟩ := key
  rw [Rat.num_divInt, Rat.den_divInt, if_neg h, gc]
  unfold lowU lowL
  rw [hg]
  generalize q.sign = s at hs hab ⊢
  generalize ((Nat.gcd p.natAbs q.natAbs : Nat)) = g at *
  have ne : s * (g : Int) ≠ 0 := by rcases hs with rfl | rfl <;> omega
  have dv : ∀ x y : Int, x = (g : Int) * y → x.fdiv (s * g) = s * y := fun x y e => by
    have z : (g : Int) * y = s * (g : Int) * (s * y) := by
      rcases hs with rfl | rfl
      · simp
      · rw [Int.neg_one_mul, Int.neg_one_mul, Int.neg_mul_neg]
    rw [e, z]
    exact Int.mul_fdiv_cancel_left _ ne
  rw [dv p a ha, dv q b hb]
  constructor
  · have e : s * p = (g : Int) * (s * a) := by rw [ha, Int.mul_left_comm]
    rw [e, Int.mul_ediv_cancel_left _ (by omega)]
  · rw [Int.natCast_ediv, hab]
    have e : s * q = (g : Int) * (s * b) := by rw [hb, Int.mul_left_comm]
    rw [e, Int.mul_ediv_cancel_left _ (by omega)]
/-- above and below less than 2 ^ n -/
def Bq (n : Nat) (q : Rat) : Prop := q.num.natAbs < 2 ^ n ∧ q.den < 2 ^ n
theorem Bq.mono {n m : Nat} {q : Rat} (h : Bq n q) (k : n ≤ m) : Bq m q := ⟨Nat.lt_of_lt_of_le h.1 (Nat.pow_le_pow_right (by decide) k), Nat.lt_of_lt_of_le h.2 (Nat.pow_le_pow_right (by decide) k)⟩
theorem div_bd {p q : Int} {n m : Nat} (h : q ≠ 0) (hp : p.natAbs < 2 ^ n) (hq : q.natAbs < 2 ^ m) : (Rat.divInt p q).num.natAbs < 2 ^ n ∧ (Rat.divInt p q).den < 2 ^ m := by
  have g0 : 0 < Int.gcd q p := Int.gcd_pos_of_ne_zero_left _ h
  constructor
  · rw [Rat.num_divInt]
    refine Nat.lt_of_le_of_lt ?_ hp
    have e : (q.sign * p).natAbs = p.natAbs := by
      rw [Int.natAbs_mul, Int.natAbs_sign_of_ne_zero h, Nat.one_mul]
    rw [← e]
    refine Nat.le_trans (Int.natAbs_ediv_le_natAbs _ _) (Nat.le_refl _)
  · rw [Rat.den_divInt, if_neg h]
    exact Nat.lt_of_le_of_lt (Nat.div_le_self _ _) hq
theorem rat_add (a b : Rat) : a + b = Rat.divInt (a.num * b.den + b.num * a.den) (a.den * b.den) := by
  have h1 : (a.den : Int) ≠ 0 := by have := a.den_nz; omega
  have h2 : (b.den : Int) ≠ 0 := by have := b.den_nz; omega
  rw [← Rat.divInt_add_divInt _ _ h1 h2, Rat.num_divInt_den, Rat.num_divInt_den]
theorem rat_mul (a b : Rat) : a * b = Rat.divInt (a.num * b.num) (a.den * b.den) := by
  rw [← Rat.divInt_mul_divInt, Rat.num_divInt_den, Rat.num_divInt_den]
theorem rat_sub (a b : Rat) : a - b = Rat.divInt (a.num * b.den - b.num * a.den) (a.den * b.den) := by
  rw [Rat.sub_eq_add_neg, rat_add, Rat.neg_num, Rat.neg_den, Int.neg_mul, Int.sub_eq_add_neg]
theorem den_ne (a : Rat) : (a.den : Int) ≠ 0 := by have := a.den_nz; omega
theorem lt_add {x y : Int} {n : Nat} (hx : x.natAbs < 2 ^ n) (hy : y.natAbs < 2 ^ n) : (x + y).natAbs < 2 ^ (n + 1) := by
  have := Int.natAbs_add_le x y
  rw [Nat.pow_succ]
  omega
theorem lt_mul {i j : Int} {a b : Nat} (ha : i.natAbs < 2 ^ a) (hb : j.natAbs < 2 ^ b) : (i * j).natAbs < 2 ^ (a + b) := by
  rw [Int.natAbs_mul, Nat.pow_add]
  exact Nat.mul_lt_mul'' ha hb
theorem Bq.dn {n : Nat} {q : Rat} (h : Bq n q) : ((q.den : Int)).natAbs < 2 ^ n := by rw [Int.natAbs_natCast]; exact h.2
theorem Bq.add {n m : Nat} {a b : Rat} (ha : Bq n a) (hb : Bq m b) : Bq (n + m + 1) (a + b) := by
  rw [rat_add]
  have h := div_bd (Int.mul_ne_zero (den_ne a) (den_ne b)) (lt_add (lt_mul ha.1 hb.dn) (by rw [Nat.add_comm]; exact lt_mul hb.1 ha.dn)) (lt_mul ha.dn hb.dn)
  exact ⟨h.1, Nat.lt_of_lt_of_le h.2 (Nat.pow_le_pow_right (by decide) (by omega))⟩
theorem Bq.mul {n m : Nat} {a b : Rat} (ha : Bq n a) (hb : Bq m b) : Bq (n + m) (a * b) := by
  rw [rat_mul]
  exact div_bd (Int.mul_ne_zero (den_ne a) (den_ne b)) (lt_mul ha.1 hb.1) (lt_mul ha.dn hb.dn)
theorem Bq.neg {n : Nat} {a : Rat} (ha : Bq n a) : Bq n (-a) := ⟨by rw [Rat.neg_num, Int.natAbs_neg]; exact ha.1, by rw [Rat.neg_den]; exact ha.2⟩
theorem Bq.sub {n m : Nat} {a b : Rat} (ha : Bq n a) (hb : Bq m b) : Bq (n + m + 1) (a - b) := by
  rw [Rat.sub_eq_add_neg]
  exact ha.add hb.neg
theorem Bq.zero : Bq 1 0 := ⟨by decide, by decide⟩
/-- the sum of the first n products that make the number at the place k -/
def cvT (us ws : List Rat) (k : Nat) : Nat → Rat
  | 0 => 0
  | j + 1 => cvT us ws k j + us.getD j 0 * ws.getD (k - j) 0
def cnv (us ws : List Rat) (k : Nat) : Rat := cvT us ws k (k + 1)
def mulL (us ws : List Rat) : List Rat := (List.range us.length).map (cnv us ws)
def lcmL (l : Nat) : List Rat → Nat
  | [] => l
  | q :: qs => lcmL (Nat.lcm l q.den) qs
theorem lcmL_app (l : Nat) : ∀ (qs rs : List Rat), lcmL l (qs ++ rs) = lcmL (lcmL l qs) rs
  | [], _ => rfl
  | q :: qs, rs => lcmL_app (Nat.lcm l q.den) qs rs
theorem lcmL_dvd : ∀ (qs : List Rat) (l : Nat), l ∣ lcmL l qs ∧ ∀ q ∈ qs, q.den ∣ lcmL l qs
  | [], l => ⟨Nat.dvd_refl _, fun _ h => nomatch h⟩
  | q :: qs, l => by
    have h := lcmL_dvd qs (Nat.lcm l q.den)
    refine ⟨Nat.dvd_trans (Nat.dvd_lcm_left _ _) h.1, fun r hr => ?_⟩
    rcases List.mem_cons.mp hr with rfl | hr
    · exact Nat.dvd_trans (Nat.dvd_lcm_right _ _) h.1
    · exact h.2 r hr
theorem lcmL_pos : ∀ (qs : List Rat) (l : Nat), 0 < l → 0 < lcmL l qs
  | [], _, h => h
  | q :: qs, l, h => lcmL_pos qs _ (Nat.lcm_pos h (Nat.pos_of_ne_zero q.den_nz))
theorem lcmL_bd {n : Nat} : ∀ (qs : List Rat) (l m : Nat), 0 < l → l < 2 ^ m → (∀ q ∈ qs, Bq n q) → lcmL l qs < 2 ^ (m + n * qs.length)
  | [], _, _, _, h, _ => h
  | q :: qs, l, m, h0, h, hb => by
    have hq := (hb q List.mem_cons_self).2
    have e := lcmL_bd qs (Nat.lcm l q.den) (m + n) (Nat.lcm_pos h0 (Nat.pos_of_ne_zero q.den_nz)) (by
      refine Nat.lt_of_le_of_lt (Nat.le_of_dvd (Nat.mul_pos h0 (Nat.pos_of_ne_zero q.den_nz)) (Nat.lcm_dvd_mul _ _)) ?_
      rw [Nat.pow_add]
      exact Nat.mul_lt_mul'' h hq) (fun r hr => hb r (List.mem_cons_of_mem _ hr))
    rw [List.length_cons, Nat.mul_succ]
    rw [show m + (n * qs.length + n) = m + n + n * qs.length by omega]
    exact e
/-- written with one lower part -/
def upL (L : Nat) (qs : List Rat) : List Int := qs.map fun q => q.num * ((L : Int) / (q.den : Int))
theorem up_val {L : Nat} {q : Rat} (h : q.den ∣ L) : ((q.num * ((L : Int) / (q.den : Int)) : Int) : Rat) = q * (L : Rat) := by
  obtain ⟨k, rfl⟩ := h
  have hd : (q.den : Int) ≠ 0 := den_ne q
  have e : (((q.den * k : Nat) : Int) / (q.den : Int)) = (k : Int) := by
    rw [Int.natCast_mul, Int.mul_ediv_cancel_left _ hd]
  have z : q.num = q * q.den := by
    have := Rat.num_divInt_den q
    have h2 : Rat.divInt q.num q.den = (q.num : Rat) / (q.den : Rat) := by rw [Rat.divInt_eq_div]; rfl
    rw [this] at h2
    have h3 : (q.den : Rat) ≠ 0 := by
      intro h0
      have := q.den_nz
      exact this (by exact_mod_cast h0)
    grind
  rw [e, Rat.intCast_mul, z]
  have : (((q.den * k : Nat)) : Rat) = (q.den : Rat) * (k : Rat) := by exact_mod_cast rfl
  rw [this]
  have : ((k : Int) : Rat) = (k : Rat) := rfl
  rw [this]
  grind
theorem getD_up {L : Nat} {qs : List Rat} (h : ∀ q ∈ qs, q.den ∣ L) (j : Nat) : (((upL L qs).getD j 0 : Int) : Rat) = qs.getD j 0 * (L : Rat) := by
  unfold upL
  rw [List.getD_eq_getElem?_getD, List.getElem?_map, List.getD_eq_getElem?_getD]
  cases e : qs[j]? with
  | none => simp
  | some q => exact up_val (h q (List.mem_of_getElem? e))
/-- the products at a place, by whole numbers -/
def pds (xs ys : List Int) (k n : Nat) : List Int := (List.range n).map fun j => xs.getD j 0 * ys.getD (k - j) 0
theorem pds_succ (xs ys : List Int) (k n : Nat) : pds xs ys k (n + 1) = pds xs ys k n ++ [xs.getD n 0 * ys.getD (k - n) 0] := by
  unfold pds
  rw [List.range_succ, List.map_append]
  rfl
theorem pds_val {us ws : List Rat} {L M : Nat} (h : ∀ q ∈ us, q.den ∣ L) (h' : ∀ q ∈ ws, q.den ∣ M) (k : Nat) : ∀ n, (((pds (upL L us) (upL M ws) k n).sum : Int) : Rat) = cvT us ws k n * ((L : Rat) * (M : Rat))
  | 0 => by
    show ((0 : Int) : Rat) = 0 * _
    rw [Rat.zero_mul]
    rfl
  | n + 1 => by
    rw [pds_succ, List.sum_append, Rat.intCast_add, pds_val h h' k n]
    have e : ([(upL L us).getD n 0 * (upL M ws).getD (k - n) 0] : List Int).sum = (upL L us).getD n 0 * (upL M ws).getD (k - n) 0 := by simp
    rw [e, Rat.intCast_mul, getD_up h, getD_up h']
    show _ = (cvT us ws k n + us.getD n 0 * ws.getD (k - n) 0) * _
    grind
theorem cnv_ratio {us ws : List Rat} {L M : Nat} (h : ∀ q ∈ us, q.den ∣ L) (h' : ∀ q ∈ ws, q.den ∣ M) (l0 : 0 < L) (m0 : 0 < M) (k : Nat) :
    Rat.divInt (pds (upL L us) (upL M ws) k (k + 1)).sum ((L : Int) * (M : Int)) = cnv us ws k := by
  rw [Rat.divInt_eq_div, pds_val h h']
  have e : (((L : Int) * (M : Int) : Int) : Rat) = (L : Rat) * (M : Rat) := by rw [Rat.intCast_mul]; rfl
  have lz : (L : Rat) ≠ 0 := by
    intro z
    have : L = 0 := by exact_mod_cast z
    omega
  have mz : (M : Rat) ≠ 0 := by
    intro z
    have : M = 0 := by exact_mod_cast z
    omega
  rw [e]
  unfold cnv
  have : (L : Rat) * (M : Rat) ≠ 0 := by
    intro z
    rcases Rat.mul_eq_zero.mp z with z | z
    · exact lz z
    · exact mz z
  grind
theorem getD_bq {n : Nat} {us : List Rat} (h : ∀ q ∈ us, Bq n q) (n0 : 1 ≤ n) (j : Nat) : Bq n (us.getD j 0) := by
  rw [List.getD_eq_getElem?_getD]
  cases e : us[j]? with
  | none => exact Bq.zero.mono n0
  | some q => exact h q (List.mem_of_getElem? e)
theorem cvT_bd {n m : Nat} {us ws : List Rat} (h : ∀ q ∈ us, Bq n q) (h' : ∀ q ∈ ws, Bq m q) (n0 : 1 ≤ n) (m0 : 1 ≤ m) (k : Nat) : ∀ j, Bq (1 + j * (n + m + 1)) (cvT us ws k j)
  | 0 => by rw [Nat.zero_mul]; exact Bq.zero
  | j + 1 => by
    have := (cvT_bd h h' n0 m0 k j).add ((getD_bq h n0 j).mul (getD_bq h' m0 (k - j)))
    exact this.mono (by rw [Nat.succ_mul]; omega)
/-- the least place, from f on, with a number that is not 0 -/
def hgtN : List Rat → Nat → Option Nat
  | [], _ => none
  | q :: qs, f => if q = 0 then hgtN qs (f + 1) else some f
theorem hgtN_app_zero : ∀ (qs : List Rat) (f : Nat) (rs : List Rat), (∀ q ∈ qs, q = 0) → hgtN (qs ++ rs) f = hgtN rs (f + qs.length)
  | [], f, rs, _ => rfl
  | q :: qs, f, rs, h => by
    show (if q = 0 then hgtN (qs ++ rs) (f + 1) else some f) = _
    rw [if_pos (h q List.mem_cons_self), hgtN_app_zero qs (f + 1) rs (fun r hr => h r (List.mem_cons_of_mem _ hr)), List.length_cons]
    congr 1
    omega
theorem hgtN_shift : ∀ (qs : List Rat) (f : Nat), hgtN qs f = (hgtN qs 0).map (· + f)
  | [], _ => rfl
  | q :: qs, f => by
    show (if q = 0 then hgtN qs (f + 1) else some f) = (if q = 0 then hgtN qs 1 else some 0).map (· + f)
    by_cases h : q = 0
    · rw [if_pos h, if_pos h, hgtN_shift qs (f + 1), hgtN_shift qs 1, Option.map_map]
      congr 1
      funext x
      show x + (f + 1) = x + 1 + f
      omega
    · rw [if_neg h, if_neg h]
      simp
end Kx
end
section
set_option maxHeartbeats 4000000
namespace Kx
/-! ### numbers of a weight over a base: with D ^ e below, and a bound for what then stands above -/
structure Bs where
  D : Nat
  m : Nat
  D0 : 0 < D
  Dm : 64 * D ≤ 2 ^ m
def b6 : Bs := ⟨6, 30, by decide, by decide⟩
def Zw (b : Bs) (e n c : Nat) (q : Rat) : Prop := ∃ z : Int, q * ((b.D ^ e : Nat) : Rat) = (z : Rat) ∧ c * z.natAbs ≤ n * 2 ^ (b.m * e)
def Zq (b : Bs) (e : Nat) (q : Rat) : Prop := Zw b e 1 32 q
def AllZ (b : Bs) (e : Nat) (qs : List Rat) : Prop := ∀ q ∈ qs, Zq b e q
section
variable {b : Bs}
theorem pD_pos (b : Bs) (e : Nat) : 0 < b.D ^ e := Nat.pow_pos b.D0
theorem pD_ne (b : Bs) (e : Nat) : ((b.D ^ e : Nat) : Rat) ≠ 0 := by
  intro h
  have : (b.D ^ e : Nat) = 0 := by exact_mod_cast h
  exact absurd this (Nat.ne_of_gt (pD_pos b e))
theorem D_le (b : Bs) : b.D ≤ 2 ^ b.m := by
  have := b.Dm
  omega
theorem pD_le (b : Bs) (e : Nat) : b.D ^ e ≤ 2 ^ (b.m * e) := by
  rw [Nat.pow_mul]
  exact Nat.pow_le_pow_left (D_le b) _
theorem Zw.zero {e n c : Nat} : Zw b e n c 0 := ⟨0, by rw [Rat.zero_mul]; rfl, by simp⟩
theorem Zw.add {e n m c : Nat} {x y : Rat} (ha : Zw b e n c x) (hb : Zw b e m c y) : Zw b e (n + m) c (x + y) := by
  obtain ⟨x, hx, lx⟩ := ha
  obtain ⟨y, hy, ly⟩ := hb
  refine ⟨x + y, by rw [Rat.add_mul, hx, hy, Rat.intCast_add], ?_⟩
  have h := Nat.mul_le_mul_left c (Int.natAbs_add_le x y)
  rw [Nat.mul_add] at h
  rw [Nat.add_mul]
  omega
theorem Zw.neg {e n c : Nat} {x : Rat} (ha : Zw b e n c x) : Zw b e n c (-x) := by
  obtain ⟨x, hx, lx⟩ := ha
  exact ⟨-x, by rw [Rat.neg_mul, hx, Rat.intCast_neg], by rw [Int.natAbs_neg]; exact lx⟩
theorem Zw.mul {e f c d : Nat} {x y : Rat} (ha : Zw b e 1 c x) (hb : Zw b f 1 d y) : Zw b (e + f) 1 (c * d) (x * y) := by
  obtain ⟨x, hx, lx⟩ := ha
  obtain ⟨y, hy, ly⟩ := hb
  refine ⟨x * y, ?_, ?_⟩
  · rw [Rat.intCast_mul, ← hx, ← hy, Nat.pow_add, Rat.natCast_mul]
    grind
  · have h := Nat.mul_le_mul lx ly
    rw [Int.natAbs_mul, Nat.mul_add b.m e f, Nat.pow_add]
    calc c * d * (x.natAbs * y.natAbs) = c * x.natAbs * (d * y.natAbs) := by rw [Nat.mul_mul_mul_comm]
      _ ≤ 1 * 2 ^ (b.m * e) * (1 * 2 ^ (b.m * f)) := h
      _ = _ := by rw [Nat.one_mul, Nat.one_mul, Nat.one_mul]
theorem Zw.mono_n {e n m c : Nat} {a : Rat} (h : Zw b e n c a) (l : n ≤ m) : Zw b e m c a := by
  obtain ⟨x, hx, lx⟩ := h
  exact ⟨x, hx, Nat.le_trans lx (Nat.mul_le_mul_right _ l)⟩
theorem Zw.red {e n : Nat} {a : Rat} (h : Zw b e n 1024 a) (l : n ≤ 32) : Zq b e a := by
  obtain ⟨x, hx, lx⟩ := h
  refine ⟨x, hx, ?_⟩
  have := Nat.mul_le_mul_right (2 ^ (b.m * e)) l
  omega
/-- the weight goes up by one: times D above and below -/
theorem Zw.upD {e n c n' c' : Nat} {a : Rat} (h : Zw b e n c a) (l : ∀ x : Nat, c * x ≤ n * 2 ^ (b.m * e) → c' * (b.D * x) ≤ n' * 2 ^ (b.m * (e + 1))) : Zw b (e + 1) n' c' a := by
  obtain ⟨x, hx, lx⟩ := h
  refine ⟨(b.D : Int) * x, ?_, ?_⟩
  · rw [Rat.intCast_mul, ← hx, Nat.pow_succ, Rat.natCast_mul]
    have : (((b.D : Nat) : Int) : Rat) = ((b.D : Nat) : Rat) := rfl
    rw [this]
    grind
  · rw [Int.natAbs_mul, Int.natAbs_natCast]
    exact l _ lx
theorem Zq.succ {e : Nat} {a : Rat} (h : Zq b e a) : Zq b (e + 1) a := h.upD fun x lx => by
  have h1 := b.Dm
  have h2 := Nat.mul_le_mul (show b.D ≤ 2 ^ b.m by omega) lx
  rw [Nat.mul_add, Nat.mul_one, Nat.pow_add, Nat.one_mul, Nat.mul_comm (2 ^ (b.m * e))]
  rw [Nat.one_mul] at h2
  calc 32 * (b.D * x) = b.D * (32 * x) := by rw [Nat.mul_left_comm]
    _ ≤ _ := h2
theorem Zq.mono {e f : Nat} {a : Rat} (h : Zq b e a) (l : e ≤ f) : Zq b f a := by
  induction l with
  | refl => exact h
  | step _ ih => exact ih.succ
theorem Zq.zero {e : Nat} : Zq b e 0 := Zw.zero
theorem Zq.neg {e : Nat} {x : Rat} (h : Zq b e x) : Zq b e (-x) := Zw.neg h
theorem Zq.add {e : Nat} {x y : Rat} (ha : Zq b e x) (hb : Zq b e y) : Zq b (e + 1) (x + y) := (Zw.add ha hb).upD fun x lx => by
  have h1 := b.Dm
  have h2 := Nat.mul_le_mul (show 2 * b.D ≤ 2 ^ b.m by omega) lx
  rw [Nat.mul_add, Nat.mul_one, Nat.pow_add, Nat.one_mul, Nat.mul_comm (2 ^ (b.m * e))]
  have e1 : 2 * b.D * (32 * x) = 2 * (32 * (b.D * x)) := by rw [Nat.mul_assoc, Nat.mul_left_comm b.D]
  have e2 : 2 ^ b.m * ((1 + 1) * 2 ^ (b.m * e)) = 2 * (2 ^ b.m * 2 ^ (b.m * e)) := by rw [Nat.mul_left_comm]
  rw [e1, e2] at h2
  omega
theorem Zq.mul {e f : Nat} {x y : Rat} (ha : Zq b e x) (hb : Zq b f y) : Zw b (e + f) 1 1024 (x * y) := Zw.mul ha hb
theorem Zq.mulq {e f : Nat} {x y : Rat} (ha : Zq b e x) (hb : Zq b f y) : Zq b (e + f) (x * y) := (ha.mul hb).red (by decide)
theorem Zq.of {q : Rat} (d : q.den ∣ b.D) (h : 32 * (q.num.natAbs * b.D) ≤ 2 ^ b.m) : Zq b 1 q := by
  refine ⟨q.num * ((b.D : Int) / (q.den : Int)), ?_, ?_⟩
  · rw [Nat.pow_one]
    exact (up_val d).symm
  · have e : ((b.D : Int) / (q.den : Int)) = ((b.D / q.den : Nat) : Int) := rfl
    rw [e, Int.natAbs_mul, Int.natAbs_natCast, Nat.mul_one, Nat.one_mul]
    have := Nat.mul_le_mul_left q.num.natAbs (Nat.div_le_self b.D q.den)
    omega
theorem Zq.num {q : Rat} (h : Bq 21 q) (d : q.den ∣ 6) : Zq b6 1 q := by
  refine Zq.of (b := b6) d ?_
  have h1 := h.1
  show 32 * (q.num.natAbs * 6) ≤ 2 ^ 30
  omega
theorem Zq.one1 : Zq b 1 1 := Zq.of (Nat.one_dvd _) (by
  have := b.Dm
  show 32 * (1 * b.D) ≤ _
  omega)
theorem Zq.one {e : Nat} (h : 0 < e) : Zq b e 1 := Zq.one1.mono h
theorem Zw.dvd {e n c : Nat} {q : Rat} (h : Zw b e n c q) : q.den ∣ b.D ^ e := by
  obtain ⟨z, hz, _⟩ := h
  have p := pD_ne b e
  have i : ((b.D ^ e : Nat) : Int) ≠ 0 := by
    have := pD_pos b e
    omega
  have eq : q = Rat.divInt z ((b.D ^ e : Nat) : Int) := by
    rw [Rat.divInt_eq_div, ← hz]
    show q = q * ((b.D ^ e : Nat) : Rat) / (((b.D ^ e : Nat) : Int) : Rat)
    have : (((b.D ^ e : Nat) : Int) : Rat) = ((b.D ^ e : Nat) : Rat) := rfl
    rw [this]
    grind
  rw [eq, Rat.den_divInt, if_neg i, Int.natAbs_natCast]
  exact Nat.div_dvd_of_dvd (Nat.gcd_dvd_left _ _)
theorem Zw.up {e n c L : Nat} {q : Rat} (h : Zw b e n c q) (c0 : 0 < c) (l : L ∣ b.D ^ e) {u : Int} (hu : (u : Rat) = q * (L : Rat)) : u.natAbs ≤ n * 2 ^ (b.m * e) := by
  obtain ⟨z, hz, lz⟩ := h
  obtain ⟨k, hk⟩ := l
  have k0 : k ≠ 0 := by
    rintro rfl
    have := pD_pos b e
    omega
  have eq : z = u * (k : Int) := by
    have : ((u * (k : Int) : Int) : Rat) = (z : Rat) := by
      rw [Rat.intCast_mul, hu, ← hz, hk, Rat.natCast_mul]
      have : ((k : Int) : Rat) = (k : Rat) := rfl
      rw [this]
      grind
    exact (by exact_mod_cast this.symm)
  rw [eq, Int.natAbs_mul, Int.natAbs_natCast] at lz
  have h1 : u.natAbs ≤ u.natAbs * k := Nat.le_mul_of_pos_right _ (by omega)
  have h2 : u.natAbs * k ≤ c * (u.natAbs * k) := Nat.le_mul_of_pos_left _ c0
  omega
theorem Zq.bq {e : Nat} {q : Rat} (h : Zq b e q) : Bq (b.m * e + 1) q := by
  constructor
  · have := h.up (L := q.den) (by decide) h.dvd (u := q.num) (by
      have := up_val (q := q) (L := q.den) (Nat.dvd_refl _)
      rw [Int.ediv_self (den_ne q), Int.mul_one] at this
      exact this)
    rw [Nat.pow_succ]
    have := Nat.pow_pos (n := b.m * e) (show 0 < 2 by decide)
    omega
  · refine Nat.lt_of_le_of_lt (Nat.le_of_dvd (pD_pos b e) h.dvd) ?_
    refine Nat.lt_of_le_of_lt (pD_le b e) ?_
    exact Nat.pow_lt_pow_right (by decide) (by omega)
theorem Zq.bqn {e n : Nat} {q : Rat} (h : Zq b e q) (l : b.m * e < n) : Bq n q := h.bq.mono l
theorem AllZ.bqn {e n : Nat} {qs : List Rat} (h : AllZ b e qs) (l : b.m * e < n) : ∀ q ∈ qs, Bq n q := fun q hq => (h q hq).bqn l
theorem AllZ.mono {e f : Nat} {qs : List Rat} (h : AllZ b e qs) (l : e ≤ f) : AllZ b f qs := fun q hq => (h q hq).mono l
theorem AllZ.getD {e : Nat} {qs : List Rat} (h : AllZ b e qs) (j : Nat) : Zq b e (qs.getD j 0) := by
  rw [List.getD_eq_getElem?_getD]
  cases x : qs[j]? with
  | none => exact Zq.zero
  | some q => exact h q (List.mem_of_getElem? x)
theorem AllZ.lcm {e : Nat} : ∀ (qs : List Rat) (l : Nat), AllZ b e qs → l ∣ b.D ^ e → lcmL l qs ∣ b.D ^ e
  | [], _, _, h => h
  | q :: qs, l, h, d => AllZ.lcm qs (Nat.lcm l q.den) (fun r hr => h r (List.mem_cons_of_mem _ hr)) (Nat.lcm_dvd d (h q List.mem_cons_self).dvd)
theorem cvT_z {e f : Nat} {us ws : List Rat} (h : AllZ b e us) (h' : AllZ b f ws) (k : Nat) : ∀ j, Zw b (e + f) j 1024 (cvT us ws k j)
  | 0 => Zw.zero
  | j + 1 => (cvT_z h h' k j).add ((h.getD j).mul (h'.getD (k - j)))
theorem mulL_z {e f : Nat} {us ws : List Rat} (h : AllZ b e us) (h' : AllZ b f ws) (l : us.length ≤ 32) : AllZ b (e + f) (mulL us ws) := by
  intro q hq
  obtain ⟨k, hk, rfl⟩ := List.mem_map.mp hq
  rw [List.mem_range] at hk
  exact (cvT_z h h' k (k + 1)).red (by omega)
/-! ### another base -/
theorem Zq.base {b' : Bs} {k e : Nat} {q : Rat} (h : Zq b e q) (hD : b'.D = b.D * k) (hm : 2 ^ b.m * k ≤ 2 ^ b'.m) : Zq b' e q := by
  obtain ⟨z, hz, lz⟩ := h
  refine ⟨z * ((k ^ e : Nat) : Int), ?_, ?_⟩
  · rw [Rat.intCast_mul, ← hz, hD, Nat.mul_pow, Rat.natCast_mul]
    have : (((k ^ e : Nat) : Int) : Rat) = ((k ^ e : Nat) : Rat) := rfl
    rw [this]
    grind
  · rw [Int.natAbs_mul, Int.natAbs_natCast, Nat.one_mul]
    have h1 := Nat.mul_le_mul_right (k ^ e) lz
    have h2 := Nat.pow_le_pow_left hm e
    rw [Nat.mul_pow, ← Nat.pow_mul, ← Nat.pow_mul] at h2
    rw [Nat.one_mul, Nat.mul_assoc] at h1
    exact Nat.le_trans h1 h2
end
end Kx
end
section
set_option maxHeartbeats 4000000
namespace Kx
open PySem PySem.Spec PyProof.Rows L2
/-! ### numbers -/
structure KP (K : PySem.W.Frag) (a : Addr) (x y : Int) : Prop where
  ex : ∃ (o : Obj) (its : Array Value) (n : Nat), K.lookup a = some o ∧ o.cls = .type "tuple" ∧ o.data = .seq its n ∧ its.size ≤ sizeLine ∧ Vals [.int x, .int y] its.toList
theorem KP.t {K : PySem.W.Frag} {a : Addr} {x y : Int} (k : KP K a x y) (H : Hp) : SqT K H a [.int x, .int y] := .inr k.ex
theorem KP.ty {K : PySem.W.Frag} {a : Addr} {x y : Int} (k : KP K a x y) (H : Hp) : TyX K H (.ref a) (.type "tuple") := by
  obtain ⟨o, its, n, h1, h2, _⟩ := k.ex
  exact .kTuple h1 h2
def rT (r : Rat) : HO := .tup [.int r.num, .int (r.den : Nat)]
/-- the fraction q stands at v, in the heap or in the module -/
def Nq (K : PySem.W.Frag) (H : Hp) (v : V) (q : Rat) : Prop := ∃ a, v = .ref a ∧ (H a = some (rT q) ∨ KP K a q.num (q.den : Nat))
section
variable {K : PySem.W.Frag} {H H' : Hp} {v : V} {q : Rat}
theorem Nq.same (h : Nq K H v q) (s : Same H H') : Nq K H' v q := by
  obtain ⟨a, e, h⟩ := h
  exact ⟨a, e, h.imp (fun h => s _ _ h) id⟩
theorem Nq.sq (h : Nq K H v q) : ∃ a, v = .ref a ∧ SqT K H a [.int q.num, .int (q.den : Nat)] ∧ TyX K H (.ref a) (.type "tuple") := by
  obtain ⟨a, e, h⟩ := h
  rcases h with h | k
  · exact ⟨a, e, SqT.of h, .base (.tup h)⟩
  · exact ⟨a, e, k.t H, k.ty H⟩
theorem Nq.at {t : Addr} (h : H t = some (rT q)) : Nq K H (.ref t) q := ⟨t, rfl, .inl h⟩
theorem Nq.dp (h : Nq K H v q) : Dp K H v (.tuple [.int q.num, .int (q.den : Nat)]) := by
  obtain ⟨a, rfl, s, _⟩ := h.sq
  exact .tup s (.cons (.int _) (.cons (.int _) .nil))
end
/-- a list of numbers -/
def Nl (K : PySem.W.Frag) (H : Hp) (xs : List V) (qs : List Rat) : Prop := xs.length = qs.length ∧ ∀ (i : Nat) (x : V) (q : Rat), xs[i]? = some x → qs[i]? = some q → Nq K H x q
theorem Nl.same {K : PySem.W.Frag} {H H' : Hp} {xs : List V} {qs : List Rat} (h : Nl K H xs qs) (s : Same H H') : Nl K H' xs qs := ⟨h.1, fun i x q h1 h2 => (h.2 i x q h1 h2).same s⟩
theorem Nl.nil {K : PySem.W.Frag} {H : Hp} : Nl K H [] [] := ⟨rfl, fun i x q h => by simp at h⟩
theorem Nl.snoc {K : PySem.W.Frag} {H : Hp} {xs : List V} {qs : List Rat} {x : V} {q : Rat} (h : Nl K H xs qs) (hx : Nq K H x q) : Nl K H (xs ++ [x]) (qs ++ [q]) := by
  refine ⟨by rw [List.length_append, List.length_append, h.1]; rfl, fun i y r h1 h2 => ?_⟩
  by_cases c : i < xs.length
  · rw [List.getElem?_append_left c] at h1
    rw [List.getElem?_append_left (by rw [← h.1]; exact c)] at h2
    exact h.2 i y r h1 h2
  · rw [List.getElem?_append_right (by omega)] at h1
    rw [List.getElem?_append_right (by rw [← h.1]; omega)] at h2
    rw [h.1] at h1
    match hi : i - qs.length, h1, h2 with
    | 0, h1, h2 =>
      rw [← Option.some.inj (show some x = some y from h1), ← Option.some.inj (show some q = some r from h2)]
      exact hx
    | n + 1, h1, _ => simp at h1
theorem Nl.cons {K : PySem.W.Frag} {H : Hp} {xs : List V} {qs : List Rat} {x : V} {q : Rat} (hx : Nq K H x q) (h : Nl K H xs qs) : Nl K H (x :: xs) (q :: qs) := by
  refine ⟨by rw [List.length_cons, List.length_cons, h.1], fun i y r h1 h2 => ?_⟩
  cases i with
  | zero =>
    rw [← Option.some.inj (show some x = some y from h1), ← Option.some.inj (show some q = some r from h2)]
    exact hx
  | succ i => exact h.2 i y r (by simpa using h1) (by simpa using h2)
theorem Nl.tail {K : PySem.W.Frag} {H : Hp} {xs : List V} {qs : List Rat} {x : V} {q : Rat} (h : Nl K H (x :: xs) (q :: qs)) : Nl K H xs qs :=
  ⟨by have := h.1; simp at this; exact this, fun i y r h1 h2 => h.2 (i + 1) y r (by simpa using h1) (by simpa using h2)⟩
theorem Nl.get {K : PySem.W.Frag} {H : Hp} {xs : List V} {qs : List Rat} (h : Nl K H xs qs) {i : Nat} {x : V} (hx : xs[i]? = some x) : ∃ q, qs[i]? = some q ∧ Nq K H x q := by
  have hi : i < xs.length := by
    rcases Nat.lt_or_ge i xs.length with c | c
    · exact c
    · rw [List.getElem?_eq_none c] at hx; cases hx
  have e := List.getElem?_eq_getElem (l := qs) (i := i) (by rw [← h.1]; exact hi)
  exact ⟨_, e, h.2 i x _ hx e⟩
theorem Nl.get' {K : PySem.W.Frag} {H : Hp} {xs : List V} {qs : List Rat} (h : Nl K H xs qs) {i : Nat} (hi : i < qs.length) : ∃ x, xs[i]? = some x ∧ Nq K H x qs[i] := by
  have e := List.getElem?_eq_getElem (l := xs) (i := i) (by rw [h.1]; exact hi)
  exact ⟨_, e, h.2 i _ _ e (List.getElem?_eq_getElem hi)⟩
theorem Nl.app {K : PySem.W.Frag} {H : Hp} {xs ys : List V} {qs rs : List Rat} (h : Nl K H xs qs) (h' : Nl K H ys rs) : Nl K H (xs ++ ys) (qs ++ rs) := by
  refine ⟨by rw [List.length_append, List.length_append, h.1, h'.1], fun i y r h1 h2 => ?_⟩
  by_cases c : i < xs.length
  · rw [List.getElem?_append_left c] at h1
    rw [List.getElem?_append_left (by rw [← h.1]; exact c)] at h2
    exact h.2 i y r h1 h2
  · rw [List.getElem?_append_right (by omega)] at h1
    rw [List.getElem?_append_right (by rw [← h.1]; omega), ← h.1] at h2
    exact h'.2 _ y r h1 h2
theorem Nl.take {K : PySem.W.Frag} {H : Hp} {xs : List V} {qs : List Rat} (h : Nl K H xs qs) (n : Nat) : Nl K H (xs.take n) (qs.take n) := by
  refine ⟨by rw [List.length_take, List.length_take, h.1], fun i y r h1 h2 => ?_⟩
  rw [List.getElem?_take] at h1 h2
  by_cases c : i < n
  · rw [if_pos c] at h1 h2
    exact h.2 i y r h1 h2
  · rw [if_neg c] at h1
    cases h1
theorem Nl.drop {K : PySem.W.Frag} {H : Hp} {xs : List V} {qs : List Rat} (h : Nl K H xs qs) (n : Nat) : Nl K H (xs.drop n) (qs.drop n) := by
  refine ⟨by rw [List.length_drop, List.length_drop, h.1], fun i y r h1 h2 => ?_⟩
  rw [List.getElem?_drop] at h1 h2
  exact h.2 _ y r h1 h2
/-! ### what comes back -/
def GivesQ (H : Hp) (Q : VK) (r : Rat) : Prop := ∀ t H', Same H H' → H t = none → H' t = some (rT r) → Q (.ref t) H'
theorem GivesQ.upd {H : Hp} {Q : VK} {r : Rat} (g : GivesQ H Q r) {t : Addr} (n : H t = none) : Q (.ref t) (upd H t (rT r)) := g t _ (new_same n _) n upd_same
theorem low_HO {p q : Int} (h : q ≠ 0) : HO.tup [.int (lowU p q), .int (lowL p q)] = rT (Rat.divInt p q) := by
  obtain ⟨h1, h2⟩ := low_rat (p := p) h
  rw [h1, h2]
  rfl
theorem div_one (x : Int) : (Rat.divInt x 1).num = x ∧ (Rat.divInt x 1).den = 1 := by
  have e : Rat.divInt x 1 = (x : Rat) := by
    rw [Rat.divInt_eq_div]
    have : ((1 : Int) : Rat) = 1 := rfl
    rw [this]
    grind
  rw [e]
  exact ⟨rfl, rfl⟩
def spLowQ : Sp := fun vs H Q _ => ∃ p q : Int, vs = [.int p, .int q] ∧ q ≠ 0 ∧ q.natAbs.log2 < 9000 ∧ GivesQ H Q (Rat.divInt p q)
theorem log_bd {x : Int} {n : Nat} (h : x.natAbs < 2 ^ n) (h0 : 0 < n) : x.natAbs.log2 < n := PySem.Flt.log2_lt_of h0 h
def spAddQ (K : PySem.W.Frag) : Sp := fun vs H Q _ => ∃ (x y : V) (a b : Rat), vs = [x, y] ∧ Nq K H x a ∧ Nq K H y b ∧ Bq 4000 a ∧ Bq 4000 b ∧ GivesQ H Q (a + b)
def spMulQ (K : PySem.W.Frag) : Sp := fun vs H Q _ => ∃ (x y : V) (a b : Rat), vs = [x, y] ∧ Nq K H x a ∧ Nq K H y b ∧ Bq 4000 a ∧ Bq 4000 b ∧ GivesQ H Q (a * b)
def spNegQ (K : PySem.W.Frag) : Sp := fun vs H Q _ => ∃ (x : V) (a : Rat), vs = [x] ∧ Nq K H x a ∧ GivesQ H Q (-a)
abbrev nAB : List Str := ["_law_a", "_law_b"]
section
variable {P : Program} {w : World} {K : PySem.W.Frag} {mg : Str → Option Value} {base : Heap} {f fL : Addr} {fd fdL : FuncData}
theorem ok_lowQ (F : Fun K "_law_low" "_law_low" L_low f fd) (ma : mg "abs" = none) (mi : mg "int" = none) : FnOk P w K mg base CX0 1 f fd ["_law_p", "_law_q"] spLowQ :=
  (ok_low F ma mi).imp fun vs H Q E h => by
    obtain ⟨p, q, e, h0, hl, g⟩ := h
    refine ⟨p, q, e, h0, hl, fun t nt => ?_⟩
    rw [low_HO h0]
    exact g.upd nt
theorem scAdd : FnScope nAB ["_law_a", "_law_b"] (defScope L_add) := ⟨rfl, rfl, rfl, by decide +kernel, rfl, by decide +kernel, by decide +kernel⟩
theorem scMul : FnScope nAB ["_law_a", "_law_b"] (defScope L_mul) := ⟨rfl, rfl, rfl, by decide +kernel, rfl, by decide +kernel, by decide +kernel⟩
theorem ok_addQ (F : Fun K "_law_add" "_law_add" L_add f fd) (G : FnOk P w K mg base CX0 1 fL fdL ["_law_p", "_law_q"] spLowQ) (bL : Binds K fdL ["_law_p", "_law_q"] []) (kL : PySem.W.keepIn K (.ref fL) = true) (mL : mg "_law_low" = some (.ref fL)) :
    FnOk P w K mg base CX0 2 f fd ["_law_a", "_law_b"] (spAddQ K) := by
  refine F.ok scAdd (fun vs H Q E h => ?_) (fun cdv A outer s H vs Q E hr h => ?_)
  · obtain ⟨x, y, a, b, rfl, _⟩ := h
    rfl
  obtain ⟨x, y, a, b, rfl, hx, hy, ba, bb, q⟩ := h
  obtain ⟨xa, rfl, sx, _⟩ := hx.sq
  obtain ⟨ya, rfl, sy, _⟩ := hy.sq
  refine ⟨_, pss_cons (ps_if (PW.pt (pw_and (pt_cmpR op_eq (pe_ix ix_tup (pv 0) pe_int (fun _ _ => rfl)) pe_int (nomark _)) (pw_and1 (pt_cmpR op_eq (pe_ix ix_tup (pv 1) pe_int (fun _ _ => rfl)) pe_int (nomark _)))))
      (pss_one (ps_ret (pe_tup (pa_cons (pe_op op_add (pe_ix ix_tup (pv 0) pe_int (fun _ _ => rfl)) (pe_ix ix_tup (pv 1) pe_int (fun _ _ => rfl))) (pa_cons pe_int pa_nil))))) pss_nil)
    (pss_one (ps_ret (pe_call G hr rfl mL kL bL .nil pass0 (pa_cons (pe_op op_add (pe_op op_mulW (pe_ix ix_tup (pv 0) pe_int (fun _ _ => rfl)) (pe_ix ix_tup (pv 1) pe_int (fun _ _ => rfl))) (pe_op op_mulW (pe_ix ix_tup (pv 1) pe_int (fun _ _ => rfl)) (pe_ix ix_tup (pv 0) pe_int (fun _ _ => rfl))))
      (pa_cons (pe_op op_mulW (pe_ix ix_tup (pv 0) pe_int (fun _ _ => rfl)) (pe_ix ix_tup (pv 1) pe_int (fun _ _ => rfl))) pa_nil))))), ?_⟩
  have low : ∃ p q : Int, [V.int (a.num * b.den + b.num * a.den), V.int (a.den * b.den)] = [.int p, .int q] ∧ q ≠ 0 ∧ q.natAbs.log2 < 9000 ∧ GivesQ H Q (Rat.divInt p q) :=
    ⟨_, _, rfl, Int.mul_ne_zero (den_ne a) (den_ne b), Nat.lt_trans (log_bd (lt_mul ba.dn bb.dn) (by decide)) (by decide), by rw [← rat_add]; exact q⟩
  have els : tRet (tCall spLowQ [] E0 (tCons (tOp (rI0 fun i j => .int (i + j)) (tOp (rI CMulW fun i j => .int (i * j)) (tOp (rIxT K) (tVar 0) (tC (.int 0))) (tOp (rIxT K) (tVar 1) (tC (.int 1)))) (tOp (rI CMulW fun i j => .int (i * j)) (tOp (rIxT K) (tVar 1) (tC (.int 0))) (tOp (rIxT K) (tVar 0) (tC (.int 1)))))
      (tCons (tOp (rI CMulW fun i j => .int (i * j)) (tOp (rIxT K) (tVar 0) (tC (.int 1))) (tOp (rIxT K) (tVar 1) (tC (.int 1)))) tNil))) { nx := fun _ H' => Q .non H', rt := Q } (L2.start nAB [.ref xa, .ref ya]) H :=
    ⟨_, rfl, xa, _, 0, _, rfl, rfl, sx, rfl, _, rfl, ya, _, 1, _, rfl, rfl, sy, rfl, a.num, (b.den : Nat), rfl, rfl, wide_mul ba.1 bb.dn (by decide) (by decide) (by decide), _, rfl, ya, _, 0, _, rfl, rfl, sy, rfl, _, rfl, xa, _, 1, _, rfl, rfl, sx, rfl, b.num, (a.den : Nat), rfl, rfl, wide_mul bb.1 ba.dn (by decide) (by decide) (by decide), _, _, rfl, rfl,
      _, rfl, xa, _, 1, _, rfl, rfl, sx, rfl, _, rfl, ya, _, 1, _, rfl, rfl, sy, rfl, (a.den : Nat), (b.den : Nat), rfl, rfl, wide_mul ba.dn bb.dn (by decide) (by decide) (by decide), low⟩
  refine ⟨_, rfl, xa, _, 1, _, rfl, rfl, sx, rfl, rfl, _, rfl, ite2 (fun e1 => ?_) (fun _ => iteF els)⟩
  refine ⟨_, rfl, ya, _, 1, _, rfl, rfl, sy, rfl, rfl, _, rfl, ite2 (fun e2 => ?_) (fun _ => els)⟩
  have d1 : ((a.den : Nat) : Int) = 1 := V.int.inj (of_decide_eq_true e1)
  have d2 : ((b.den : Nat) : Int) = 1 := V.int.inj (of_decide_eq_true e2)
  refine ⟨_, rfl, xa, _, 0, _, rfl, rfl, sx, rfl, _, rfl, ya, _, 0, _, rfl, rfl, sy, rfl, _, _, rfl, rfl, (by show 2 ≤ sizeLine; decide), fun t nt => ?_⟩
  have e : HO.tup [.int (a.num + b.num), .int 1] = rT (a + b) := by
    have z := rat_add a b
    rw [d1, d2, Int.mul_one, Int.mul_one] at z
    have y := div_one (a.num + b.num)
    unfold rT
    rw [z, show (1 : Int) * 1 = 1 from rfl, y.1, y.2]
    rfl
  rw [e]
  exact q.upd nt
theorem ok_mulQ (F : Fun K "_law_mul" "_law_mul" L_mul f fd) (G : FnOk P w K mg base CX0 1 fL fdL ["_law_p", "_law_q"] spLowQ) (bL : Binds K fdL ["_law_p", "_law_q"] []) (kL : PySem.W.keepIn K (.ref fL) = true) (mL : mg "_law_low" = some (.ref fL)) :
    FnOk P w K mg base CX0 2 f fd ["_law_a", "_law_b"] (spMulQ K) := by
  refine F.ok scMul (fun vs H Q E h => ?_) (fun cdv A outer s H vs Q E hr h => ?_)
  · obtain ⟨x, y, a, b, rfl, _⟩ := h
    rfl
  obtain ⟨x, y, a, b, rfl, hx, hy, ba, bb, q⟩ := h
  obtain ⟨xa, rfl, sx, _⟩ := hx.sq
  obtain ⟨ya, rfl, sy, _⟩ := hy.sq
  refine ⟨_, pss_cons (ps_if (PW.pt (pw_and (pt_cmpR op_eq (pe_ix ix_tup (pv 0) pe_int (fun _ _ => rfl)) pe_int (nomark _)) (pw_and1 (pt_cmpR op_eq (pe_ix ix_tup (pv 1) pe_int (fun _ _ => rfl)) pe_int (nomark _)))))
      (pss_one (ps_ret (pe_tup (pa_cons (pe_op op_mulW (pe_ix ix_tup (pv 0) pe_int (fun _ _ => rfl)) (pe_ix ix_tup (pv 1) pe_int (fun _ _ => rfl))) (pa_cons pe_int pa_nil))))) pss_nil)
    (pss_one (ps_ret (pe_call G hr rfl mL kL bL .nil pass0 (pa_cons (pe_op op_mulW (pe_ix ix_tup (pv 0) pe_int (fun _ _ => rfl)) (pe_ix ix_tup (pv 1) pe_int (fun _ _ => rfl)))
      (pa_cons (pe_op op_mulW (pe_ix ix_tup (pv 0) pe_int (fun _ _ => rfl)) (pe_ix ix_tup (pv 1) pe_int (fun _ _ => rfl))) pa_nil))))), ?_⟩
  have low : ∃ p q : Int, [V.int (a.num * b.num), V.int (a.den * b.den)] = [.int p, .int q] ∧ q ≠ 0 ∧ q.natAbs.log2 < 9000 ∧ GivesQ H Q (Rat.divInt p q) :=
    ⟨_, _, rfl, Int.mul_ne_zero (den_ne a) (den_ne b), Nat.lt_trans (log_bd (lt_mul ba.dn bb.dn) (by decide)) (by decide), by rw [← rat_mul]; exact q⟩
  have els : tRet (tCall spLowQ [] E0 (tCons (tOp (rI CMulW fun i j => .int (i * j)) (tOp (rIxT K) (tVar 0) (tC (.int 0))) (tOp (rIxT K) (tVar 1) (tC (.int 0))))
      (tCons (tOp (rI CMulW fun i j => .int (i * j)) (tOp (rIxT K) (tVar 0) (tC (.int 1))) (tOp (rIxT K) (tVar 1) (tC (.int 1)))) tNil))) { nx := fun _ H' => Q .non H', rt := Q } (L2.start nAB [.ref xa, .ref ya]) H :=
    ⟨_, rfl, xa, _, 0, _, rfl, rfl, sx, rfl, _, rfl, ya, _, 0, _, rfl, rfl, sy, rfl, a.num, b.num, rfl, rfl, wide_mul ba.1 bb.1 (by decide) (by decide) (by decide),
      _, rfl, xa, _, 1, _, rfl, rfl, sx, rfl, _, rfl, ya, _, 1, _, rfl, rfl, sy, rfl, (a.den : Nat), (b.den : Nat), rfl, rfl, wide_mul ba.dn bb.dn (by decide) (by decide) (by decide), low⟩
  refine ⟨_, rfl, xa, _, 1, _, rfl, rfl, sx, rfl, rfl, _, rfl, ite2 (fun e1 => ?_) (fun _ => iteF els)⟩
  refine ⟨_, rfl, ya, _, 1, _, rfl, rfl, sy, rfl, rfl, _, rfl, ite2 (fun e2 => ?_) (fun _ => els)⟩
  have d1 : ((a.den : Nat) : Int) = 1 := V.int.inj (of_decide_eq_true e1)
  have d2 : ((b.den : Nat) : Int) = 1 := V.int.inj (of_decide_eq_true e2)
  refine ⟨_, rfl, xa, _, 0, _, rfl, rfl, sx, rfl, _, rfl, ya, _, 0, _, rfl, rfl, sy, rfl, a.num, b.num, rfl, rfl, wide_mul ba.1 bb.1 (by decide) (by decide) (by decide), (by show 2 ≤ sizeLine; decide), fun t nt => ?_⟩
  have e : HO.tup [.int (a.num * b.num), .int 1] = rT (a * b) := by
    have z := rat_mul a b
    rw [d1, d2] at z
    have y := div_one (a.num * b.num)
    unfold rT
    rw [z, show (1 : Int) * 1 = 1 from rfl, y.1, y.2]
    rfl
  rw [e]
  exact q.upd nt
end
end Kx
end
section
set_option maxHeartbeats 4000000
namespace Kx
open PySem PySem.Spec PyProof.Rows L2
def revB : List Value → List Value → List Value := fun _ ws => ws.reverse
def revA : List V → List V → List V := fun _ zs => zs.reverse
def appB : List Value → List Value → List Value := fun us ws => us ++ ws
def appA : List V → List V → List V := fun vs zs => vs ++ zs
theorem vals_rev : ∀ {vs : List V} {us : List Value}, Vals vs us → Vals vs.reverse us.reverse
  | _, _, .nil => .nil
  | _, _, .cons r t => by
    rw [List.reverse_cons, List.reverse_cons]
    exact Paired.snoc (vals_rev t) r
theorem vals_app : ∀ {vs : List V} {us : List Value} {zs : List V} {ws : List Value}, Vals vs us → Vals zs ws → Vals (vs ++ zs) (us ++ ws)
  | _, _, _, _, .nil, t => t
  | _, _, _, _, .cons r t, t' => .cons r (vals_app t t')
section
variable {X : Cx} {CX : CXT} {k : Nat} {f : Addr} {fd : FuncData} {ps ks : List Str} {sp : Sp} {E : XK} {x : Str} {p pos : Pos} {kws : List Keyword} {tk : TA}
/-- f(k = v, ..), keywords alone -/
def tCallR (m : Nat) (sp : Sp) (E : XK) (tk : TA) : TE := fun σ H Q => tk σ H fun zs H2 => zs.length = m ∧ sp zs.reverse H2 Q E
theorem pe_callR (F : FnOk X.prog X.w X.K X.mg X.base CX k f fd ps sp) (hr : Room k X.A) (hg : Gl X x) (hm : X.mg x = some (.ref f)) (hk : PySem.W.keepIn X.K (.ref f) = true) (hb : KBn X.K fd ps 0 ks revB revA) (hx : Passes CX X E)
    (hkw : PK X kws tk) (hall : (backToKw pos (keywordEach kws X.env)).all (·.1.isSome) = true := by rfl) (hks : (backToKw pos (keywordEach kws X.env)).filterMap (·.1) = ks := by rfl)
    (hdb : (x == ("__debug__" : Str)) = false := by decide) (hpl : ((backTo pos (starEach [] X.env)).any (·.1) || (backToKw pos (keywordEach kws X.env)).any (·.1.isNone)) = false := by rfl) :
    PE X (.Call (.Name x p) [] kws pos) (tCallR ks.length sp E tk) := by
  refine ⟨fun pins s σ H Q I h => wpAny_Call_Name_kw (ld_glob I hg hm ?_ hdb)⟩
  refine PySem.W.callWith_KW0 (h₀ := X.base) I.ok.mod.kin hk hall ?_ hpl
  refine thn (hkw.run pos pins s σ H _ I h) fun ws s2 ⟨zs, H2, I2, rz, l2, q2⟩ => ⟨I2.kIn, ?_⟩
  rw [hks]
  exact run_fnN (us := []) (vs := []) F hr hb hx I2 .nil rz rfl l2 q2
end
section
variable {K : PySem.W.Frag} {x q : Str} {st : Stmt} {f : Addr} {fd : FuncData}
theorem kb_two {a b : Str} {st : Stmt} (F : Fun K x q st f fd) (h : ∀ (kV doc pm : Value) (an : Option Addr) (cdv ct u v : Value), bindArgs (PySem.W.fnOf x q (defArgs st) (defBody st) (defScope st) .none kV doc pm an cdv ct) ⟨[], [(b, v), (a, u)]⟩ = pure [(a, u), (b, v)]) : KBn K fd [a, b] 0 [b, a] revB revA := by
  obtain ⟨oc, od, kV, doc, pm, an, cdv, ct, osl, rfl, lk, hcd⟩ := F.ex
  refine ⟨fun s us ws _ l1 l2 => ?_, fun _ r => vals_rev r⟩
  match us, ws, l1, l2 with
  | [], [v, u], _, _ => exact .of_eq (h _ _ _ _ _ _ u v)
theorem kb_one {a : Str} {st : Stmt} (F : Fun K x q st f fd) (h : ∀ (kV doc pm : Value) (an : Option Addr) (cdv ct u : Value), bindArgs (PySem.W.fnOf x q (defArgs st) (defBody st) (defScope st) .none kV doc pm an cdv ct) ⟨[], [(a, u)]⟩ = pure [(a, u)]) : KBn K fd [a] 0 [a] revB revA := by
  obtain ⟨oc, od, kV, doc, pm, an, cdv, ct, osl, rfl, lk, hcd⟩ := F.ex
  refine ⟨fun s us ws _ l1 l2 => ?_, fun _ r => vals_rev r⟩
  match us, ws, l1, l2 with
  | [], [u], _, _ => exact .of_eq (h _ _ _ _ _ _ u)
/-- the first by its place, the second by its name -/
theorem kb_mix {a b : Str} {st : Stmt} (F : Fun K x q st f fd) (h : ∀ (kV doc pm : Value) (an : Option Addr) (cdv ct u v : Value), bindArgs (PySem.W.fnOf x q (defArgs st) (defBody st) (defScope st) .none kV doc pm an cdv ct) ⟨[u], [(b, v)]⟩ = pure [(a, u), (b, v)]) : KBn K fd [a, b] 1 [b] appB appA := by
  obtain ⟨oc, od, kV, doc, pm, an, cdv, ct, osl, rfl, lk, hcd⟩ := F.ex
  refine ⟨fun s us ws _ l1 l2 => ?_, fun r1 r2 => vals_app r1 r2⟩
  match us, ws, l1, l2 with
  | [u], [v], _, _ => exact .of_eq (h _ _ _ _ _ _ u v)
end
/-! ### a def as it is used: its promise, its arguments, its name -/
structure Use (P : Program) (w : World) (K : PySem.W.Frag) (mg : Str → Option Value) (base : Heap) (CX : CXT) (k : Nat) (x : Str) (ps : List Str) (sp : Sp) (kws : List (List Str)) : Prop where
  ex : ∃ (f : Addr) (fd : FuncData), FnOk P w K mg base CX k f fd ps sp ∧ Binds K fd ps [] ∧ PySem.W.keepIn K (.ref f) = true ∧ mg x = some (.ref f) ∧ (∀ ks ∈ kws, ks.length = ps.length → KBn K fd ps 0 ks revB revA) ∧ (∀ ks ∈ kws, ks.length = 1 → ps.length = 2 → KBn K fd ps 1 ks appB appA)
section
variable {X : Cx} {CX : CXT} {k : Nat} {ps ks : List Str} {kl : List (List Str)} {sp : Sp} {E : XK} {x : Str} {p pos : Pos} {kws : List Keyword} {tk t : TA} {e : Expr} {es : List Expr}
theorem pe_use (U : Use X.prog X.w X.K X.mg X.base CX k x ps sp kl) (hr : Room k X.A) (hg : Gl X x) (hx : Passes CX X E) (ha : PA X (e :: es) t)
    (hdb : (x == ("__debug__" : Str)) = false := by decide) (he : starEach (e :: es) X.env = (false, eval e X.env) :: starEach es X.env := by rfl) (hpl : (backTo pos (starEach es X.env)).any (·.1) = false := by rfl) :
    PE X (.Call (.Name x p) (e :: es) [] pos) (tCall sp [] E t) := by
  obtain ⟨f, fd, F, b, kp, m, _⟩ := U.ex
  exact pe_call F hr hg m kp b .nil hx ha hdb he hpl
theorem pe_useR (U : Use X.prog X.w X.K X.mg X.base CX k x ps sp kl) (hr : Room k X.A) (hg : Gl X x) (hx : Passes CX X E) (hl : ks.length = ps.length)
    (hkw : PK X kws tk) (hin : ks ∈ kl) (hall : (backToKw pos (keywordEach kws X.env)).all (·.1.isSome) = true := by rfl) (hks : (backToKw pos (keywordEach kws X.env)).filterMap (·.1) = ks := by rfl)
    (hdb : (x == ("__debug__" : Str)) = false := by decide) (hpl : ((backTo pos (starEach [] X.env)).any (·.1) || (backToKw pos (keywordEach kws X.env)).any (·.1.isNone)) = false := by rfl) :
    PE X (.Call (.Name x p) [] kws pos) (tCallR ks.length sp E tk) := by
  obtain ⟨f, fd, F, b, kp, m, h, _⟩ := U.ex
  exact pe_callR F hr hg m kp (h _ hin hl) hx hkw hall hks hdb hpl
theorem pe_useN (U : Use X.prog X.w X.K X.mg X.base CX k x ps sp kl) (hr : Room k X.A) (hg : Gl X x) (hx : Passes CX X E) (hl : ks.length = 1) (hl2 : ps.length = 2)
    (ha : PA X (e :: es) t) (hkw : PK X kws tk) (hin : ks ∈ kl) (hall : (backToKw pos (keywordEach kws X.env)).all (·.1.isSome) = true := by rfl) (hks : (backToKw pos (keywordEach kws X.env)).filterMap (·.1) = ks := by rfl)
    (hdb : (x == ("__debug__" : Str)) = false := by decide) (he : starEach (e :: es) X.env = (false, eval e X.env) :: starEach es X.env := by rfl)
    (hpl : ((backTo pos (starEach (e :: es) X.env)).any (·.1) || (backToKw pos (keywordEach kws X.env)).any (·.1.isNone)) = false := by rfl) :
    PE X (.Call (.Name x p) (e :: es) kws pos) (tCallN 1 ks.length sp appA E t tk) := by
  obtain ⟨f, fd, F, b, kp, m, _, h⟩ := U.ex
  exact pe_callN F hr hg m kp (h _ hin hl hl2) hx ha hkw hall hks hdb he hpl
end
/-! ### a def whose code object's place is known -/
structure FunC (K : PySem.W.Frag) (x qual : Str) (st : Stmt) (f : Addr) (fd : FuncData) (c : Addr) : Prop where
  ex : ∃ (oc : Value) (od : Option Addr) (kV doc pm : Value) (an : Option Addr) (ct : Value) (osl : Array (Option Value)),
    fd = PySem.W.fnOf x qual (defArgs st) (defBody st) (defScope st) .none kV doc pm an (.ref c) ct ∧ K.lookup f = some ⟨oc, od, .func fd, osl⟩ ∧ PySem.W.codeIn K (.ref c) qual = true
  kp : PySem.W.keepIn K (.ref f) = true
section
variable {P : Program} {w : World} {K : PySem.W.Frag} {mg : Str → Option Value} {base : Heap}
theorem FunC.fn {x qual : Str} {st : Stmt} {f c : Addr} {fd : FuncData} (F : FunC K x qual st f fd c) : Fun K x qual st f fd := by
  obtain ⟨oc, od, kV, doc, pm, an, ct, osl, h1, h2, h3⟩ := F.ex
  exact ⟨⟨oc, od, kV, doc, pm, an, _, ct, osl, h1, h2, h3⟩, F.kp⟩
theorem FunC.ok {x qual : Str} {st : Stmt} {f c : Addr} {fd : FuncData} {N ps : List Str} {k : Nat} {sp : Sp} (F : FunC K x qual st f fd c) (S : FnScope N ps (defScope st)) (len : ∀ vs H Q E, sp vs H Q E → vs.length = ps.length)
    (hbody : ∀ (A : Around) (outer : List Env) (s : Shared) (H : Hp) (vs : List V) (Q : VK) (E : XK), Room k (A.deeper (envOfC qual (defScope st) s.heap.objs.size f (.ref c))) → sp vs H Q E →
      ∃ t, PSs (cxOf CX0 P w K mg base N qual (defScope st) f (.ref c) A outer s H E).nox (defBody st) t ∧ t { nx := fun _ H' => Q .non H', rt := Q } (L2.start N vs) H) : FnOk P w K mg base CX0 (k + 1) f fd ps sp := by
  obtain ⟨oc, od, kV, doc, pm, an, ct, osl, rfl, lk, hcd⟩ := F.ex
  refine fn_of lk hcd S len fun A outer s H vs Q E hr hsp => ?_
  obtain ⟨t, h, q⟩ := hbody A outer s H vs Q E hr hsp
  exact ⟨t, h.nox, q⟩
end
end Kx
end
section
set_option maxHeartbeats 4000000
namespace Kx
open PySem PySem.Spec PyProof.Rows L2
/-- a list comprehension that makes something new at each turn: R says of the i-th -/
theorem lc_acc {J : It} {n : Nat} {G : Hp → Prop} {Y : Nat → Hp → V → Hp → Prop} (w : Walk J n G Y) {g : TG} {te : TE} {vs : List Nat} {σ : L2.St} {H1 : Hp} {D : Addr} {Qd : Hp → Prop} (R : Nat → Hp → V → Prop)
    (mono : ∀ i H H' y l, R i H y → H D = some (.lst l) → But D H H' → R i H' y) (nD : H1 D = none) (hn : n ≤ 900) (hG : ∀ H, Same H1 H → G H)
    (hs : ∀ i x H H' (k : V → Hp → Prop), i < n → Same H1 H → Y i H x H' → (∀ y H4, Same H H4 → R i H4 y → k y H4) → g x (wipe σ vs) H' fun σ2 H2 => wipe σ2 vs = wipe σ vs ∧ te σ2 H2 k)
    (hd : ∀ H xs, Same H1 H → H D = some (.lst xs) → xs.length = n → (∀ (i : Nat) y, xs[i]? = some y → R i H y) → Qd H) :
    ∃ W : Nat → Nat → Hp → Prop, (∃ m, W 0 m (upd H1 D (.lst []))) ∧ ∀ i m H, W i m H →
      (J.stop i H ∧ Qd H) ∨ (J.go i H ∧ ∃ Nx : Hp → Prop, (∀ H', Nx H' → ∃ m', m' < m ∧ W (i + 1) m' H') ∧ ∀ x H', J.yld i H x H' → g x (wipe σ vs) H' fun σ2 H2 => wipe σ2 vs = wipe σ vs ∧ tYes σ2 H2 fun b H3 =>
        if b = true then te σ2 H3 fun y H4 => ∃ acc, H4 D = some (.lst acc) ∧ acc.length < sizeLine ∧ Nx (upd H4 D (.lst (acc ++ [y]))) else Nx H3) := by
  refine lc_it w (fun i H => Same H1 H ∧ ∃ xs, H D = some (.lst xs) ∧ xs.length = i ∧ ∀ (j : Nat) y, xs[j]? = some y → R j H y) ⟨new_same nD _, [], upd_same, rfl, fun j y h => by simp at h⟩ (fun i H _ h => hG H h.1) ?_ ?_
  · rintro i x H H' hi ⟨s1, xs, hx, hl, hR⟩ y
    have z := hs i x H H' (fun y H4 => ∃ acc, H4 D = some (.lst acc) ∧ acc.length < sizeLine ∧ (Same H1 (upd H4 D (.lst (acc ++ [y]))) ∧ ∃ xs, (upd H4 D (.lst (acc ++ [y]))) D = some (.lst xs) ∧ xs.length = i + 1 ∧ ∀ (j : Nat) z, xs[j]? = some z → R j (upd H4 D (.lst (acc ++ [y]))) z)) hi s1 y (fun y H4 s4 r4 => ?_)
    · exact z
    · have h4 := s4 _ _ hx
      refine ⟨xs, h4, small1000 (by omega), fun e o h => ?_, xs ++ [y], upd_same, by rw [List.length_append, hl]; rfl, fun j z hz => ?_⟩
      · rw [upd_ne (ne_of_none h nD)]
        exact s4 _ _ (s1 _ _ h)
      · have sm : But D H4 (upd H4 D (.lst (xs ++ [y]))) := fun e o n h => by rw [upd_ne n]; exact h
        by_cases c : j < xs.length
        · rw [List.getElem?_append_left c] at hz
          exact mono j H _ z _ (hR j z hz) hx ((But.same s4).trans sm)
        · rw [List.getElem?_append_right (by omega)] at hz
          match hj : j - xs.length, hz with
          | 0, hz =>
            rw [← Option.some.inj (show some y = some z from hz)]
            obtain rfl : j = i := by omega
            exact mono j H4 _ _ _ r4 h4 sm
          | _ + 1, hz => simp at hz
  · rintro H ⟨s1, xs, hx, hl, hR⟩
    exact hd H xs s1 hx hl hR
theorem Nq.butL {K : PySem.W.Frag} {H H' : Hp} {v : V} {q : Rat} {D : Addr} {l : List V} (h : Nq K H v q) (hD : H D = some (.lst l)) (s : But D H H') : Nq K H' v q := by
  obtain ⟨a, e, h⟩ := h
  refine ⟨a, e, h.imp (fun h => s _ _ (fun z => ?_) h) id⟩
  rw [z, hD] at h
  cases h
/-- .. new numbers -/
theorem lc_nums {K : PySem.W.Frag} {J : It} {n : Nat} {G : Hp → Prop} {Y : Nat → Hp → V → Hp → Prop} (w : Walk J n G Y) {g : TG} {te : TE} {vs : List Nat} {σ : L2.St} {H1 : Hp} {D : Addr} {Qd : Hp → Prop} (qs : List Rat)
    (hl : qs.length = n) (nD : H1 D = none) (hn : n ≤ 900) (hG : ∀ H, Same H1 H → G H)
    (hs : ∀ i q x H H' (k : V → Hp → Prop), qs[i]? = some q → Same H1 H → Y i H x H' → (∀ y H4, Same H H4 → Nq K H4 y q → k y H4) → g x (wipe σ vs) H' fun σ2 H2 => wipe σ2 vs = wipe σ vs ∧ te σ2 H2 k)
    (hd : ∀ H xs, Same H1 H → H D = some (.lst xs) → Nl K H xs qs → Qd H) :
    ∃ W : Nat → Nat → Hp → Prop, (∃ m, W 0 m (upd H1 D (.lst []))) ∧ ∀ i m H, W i m H →
      (J.stop i H ∧ Qd H) ∨ (J.go i H ∧ ∃ Nx : Hp → Prop, (∀ H', Nx H' → ∃ m', m' < m ∧ W (i + 1) m' H') ∧ ∀ x H', J.yld i H x H' → g x (wipe σ vs) H' fun σ2 H2 => wipe σ2 vs = wipe σ vs ∧ tYes σ2 H2 fun b H3 =>
        if b = true then te σ2 H3 fun y H4 => ∃ acc, H4 D = some (.lst acc) ∧ acc.length < sizeLine ∧ Nx (upd H4 D (.lst (acc ++ [y]))) else Nx H3) := by
  refine lc_acc w (fun i H y => ∀ q, qs[i]? = some q → Nq K H y q) (fun i H H' y l h hD s q hq => (h q hq).butL hD s) nD hn hG (fun i x H H' k hi s y hk => ?_) (fun H xs s h l hR => hd H xs s h ⟨by rw [l, hl], fun i x q h1 h2 => hR i x h1 q h2⟩)
  have e := List.getElem?_eq_getElem (l := qs) (i := i) (by omega)
  exact hs i _ x H H' k e s y fun z H4 s4 r4 => hk z H4 s4 fun q hq => by
    rw [e] at hq
    rw [← Option.some.inj hq]
    exact r4
abbrev tupQ (q : Rat) : PyData := .tuple [.int q.num, .int (q.den : Nat)]
theorem eqv_num (a b : Rat) : PyData.eqv (tupQ a) (tupQ b) = decide (a = b) := by
  by_cases h : a = b
  · subst h
    rw [decide_eq_true rfl]
    exact SeqAt.eqv_refl _ rfl
  · rw [decide_eq_false h]
    simp only [tupQ, PyData.eqv, PyData.eqvAll, Bool.and_true]
    rw [Bool.and_eq_false_iff]
    by_cases e : a.num = b.num
    · right
      refine beq_eq_false_iff_ne.mpr fun z => h (Rat.ext e ?_)
      omega
    · left
      exact beq_eq_false_iff_ne.mpr e
end Kx
end
section
set_option maxHeartbeats 4000000
namespace Kx
open PySem PySem.Spec PyProof.Rows L2
/-! ### the program's numbers -/
abbrev nOO : List Str := ["one", "other"]
def spProQ (K : PySem.W.Frag) : Sp := fun vs H Q _ => ∃ (x y : V) (a b : Rat), vs = [x, y] ∧ Nq K H x a ∧ Nq K H y b ∧ Bq 4000 a ∧ Bq 4000 b ∧ GivesQ H Q (a * b)
section
variable {P : Program} {w : World} {K : PySem.W.Frag} {mg : Str → Option Value} {base : Heap} {f fL o0 : Addr} {fd fdL : FuncData}
theorem scRatio : FnScope ["upper", "lower", "shared"] ["upper", "lower"] (defScope F_ratio) := ⟨rfl, rfl, rfl, by decide +kernel, rfl, by decide +kernel, by decide +kernel⟩
theorem ok_ratio (F : Fun K "ratio" "ratio" F_ratio f fd) (mG : mg "gcd" = some (.builtin "math.gcd")) : FnOk P w K mg base CX0 1 f fd ["upper", "lower"] spLowQ := by
  refine F.ok scRatio (fun vs H Q E h => ?_) (fun cdv A outer s H vs Q E hr h => ?_)
  · obtain ⟨p, q, rfl, _⟩ := h
    rfl
  obtain ⟨p, q, rfl, hq, hl, qq⟩ := h
  refine ⟨_, pss_cons (ps_if (pt_cmpR op_eq (pv 1) pe_int (nomark _)) (pss_one ps_never) pss_nil)
    (pss_cons (ps_set (i := 2) scRatio.nd rfl (Or.inl rfl) (pe_callBfun cr_gcd rfl mG (pa_cons (pv 0) (pa_cons (pv 1) pa_nil))))
    (pss_cons (ps_if (pt_cmpR op_lt (pv 1) pe_int (nomark _)) (pss_one (ps_set (i := 2) scRatio.nd rfl (Or.inl rfl) (pe_un un_neg (pv 2)))) pss_nil)
    (pss_one (ps_ret (pe_tup (pa_cons (pe_op op_fdivA (pv 0) (pv 2)) (pa_cons (pe_op op_fdivA (pv 1) (pv 2)) pa_nil))))))), ?_⟩
  have fin : ∀ g : Int, g = gS p q → (∀ t, H t = none → Q (.ref t) (upd H t (.tup [.int (p.fdiv g), .int (q.fdiv g)]))) ∧ g ≠ 0 ∧ g.natAbs.log2 < 9000 := by
    rintro g rfl
    refine ⟨fun t nt => ?_, gS_ne hq, Nat.lt_of_le_of_lt (log_le (gS_le hq)) hl⟩
    have := qq.upd nt
    rw [← low_HO hq] at this
    exact this
  refine ⟨_, rfl, rfl, _, rfl, ?_⟩
  rw [decide_eq_false (fun e => hq (V.int.inj e))]
  refine iteF ⟨_, rfl, _, rfl, p, q, rfl, ?_⟩
  refine ⟨_, rfl, q, 0, rfl, rfl, _, rfl, ite2 (fun c => ?_) (fun c => ?_)⟩
  · obtain ⟨q1, n0, l9⟩ := fin (-((Nat.gcd p.natAbs q.natAbs : Nat) : Int)) (by unfold gS; rw [if_pos (of_decide_eq_true c)])
    exact ⟨_, rfl, _, rfl, _, rfl, _, rfl, p, _, rfl, rfl, ⟨n0, l9⟩, _, rfl, _, rfl, q, _, rfl, rfl, ⟨n0, l9⟩, (by show 2 ≤ sizeLine; decide), q1⟩
  · obtain ⟨q1, n0, l9⟩ := fin ((Nat.gcd p.natAbs q.natAbs : Nat) : Int) (by unfold gS; rw [if_neg (of_decide_eq_false (Bool.eq_false_iff.mpr c))])
    exact ⟨_, rfl, _, rfl, p, _, rfl, rfl, ⟨n0, l9⟩, _, rfl, _, rfl, q, _, rfl, rfl, ⟨n0, l9⟩, (by show 2 ≤ sizeLine; decide), q1⟩
theorem scPro : FnScope nOO ["one", "other"] (defScope F_product_of) := ⟨rfl, rfl, rfl, by decide +kernel, rfl, by decide +kernel, by decide +kernel⟩
theorem ok_product (F : Fun K "product_of" "product_of" F_product_of f fd) (UR : Use P w K mg base CX0 1 "ratio" ["upper", "lower"] spLowQ []) : FnOk P w K mg base CX0 2 f fd ["one", "other"] (spProQ K) := by
  refine F.ok scPro (fun vs H Q E h => ?_) (fun cdv A outer s H vs Q E hr h => ?_)
  · obtain ⟨x, y, a, b, rfl, _⟩ := h
    rfl
  obtain ⟨x, y, a, b, rfl, hx, hy, ba, bb, q⟩ := h
  obtain ⟨xa, rfl, sx, _⟩ := hx.sq
  obtain ⟨ya, rfl, sy, _⟩ := hy.sq
  refine ⟨_, pss_one (ps_ret (pe_use UR hr rfl pass0 (pa_cons (pe_op op_mulW (pe_ix ix_tup (pv 0) pe_int (fun _ _ => rfl)) (pe_ix ix_tup (pv 1) pe_int (fun _ _ => rfl)))
      (pa_cons (pe_op op_mulW (pe_ix ix_tup (pv 0) pe_int (fun _ _ => rfl)) (pe_ix ix_tup (pv 1) pe_int (fun _ _ => rfl))) pa_nil)))), ?_⟩
  exact ⟨_, rfl, xa, _, 0, _, rfl, rfl, sx, rfl, _, rfl, ya, _, 0, _, rfl, rfl, sy, rfl, a.num, b.num, rfl, rfl, wide_mul ba.1 bb.1 (by decide) (by decide) (by decide),
      _, rfl, xa, _, 1, _, rfl, rfl, sx, rfl, _, rfl, ya, _, 1, _, rfl, rfl, sy, rfl, (a.den : Nat), (b.den : Nat), rfl, rfl, wide_mul ba.dn bb.dn (by decide) (by decide) (by decide),
      _, _, rfl, Int.mul_ne_zero (den_ne a) (den_ne b), Nat.lt_trans (log_bd (lt_mul ba.dn bb.dn) (by decide)) (by decide), by rw [← rat_mul]; exact q⟩
theorem scNgo : FnScope ["value"] ["value"] (defScope F_negative_of) := ⟨rfl, rfl, rfl, by decide +kernel, rfl, by decide +kernel, by decide +kernel⟩
theorem ok_negative (F : Fun K "negative_of" "negative_of" F_negative_of f fd) : FnOk P w K mg base CX0 1 f fd ["value"] (spNegQ K) := by
  refine F.ok scNgo (fun vs H Q E h => ?_) (fun cdv A outer s H vs Q E hr h => ?_)
  · obtain ⟨x, a, rfl, _⟩ := h
    rfl
  obtain ⟨x, a, rfl, hx, q⟩ := h
  obtain ⟨xa, rfl, sx, _⟩ := hx.sq
  refine ⟨_, pss_one (ps_ret (pe_tup (pa_cons (pe_un un_neg (pe_ix ix_tup (pv 0) pe_int (fun _ _ => rfl))) (pa_cons (pe_ix ix_tup (pv 0) pe_int (fun _ _ => rfl)) pa_nil)))), ?_⟩
  refine ⟨_, rfl, xa, _, 0, _, rfl, rfl, sx, rfl, _, rfl, _, rfl, xa, _, 1, _, rfl, rfl, sx, rfl, (by show 2 ≤ sizeLine; decide), fun t nt => ?_⟩
  have e : HO.tup [.int (-a.num), .int (a.den : Nat)] = rT (-a) := by
    unfold rT
    rw [Rat.neg_num, Rat.neg_den]
  rw [e]
  exact q.upd nt
end
/-! ### lists of numbers -/
/-- the list at a, for lists that were passed -/
def Ls (K : PySem.W.Frag) (H : Hp) (v : V) (qs : List Rat) : Prop := ∃ a xs, v = .ref a ∧ H a = some (.lst xs) ∧ Nl K H xs qs
theorem Ls.same {K : PySem.W.Frag} {H H' : Hp} {v : V} {qs : List Rat} (h : Ls K H v qs) (s : Same H H') : Ls K H' v qs := by
  obtain ⟨a, xs, e, h1, h2⟩ := h
  exact ⟨a, xs, e, s _ _ h1, h2.same s⟩
/-- a new list of numbers comes back -/
def GivesL (K : PySem.W.Frag) (H : Hp) (Q : VK) (rs : List Rat) : Prop := ∀ b H' xs, Same H H' → H b = none → H' b = some (.lst xs) → Nl K H' xs rs → Q (.ref b) H'
def AllB (n : Nat) (qs : List Rat) : Prop := ∀ q ∈ qs, Bq n q
def spTwoL (K : PySem.W.Frag) (op : Rat → Rat → Rat) : Sp := fun vs H Q _ => ∃ (x y : V) (qs rs : List Rat), vs = [x, y] ∧ Ls K H x qs ∧ Ls K H y rs ∧ qs.length = rs.length ∧ qs.length ≤ 100 ∧ AllB 4000 qs ∧ AllB 4000 rs ∧ GivesL K H Q (qs.zipWith op rs)
def spMulsL (K : PySem.W.Frag) : Sp := fun vs H Q _ => ∃ (x y : V) (qs : List Rat) (t : Rat), vs = [x, y] ∧ Ls K H x qs ∧ Nq K H y t ∧ qs.length ≤ 100 ∧ AllB 4000 qs ∧ Bq 4000 t ∧ GivesL K H Q (qs.map (· * t))
abbrev nSo : List Str := ["one", "other", "a", "c", "b", "d"]
abbrev nMo : List Str := ["numbers", "t", "number"]
section
variable {P : Program} {w : World} {K : PySem.W.Frag} {mg : Str → Option Value} {base : Heap} {f fL o0 : Addr} {fd fdL : FuncData}
theorem scSo : FnScope nSo ["one", "other"] (defScope F_sums_of) := ⟨rfl, rfl, rfl, by decide +kernel, rfl, by decide +kernel, by decide +kernel⟩
theorem scDo : FnScope nSo ["one", "other"] (defScope F_differences_of) := ⟨rfl, rfl, rfl, by decide +kernel, rfl, by decide +kernel, by decide +kernel⟩
theorem zip_get {op : Rat → Rat → Rat} {qs rs : List Rat} {i : Nat} {q : Rat} (h : (qs.zipWith op rs)[i]? = some q) : ∃ a b, qs[i]? = some a ∧ rs[i]? = some b ∧ q = op a b := by
  rw [List.getElem?_zipWith] at h
  cases e1 : qs[i]? with
  | none => simp [e1] at h
  | some a =>
    cases e2 : rs[i]? with
    | none => simp [e1, e2] at h
    | some b =>
      simp [e1, e2] at h
      exact ⟨a, b, rfl, rfl, h.symm⟩
theorem ok_sums (F : Fun K "sums_of" "sums_of" F_sums_of f fd) (mz : mg "zip" = none) (UR : Use P w K mg base CX0 1 "ratio" ["upper", "lower"] spLowQ []) : FnOk P w K mg base CX0 2 f fd ["one", "other"] (spTwoL K (· + ·)) := by
  refine F.ok scSo (fun vs H Q E h => ?_) (fun cdv A outer s H vs Q E hr h => ?_)
  · obtain ⟨x, y, qs, rs, rfl, _⟩ := h
    rfl
  obtain ⟨x, y, qs, rs, rfl, ⟨xa, xs, rfl, hx, nx⟩, ⟨ya, ys, rfl, hy, ny⟩, le, l1, bq, br, q⟩ := h
  refine ⟨_, pss_one (ps_ret (pe_lc (own := [("a", 2), ("c", 3), ("b", 4), ("d", 5)]) (g := gTup K 2 (gCons (gTup K 2 (gCons (gName 2) (gCons (gName 3) gNil))) (gCons (gTup K 2 (gCons (gName 4) (gCons (gName 5) gNil))) gNil))) (tt := tYes) rfl scSo.nd (pi_zip rfl mz (pa_cons (pv 0) (pa_cons (pv 1) pa_nil))) (blkOk_by (N := nSo) (sc := defScope F_sums_of) (by decide +kernel))
      (fun _ _ _ _ _ => pg_tup rfl (pgs_cons (pg_tup rfl (pgs_cons (pg_name (i := 2) scSo.nd rfl (Or.inl rfl)) (pgs_cons (pg_name (i := 3) scSo.nd rfl (Or.inl rfl)) pgs_nil))) (pgs_cons (pg_tup rfl (pgs_cons (pg_name (i := 4) scSo.nd rfl (Or.inl rfl)) (pgs_cons (pg_name (i := 5) scSo.nd rfl (Or.inl rfl)) pgs_nil))) pgs_nil))) (fun _ _ _ _ _ => pts_nil)
      (fun _ _ _ _ _ => pe_use UR hr rfl pass0 (pa_cons (pe_op op_add (pe_op op_mulW (pv 2) (pv 5)) (pe_op op_mulW (pv 4) (pv 3))) (pa_cons (pe_op op_mulW (pv 3) (pv 5)) pa_nil))))), ?_⟩
  refine ⟨_, rfl, _, rfl, xa, ya, xs, ys, rfl, SqL.of hx, SqL.of hy, fun D nD => ?_⟩
  have lx : xs.length = qs.length := nx.1
  have ly : ys.length = rs.length := ny.1
  refine lc_nums (K := K) (walk_zip (K := K) (a := xa) (b := ya) (xs := xs) (ys := ys) (n := xs.length) (by omega)) (qs.zipWith (· + ·) rs) (by rw [List.length_zipWith]; omega) nD (by omega) (fun H' s => ⟨SqL.of (s _ _ hx), SqL.of (s _ _ hy)⟩) ?_ (fun H' zs s h n => q D H' zs s nD h n)
  rintro i r x H2 H3 k hq s2 ⟨T, y, z, rfl, hT, rfl, hy2, hz2⟩ hk
  obtain ⟨a, b, ea, eb, rfl⟩ := zip_get hq
  have sT := new_same hT (.tup [y, z])
  obtain ⟨va, rfl, sa, _⟩ := ((nx.2 i y a hy2 ea).same (s2.trans sT)).sq
  obtain ⟨vb, rfl, sb, _⟩ := ((ny.2 i z b hz2 eb).same (s2.trans sT)).sq
  have ba := bq a (List.mem_of_getElem? ea)
  have bb := br b (List.mem_of_getElem? eb)
  refine ⟨T, _, rfl, SqT.of upd_same, rfl, _, _, rfl, va, _, rfl, sa, rfl, _, _, rfl, _, _, rfl, rfl, _, _, rfl, vb, _, rfl, sb, rfl, _, _, rfl, _, _, rfl, rfl, rfl, rfl, ?_⟩
  refine ⟨_, rfl, _, rfl, a.num, (b.den : Nat), rfl, rfl, wide_mul ba.1 bb.dn (by decide) (by decide) (by decide), _, rfl, _, rfl, b.num, (a.den : Nat), rfl, rfl, wide_mul bb.1 ba.dn (by decide) (by decide) (by decide), _, _, rfl, rfl, _, rfl, _, rfl, (a.den : Nat), (b.den : Nat), rfl, rfl, wide_mul ba.dn bb.dn (by decide) (by decide) (by decide), ?_⟩
  exact ⟨_, _, rfl, Int.mul_ne_zero (den_ne a) (den_ne b), Nat.lt_trans (log_bd (lt_mul ba.dn bb.dn) (by decide)) (by decide), fun t H4 s4 n4 h4 => hk _ _ (sT.trans s4) (.at (by rw [rat_add]; exact h4))⟩
theorem ok_differences (F : Fun K "differences_of" "differences_of" F_differences_of f fd) (mz : mg "zip" = none) (UR : Use P w K mg base CX0 1 "ratio" ["upper", "lower"] spLowQ []) : FnOk P w K mg base CX0 2 f fd ["one", "other"] (spTwoL K (· - ·)) := by
  refine F.ok scDo (fun vs H Q E h => ?_) (fun cdv A outer s H vs Q E hr h => ?_)
  · obtain ⟨x, y, qs, rs, rfl, _⟩ := h
    rfl
  obtain ⟨x, y, qs, rs, rfl, ⟨xa, xs, rfl, hx, nx⟩, ⟨ya, ys, rfl, hy, ny⟩, le, l1, bq, br, q⟩ := h
  refine ⟨_, pss_one (ps_ret (pe_lc (own := [("a", 2), ("c", 3), ("b", 4), ("d", 5)]) (g := gTup K 2 (gCons (gTup K 2 (gCons (gName 2) (gCons (gName 3) gNil))) (gCons (gTup K 2 (gCons (gName 4) (gCons (gName 5) gNil))) gNil))) (tt := tYes) rfl scDo.nd (pi_zip rfl mz (pa_cons (pv 0) (pa_cons (pv 1) pa_nil))) (blkOk_by (N := nSo) (sc := defScope F_differences_of) (by decide +kernel))
      (fun _ _ _ _ _ => pg_tup rfl (pgs_cons (pg_tup rfl (pgs_cons (pg_name (i := 2) scDo.nd rfl (Or.inl rfl)) (pgs_cons (pg_name (i := 3) scDo.nd rfl (Or.inl rfl)) pgs_nil))) (pgs_cons (pg_tup rfl (pgs_cons (pg_name (i := 4) scDo.nd rfl (Or.inl rfl)) (pgs_cons (pg_name (i := 5) scDo.nd rfl (Or.inl rfl)) pgs_nil))) pgs_nil))) (fun _ _ _ _ _ => pts_nil)
      (fun _ _ _ _ _ => pe_use UR hr rfl pass0 (pa_cons (pe_op op_sub (pe_op op_mulW (pv 2) (pv 5)) (pe_op op_mulW (pv 4) (pv 3))) (pa_cons (pe_op op_mulW (pv 3) (pv 5)) pa_nil))))), ?_⟩
  refine ⟨_, rfl, _, rfl, xa, ya, xs, ys, rfl, SqL.of hx, SqL.of hy, fun D nD => ?_⟩
  have lx : xs.length = qs.length := nx.1
  have ly : ys.length = rs.length := ny.1
  refine lc_nums (K := K) (walk_zip (K := K) (a := xa) (b := ya) (xs := xs) (ys := ys) (n := xs.length) (by omega)) (qs.zipWith (· - ·) rs) (by rw [List.length_zipWith]; omega) nD (by omega) (fun H' s => ⟨SqL.of (s _ _ hx), SqL.of (s _ _ hy)⟩) ?_ (fun H' zs s h n => q D H' zs s nD h n)
  rintro i r x H2 H3 k hq s2 ⟨T, y, z, rfl, hT, rfl, hy2, hz2⟩ hk
  obtain ⟨a, b, ea, eb, rfl⟩ := zip_get hq
  have sT := new_same hT (.tup [y, z])
  obtain ⟨va, rfl, sa, _⟩ := ((nx.2 i y a hy2 ea).same (s2.trans sT)).sq
  obtain ⟨vb, rfl, sb, _⟩ := ((ny.2 i z b hz2 eb).same (s2.trans sT)).sq
  have ba := bq a (List.mem_of_getElem? ea)
  have bb := br b (List.mem_of_getElem? eb)
  refine ⟨T, _, rfl, SqT.of upd_same, rfl, _, _, rfl, va, _, rfl, sa, rfl, _, _, rfl, _, _, rfl, rfl, _, _, rfl, vb, _, rfl, sb, rfl, _, _, rfl, _, _, rfl, rfl, rfl, rfl, ?_⟩
  refine ⟨_, rfl, _, rfl, a.num, (b.den : Nat), rfl, rfl, wide_mul ba.1 bb.dn (by decide) (by decide) (by decide), _, rfl, _, rfl, b.num, (a.den : Nat), rfl, rfl, wide_mul bb.1 ba.dn (by decide) (by decide) (by decide), _, _, rfl, rfl, _, rfl, _, rfl, (a.den : Nat), (b.den : Nat), rfl, rfl, wide_mul ba.dn bb.dn (by decide) (by decide) (by decide), ?_⟩
  exact ⟨_, _, rfl, Int.mul_ne_zero (den_ne a) (den_ne b), Nat.lt_trans (log_bd (lt_mul ba.dn bb.dn) (by decide)) (by decide), fun t H4 s4 n4 h4 => hk _ _ (sT.trans s4) (.at (by rw [rat_sub]; exact h4))⟩
end
end Kx
end
section
set_option maxHeartbeats 4000000
namespace Kx
open PySem PySem.Spec PyProof.Rows L2
def rLcm : List V → Hp → VK → Prop := fun vs H Q => ∃ a b : Nat, vs = [.int (a : Nat), .int (b : Nat)] ∧ a < 2 ^ 13400 ∧ b < 2 ^ 13400 ∧ 0 < a ∧ 0 < b ∧ Q (.int ((Nat.lcm a b : Nat) : Int)) H
theorem cr_lcm {X : Cx} : CallR X (.builtin "math.lcm") rLcm := by
  intro pins s σ H vs us Q I r h
  obtain ⟨a, b, rfl, ha, hb, a0, b0, q⟩ := h
  obtain ⟨t, u, rfl⟩ := Vals.int2 r
  have e : ((((Nat.lcm 1 ((a : Nat) : Int).natAbs).lcm ((b : Nat) : Int).natAbs : Nat) : Int)) = ((Nat.lcm a b : Nat) : Int) := by
    rw [Int.natAbs_natCast, Int.natAbs_natCast, Nat.lcm_one_left]
  have l1 : (max 1 ((a : Nat) : Int).natAbs).log2 ≤ 13400 := PySem.W.mg_log (by
    rw [Int.natAbs_natCast, Nat.max_eq_right a0]
    exact Nat.lt_of_lt_of_le ha (Nat.pow_le_pow_right (by decide) (by decide)))
  have l2 : (max ((a : Nat) : Int).natAbs ((b : Nat) : Int).natAbs).log2 ≤ 13400 := PySem.W.mg_log (by
    rw [Int.natAbs_natCast, Int.natAbs_natCast]
    exact Nat.lt_of_lt_of_le (Nat.max_lt.mpr ⟨ha, hb⟩) (Nat.pow_le_pow_right (by decide) (by decide)))
  have l3 : ((((Nat.lcm 1 ((a : Nat) : Int).natAbs).lcm ((b : Nat) : Int).natAbs : Nat) : Int)).natAbs.log2 < bitsLine := by
    rw [e, Int.natAbs_natCast]
    refine Nat.lt_of_le_of_lt (PySem.W.mg_log (k := 26800) ?_) (by decide)
    refine Nat.lt_of_le_of_lt (Nat.le_of_dvd (Nat.mul_pos a0 b0) (Nat.lcm_dvd_mul _ _)) ?_
    refine Nat.lt_of_lt_of_le (Nat.mul_lt_mul'' ha hb) ?_
    rw [← Nat.pow_add]
    exact Nat.pow_le_pow_right (by decide) (by decide)
  refine call_function_meets PySem.W.MGF.kind_lcm PySem.W.MGF.plain_lcm PySem.W.MGF.entry_lcm (PySem.W.MGF.args_lcm _ _) (PySem.W.mg_run_lcm a t b u (by omega) (by omega) l3).meets ?_
  exact ⟨.int _, H, I.tok _, ⟨_, by rw [e]⟩, q⟩
theorem lcm_lt {b : Bs} {e L : Nat} (h : L ∣ b.D ^ e) (e2 : b.m * e ≤ 6000) : L < 2 ^ 6001 := by
  have h1 := Nat.le_of_dvd (pD_pos b e) h
  have h2 := pD_le b e
  have h3 : 2 ^ (b.m * e) ≤ 2 ^ 6000 := Nat.pow_le_pow_right (by decide) e2
  have h4 : 2 ^ 6000 < 2 ^ 6001 := Nat.pow_lt_pow_right (by decide) (by decide)
  omega
/-- the pair of the upper parts and the lower part -/
def spOol (K : PySem.W.Frag) : Sp := fun vs H Q _ => ∃ (x : V) (qs : List Rat) (b : Bs) (e : Nat), vs = [x] ∧ Ls K H x qs ∧ qs.length ≤ 40 ∧ b.m * e ≤ 6000 ∧ AllZ b e qs ∧
  ∀ b p H', Same H H' → H b = none → H' b = some (.lst ((upL (lcmL 1 qs) qs).map V.int)) → H' p = some (.tup [.ref b, .int (lcmL 1 qs : Nat)]) → Q (.ref p) H'
abbrev nOl : List Str := ["numbers", "lower", "_", "below", "above"]
section
variable {P : Program} {w : World} {K : PySem.W.Frag} {mg : Str → Option Value} {base : Heap} {f fL o0 : Addr} {fd fdL : FuncData}
theorem scOl : FnScope nOl ["numbers"] (defScope F_over_one_lower) := ⟨rfl, rfl, rfl, by decide +kernel, rfl, by decide +kernel, by decide +kernel⟩
theorem ok_ool (F : Fun K "over_one_lower" "over_one_lower" F_over_one_lower f fd) (mLc : mg "lcm" = some (.builtin "math.lcm")) : FnOk P w K mg base CX0 1 f fd ["numbers"] (spOol K) := by
  refine F.ok scOl (fun vs H Q E h => ?_) (fun cdv A outer s H vs Q E hr h => ?_)
  · obtain ⟨x, qs, bb, e, rfl, _⟩ := h
    rfl
  obtain ⟨x, qs, bb, e, rfl, ⟨xa, xs, rfl, hx, nx⟩, l1, e2, bz, q⟩ := h
  have bq : ∀ q ∈ qs, Bq 6001 q := fun r hr => (bz r hr).bqn (by omega)
  refine ⟨_, pss_cons (ps_set (i := 1) scOl.nd rfl (Or.inr rfl) pe_int)
    (pss_cons (ps_for PassesOwn.never rfl (pi_list (pv 0)) (pg_tup rfl (pgs_cons (pg_name (i := 2) scOl.nd rfl (Or.inl rfl)) (pgs_cons (pg_name (i := 3) scOl.nd rfl (Or.inl rfl)) pgs_nil)))
      (pss_one (ps_set (i := 1) scOl.nd rfl (Or.inr rfl) (pe_callBfun cr_lcm rfl mLc (pa_cons (pv 1) (pa_cons (pv 3) pa_nil))))))
    (pss_one (ps_ret (pe_tup (pa_cons (pe_lc (own := [("above", 4), ("below", 3)]) (g := gTup K 2 (gCons (gName 4) (gCons (gName 3) gNil))) (tt := tYes) rfl scOl.nd (pi_list (pv 0)) (blkOk_by (N := nOl) (sc := defScope F_over_one_lower) (by decide +kernel))
      (fun _ _ _ _ _ => pg_tup rfl (pgs_cons (pg_name (i := 4) scOl.nd rfl (Or.inl rfl)) (pgs_cons (pg_name (i := 3) scOl.nd rfl (Or.inl rfl)) pgs_nil))) (fun _ _ _ _ _ => pts_nil)
      (fun _ _ _ _ _ => pe_op op_mulW (pv 4) (pe_op op_fdivA (pv 1) (pv 3)))) (pa_cons (pv 1) pa_nil)))))), ?_⟩
  have lx : xs.length = qs.length := nx.1
  refine ⟨_, rfl, xa, rfl, ⟨_, SqL.of hx⟩, for_list (K := K) (a := xa) (xs := xs) (fun i σ H' => H' = H ∧ ∃ v2 v3, σ = [some (.ref xa), some (.int (lcmL 1 (qs.take i) : Nat)), v2, v3, none]) ⟨rfl, none, none, rfl⟩ (fun i σ H' _ h => by rw [h.1]; exact SqL.of hx) ?_ ?_⟩
  · rintro i x σ H' hi ⟨rfl, v2, v3, rfl⟩
    obtain ⟨a, ea, na⟩ := nx.get hi
    obtain ⟨va, rfl, sa, _⟩ := na.sq
    have hi40 : i < 40 := by
      rcases Nat.lt_or_ge i xs.length with c | c
      · omega
      · rw [List.getElem?_eq_none c] at hi; cases hi
    have zb : lcmL 1 (qs.take i) < 2 ^ 6001 := lcm_lt (AllZ.lcm (qs.take i) 1 (fun r hr => bz r (List.mem_of_mem_take hr)) (Nat.one_dvd _)) e2
    have lt : (qs.take i).length ≤ i := by rw [List.length_take]; omega
    refine ⟨va, _, rfl, sa, rfl, _, _, rfl, _, _, rfl, rfl, _, rfl, _, rfl, lcmL 1 (qs.take i), a.den, rfl, Nat.lt_of_lt_of_le zb (Nat.pow_le_pow_right (by decide) (by decide)), Nat.lt_of_lt_of_le (bq a (List.mem_of_getElem? ea)).2 (Nat.pow_le_pow_right (by decide) (by decide)), lcmL_pos _ 1 (by decide), Nat.pos_of_ne_zero a.den_nz, rfl, some (.int a.num), some (.int (a.den : Nat)), ?_⟩
    rw [List.take_add_one, ea, lcmL_app]
    rfl
  · rintro σ H' ⟨rfl, v2, v3, rfl⟩
    rw [lx, List.take_length]
    refine ⟨_, rfl, xa, rfl, ⟨_, SqL.of hx⟩, fun D nD => ?_⟩
    have e0 := lcmL_pos qs 1 (by decide)
    have dv := (lcmL_dvd qs 1).2
    refine lc_acc (walk_list (K := K) (a := xa) (xs := xs)) (fun i _ y => ∀ a, qs[i]? = some a → y = .int (a.num * ((lcmL 1 qs : Nat) / (a.den : Nat)))) (fun i H H' y l h _ _ => h) nD (by omega) (fun H2 s => SqL.of (s _ _ hx)) ?_ ?_
    · rintro i x H2 H3 k hi s2 ⟨rfl, hx2⟩ hk
      obtain ⟨a, ea, na⟩ := nx.get hx2
      obtain ⟨va, rfl, sa, _⟩ := (na.same s2).sq
      have ba := bq a (List.mem_of_getElem? ea)
      have z : lcmL 1 qs < 2 ^ 6001 := lcm_lt (AllZ.lcm qs 1 bz (Nat.one_dvd _)) e2
      have cd : ((lcmL 1 qs : Nat) : Int) / ((a.den : Nat) : Int) = ((lcmL 1 qs / a.den : Nat) : Int) := rfl
      refine ⟨va, _, rfl, sa, rfl, _, _, rfl, _, _, rfl, rfl, rfl, _, rfl, _, rfl, _, rfl, _, _, rfl, rfl, ⟨den_ne a, Nat.lt_trans (log_bd ba.dn (by decide)) (by decide)⟩, _, _, rfl, rfl, ?_, hk _ _ (Same.refl _) fun a' ha' => ?_⟩
      · rw [Int.fdiv_eq_ediv_of_nonneg _ (by omega), cd]
        refine wide_mul ba.1 (b := 6001) ?_ (by decide) (by decide) (by decide)
        rw [Int.natAbs_natCast]
        exact Nat.lt_of_le_of_lt (Nat.div_le_self _ _) z
      · rw [ea] at ha'
        rw [← Option.some.inj ha', Int.fdiv_eq_ediv_of_nonneg _ (by omega)]
    · intro H2 zs s2 hD hl hR
      have ez : zs = (upL (lcmL 1 qs) qs).map V.int := by
        apply List.ext_getElem?
        intro i
        unfold upL
        rw [List.map_map, List.getElem?_map]
        by_cases c : i < qs.length
        · rw [List.getElem?_eq_getElem c]
          have e := List.getElem?_eq_getElem (l := zs) (i := i) (by omega)
          rw [e]
          have := hR i _ e _ (List.getElem?_eq_getElem c)
          rw [this]
          rfl
        · rw [List.getElem?_eq_none (by omega), List.getElem?_eq_none (by omega)]
          rfl
      refine ⟨_, rfl, (by show 2 ≤ sizeLine; decide), fun p np => q D p _ (s2.trans (new_same np _)) nD (new_same np _ _ _ (by rw [hD, ez])) upd_same⟩
end
end Kx
end
section
set_option maxHeartbeats 4000000
namespace Kx
open PySem PySem.Spec PyProof.Rows L2
theorem ixl_at {X : Cx} (K : PySem.W.Frag) (h : X.K = K) : IxR X (rIxL K) := by
  subst h
  exact ix_list
theorem ixt_at {X : Cx} (K : PySem.W.Frag) (h : X.K = K) : IxR X (rIxT K) := by
  subst h
  exact ix_tup
/-- the product of two lists -/
def spMulL (K : PySem.W.Frag) : Sp := fun vs H Q _ => ∃ (x y : V) (qs rs : List Rat) (b : Bs) (e g : Nat), vs = [x, y] ∧ Ls K H x qs ∧ Ls K H y rs ∧ qs.length = rs.length ∧ qs.length ≤ 30 ∧ b.m * (e + g) ≤ 6000 ∧ AllZ b e qs ∧ AllZ b g rs ∧ GivesL K H Q (mulL qs rs)
abbrev nMl : List Str := ["one", "other", "ones", "one_lower", "others", "other_lower", "found", "place", "upper", "at"]
theorem upL_len (L : Nat) (qs : List Rat) : (upL L qs).length = qs.length := List.length_map _
theorem upL_at {L : Nat} {qs : List Rat} {i : Nat} (h : i < qs.length) : ((upL L qs).map V.int)[i]? = some (.int ((upL L qs).getD i 0)) := by
  rw [List.getElem?_map, List.getElem?_eq_getElem (by rw [upL_len]; exact h), List.getD_eq_getElem?_getD, List.getElem?_eq_getElem (by rw [upL_len]; exact h)]
  rfl
theorem upL_bd {n m : Nat} {L : Nat} {qs : List Rat} (h : AllB n qs) (hL : L < 2 ^ m) (i : Nat) : ((upL L qs).getD i 0).natAbs < 2 ^ (n + m) := by
  unfold upL
  rw [List.getD_eq_getElem?_getD, List.getElem?_map]
  cases e : qs[i]? with
  | none => exact Nat.pow_pos (by decide)
  | some q =>
    refine lt_mul (h q (List.mem_of_getElem? e)).1 ?_
    have : ((L : Nat) : Int) / ((q.den : Nat) : Int) = ((L / q.den : Nat) : Int) := rfl
    rw [this, Int.natAbs_natCast]
    exact Nat.lt_of_le_of_lt (Nat.div_le_self _ _) hL
section
variable {P : Program} {w : World} {K : PySem.W.Frag} {mg : Str → Option Value} {base : Heap} {f fL o0 : Addr} {fd fdL : FuncData}
theorem scMl : FnScope nMl ["one", "other"] (defScope F_multiplied) := ⟨rfl, rfl, rfl, by decide +kernel, rfl, by decide +kernel, by decide +kernel⟩
theorem ok_multiplied (F : Fun K "multiplied" "multiplied" F_multiplied f fd) (mn : mg "len" = none) (mr : mg "range" = none) (ms : mg "sum" = none) (UO : Use P w K mg base CX0 1 "over_one_lower" ["numbers"] (spOol K) []) (UR : Use P w K mg base CX0 1 "ratio" ["upper", "lower"] spLowQ []) : FnOk P w K mg base CX0 2 f fd ["one", "other"] (spMulL K) := by
  refine F.ok scMl (fun vs H Q E h => ?_) (fun cdv A outer s H vs Q E hr h => ?_)
  · obtain ⟨x, y, qs, rs, bb, e, g, rfl, _⟩ := h
    rfl
  obtain ⟨x, y, qs, rs, bb, e, g, rfl, lx, ly, le, l1, eg, bz, cz, q⟩ := h
  have el : bb.m * e ≤ 6000 := Nat.le_trans (Nat.mul_le_mul_left _ (Nat.le_add_right e g)) eg
  have gl : bb.m * g ≤ 6000 := Nat.le_trans (Nat.mul_le_mul_left _ (Nat.le_add_left g e)) eg
  have bq : AllB 6001 qs := bz.bqn (by omega)
  have br : AllB 6001 rs := cz.bqn (by omega)
  refine ⟨_, pss_cons (ps_asg (pe_use UO hr rfl pass0 (pa_cons (pv 0) pa_nil)) (pg_tup rfl (pgs_cons (pg_name (i := 2) scMl.nd rfl (Or.inr rfl)) (pgs_cons (pg_name (i := 3) scMl.nd rfl (Or.inl rfl)) pgs_nil))))
    (pss_cons (ps_asg (pe_use UO hr rfl pass0 (pa_cons (pv 1) pa_nil)) (pg_tup rfl (pgs_cons (pg_name (i := 4) scMl.nd rfl (Or.inr rfl)) (pgs_cons (pg_name (i := 5) scMl.nd rfl (Or.inl rfl)) pgs_nil))))
    (pss_cons (ps_set (i := 6) scMl.nd rfl (Or.inl rfl) (pe_lst pa_nil))
    (pss_cons (ps_for PassesOwn.never rfl (pi_range1 rfl mr (pa_cons (pe_callB call_len_seq rfl mn PySem.boot_len (pa_cons (pv 0) pa_nil)) pa_nil)) (pg_name (i := 7) scMl.nd rfl (Or.inr rfl))
      (pss_cons (ps_set (i := 8) scMl.nd rfl (Or.inl rfl) (pe_callB (cr_sum rfl) rfl ms (by decide +kernel) (pa_cons (pe_lc (own := [("at", 9)]) (g := gName 9) (tt := tYes) rfl scMl.nd (pi_range1 rfl mr (pa_cons (pe_op op_add (pv 7) pe_int) pa_nil)) (blkOk_by (N := nMl) (sc := defScope F_multiplied) (by decide +kernel))
          (fun _ _ _ _ _ => pg_name (i := 9) scMl.nd rfl (Or.inl rfl)) (fun _ _ _ _ _ => pts_nil)
          (fun _ _ _ _ _ => pe_op op_mulW (pe_ix (ixl_at K rfl) (pv 2) (pv 9) (fun _ _ => rfl)) (pe_ix (ixl_at K rfl) (pv 4) (pe_op op_sub (pv 7) (pv 9)) (fun _ _ => rfl)))) pa_nil)))
      (pss_one (ps_expr (pe_bm PySem.F.plainAttrs_list PySem.F.slot_list_append PySem.F.type_list_append mt_append (pv 6) (pa_cons (pe_use UR hr rfl pass0 (pa_cons (pv 8) (pa_cons (pe_op op_mulW (pv 3) (pv 5)) pa_nil))) pa_nil))))))
    (pss_one (ps_ret (pv 6)))))), ?_⟩
  refine ⟨_, rfl, x, qs, bb, e, rfl, lx, by omega, el, bz, fun b1 p1 H1 s1 n1 e1 t1 => ?_⟩
  refine ⟨p1, _, rfl, SqT.of t1, rfl, _, _, rfl, _, _, rfl, rfl, ?_⟩
  refine ⟨_, rfl, y, rs, bb, g, rfl, ly.same s1, by omega, gl, cz, fun b2 p2 H2 s2 n2 e2 t2 => ?_⟩
  refine ⟨p2, _, rfl, SqT.of t2, rfl, _, _, rfl, _, _, rfl, rfl, ?_⟩
  have lx2 := (lx.same s1).same s2
  obtain ⟨xa, xs, rfl, hx, nx⟩ := lx2
  have hl : xs.length = qs.length := nx.1
  have f1 := s2 _ _ e1
  have s12 := s1.trans s2
  clear s1 s2 t1 t2 e1 n1 n2 lx ly nx
  refine ⟨(by show 0 ≤ sizeLine; decide), fun fb nf => ?_⟩
  have sf := new_same nf (HO.lst [])
  have Lp := lcmL_pos qs 1 (by decide)
  have Mp := lcmL_pos rs 1 (by decide)
  have Lb : lcmL 1 qs < 2 ^ 6001 := lcm_lt (AllZ.lcm qs 1 bz (Nat.one_dvd _)) el
  have Mb : lcmL 1 rs < 2 ^ 6001 := lcm_lt (AllZ.lcm rs 1 cz (Nat.one_dvd _)) gl
  have LMb : lcmL 1 qs * lcmL 1 rs < 2 ^ 6001 := lcm_lt (by rw [Nat.pow_add]; exact Nat.mul_dvd_mul (AllZ.lcm qs 1 bz (Nat.one_dvd _)) (AllZ.lcm rs 1 cz (Nat.one_dvd _))) eg
  have dL := (lcmL_dvd qs 1).2
  have dM := (lcmL_dvd rs 1).2
  generalize lcmL 1 qs = L at *
  generalize lcmL 1 rs = M at *
  refine ⟨_, rfl, xa, xs, rfl, .inl (SqL.of (sf _ _ hx)), ?_⟩
  refine ⟨_, rfl, by omega, by omega, for_range (lo := 0) (n := (((xs.length : Nat) : Int)).toNat) (fun i σ H' => Same H2 H' ∧ (∃ v7 v8, σ = [some (.ref xa), some y, some (.ref b1), some (.int (L : Nat)), some (.ref b2), some (.int (M : Nat)), some (.ref fb), v7, v8, none]) ∧ ∃ zs, H' fb = some (.lst zs) ∧ Nl K H' zs ((List.range i).map (cnv qs rs))) ⟨sf, ⟨none, none, rfl⟩, [], upd_same, Nl.nil⟩ ?_ ?_⟩
  · rintro i σ H3 hi ⟨s3, ⟨v7, v8, rfl⟩, zs, hz, nz⟩
    rw [Int.toNat_natCast] at hi
    have g1 := s3 _ _ f1
    have g2 := s3 _ _ e2
    have zl : zs.length = i := by rw [nz.1, List.length_map, List.length_range]
    refine ⟨_, rfl, (0 + (i : Int)), 1, rfl, rfl, _, rfl, by omega, by omega, fun D nD => ?_⟩
    refine lc_acc (walk_range (lo := 0) (n := (0 + (i : Int) + 1).toNat)) (fun j _ v => v = .int ((upL L qs).getD j 0 * (upL M rs).getD (i - j) 0)) (fun j H H' v l h _ _ => h) nD (by omega) (fun _ _ => trivial) ?_ ?_
    · rintro j v H4 H5 k hj s4 ⟨rfl, rfl⟩ hk
      have hj' : j < i + 1 := by omega
      refine ⟨rfl, _, rfl, _, rfl, b1, _, (0 + (j : Int)), _, rfl, rfl, SqL.of (s4 _ _ g1), at_of (j := j) (by omega) (upL_at (by omega)), _, rfl, _, rfl, _, rfl, (0 + (i : Int)), (0 + (j : Int)), rfl, rfl, b2, _, _, _, rfl, rfl, SqL.of (s4 _ _ g2), at_of (j := i - j) (by omega) (upL_at (by omega)), _, _, rfl, rfl, ?_, hk _ _ (Same.refl _) rfl⟩
      exact wide_mul (upL_bd bq Lb j) (upL_bd br Mb (i - j)) (by decide) (by decide) (by decide)
    · intro H4 ys s4 hD hyl hR
      have ey : ys = (pds (upL L qs) (upL M rs) i (i + 1)).map V.int := by
        apply List.ext_getElem?
        intro j
        unfold pds
        rw [List.map_map, List.getElem?_map]
        by_cases c : j < i + 1
        · rw [List.getElem?_range c]
          have e := List.getElem?_eq_getElem (l := ys) (i := j) (by omega)
          rw [e, hR j _ e]
          rfl
        · rw [List.getElem?_eq_none (by omega), List.getElem?_eq_none (by rw [List.length_range]; omega)]
          rfl
      refine ⟨D, _, rfl, SqL.of (by rw [hD, ey]), ?_⟩
      refine ⟨_, rfl, .inl ⟨rfl, _, SqL.of (s4 _ _ hz)⟩, _, rfl, _, rfl, _, rfl, (L : Nat), (M : Nat), rfl, rfl, ?_, ?_⟩
      · exact wide_mul (a := 6001) (b := 6001) (by rw [Int.natAbs_natCast]; exact Lb) (by rw [Int.natAbs_natCast]; exact Mb) (by decide) (by decide) (by decide)
      · refine ⟨_, _, rfl, Int.mul_ne_zero (by omega) (by omega), Nat.lt_trans (log_bd (n := 6001) (by rw [← Int.natCast_mul, Int.natAbs_natCast]; exact LMb) (by decide)) (by decide), fun t H5 s5 n5 e5 => ?_⟩
        rw [cnv_ratio dL dM Lp Mp] at e5
        have hz5 := s5 _ _ (s4 _ _ hz)
        refine ⟨fb, zs, _, rfl, rfl, hz5, small1000 (by omega), ?_, ⟨_, _, rfl⟩, zs ++ [.ref t], upd_same, ?_⟩
        · intro b o hb
          have nb : b ≠ fb := fun z => by rw [z, nf] at hb; cases hb
          rw [upd_ne nb]
          exact s5 _ _ (s4 _ _ (s3 _ _ hb))
        · have nz5 := (nz.same s4).same s5
          have nb : Nl K H5 (zs ++ [.ref t]) ((List.range (i + 1)).map (cnv qs rs)) := by
            rw [List.range_succ, List.map_append]
            exact nz5.snoc (.at e5)
          exact ⟨nb.1, fun j x r h1 h2 => (nb.2 j x r h1 h2).butL hz5 (fun b o n h => by rw [upd_ne n]; exact h)⟩
  · rintro σ H3 ⟨s3, ⟨v7, v8, rfl⟩, zs, hz, nz⟩
    rw [Int.toNat_natCast, hl] at nz
    exact ⟨_, rfl, q fb H3 zs (s12.trans s3) (s12.free nf) hz nz⟩
end
end Kx
end
section
set_option maxHeartbeats 4000000
namespace PySem
namespace Xv
open PySem.W PySem.Calls PyProof.Rows PySem.HandSPX
section
variable {prog : Program} {w : World} {A : Around} {E : Value → Shared → Prop} {R : Result → Shared → Prop} {h : Heap} {g : Array GenState} {d : Drawn} {t : Nat} {os : OsState}
variable {nm q : Str} {C N : Addr} {bs bm mb : List Value} {hdct : Bool} {sn : List Str} {sub : List Value} {ab : Bool} {col : Option Bool} {dd : Option Addr} {k0 k1 k2 k3 k5 : Option Value} {B newId initId : String}
variable {kw : List (Str × Value)} {rest : List Value}

theorem chkNew {M : Model} (F : ExcBaseFacts B newId initId mb) (hT : ∀ Z : String, bm.contains (.type Z) = mb.contains (.type Z)) {Q : Unit → Shared → Prop}
    (hC : h.get? C = some (excClassObj nm q C N bs bm hdct sn sub ab col dd k0 k1 k2 k3 k5 newId)) (z : Q () ⟨h, g, d, t, os⟩) :
    wpAny M A (checkBuiltinCall newId ⟨.ref C :: rest, kw⟩) Q E ⟨h, g, d, t, os⟩ := by
  have h1 : (Value.ref C :: bm).contains (.type B) = true := by rw [List.contains_cons, hT, F.hasB]; simp
  have h2 := F.noStar
  simp only [checkBuiltinCall, F.newKind, F.newSplit, F.newRow]
  repeat (first | refine wpAny_loadPart_at hC ?_ | (refine wpAny_isSubtype_exc hC ?_; rw [h1]) | refine wpAny_staticBase_exc hC ?_ | refine wpAny_madeBy_exc hC ?_ | simp only [bne_self_eq_false, Bool.false_eq_true, if_false] | wp_step)
  exact z
theorem newAt (F : ExcBaseFacts B newId initId mb) (hT : ∀ Z : String, bm.contains (.type Z) = mb.contains (.type Z))
    (hC : h.get? C = some (excClassObj nm q C N bs bm hdct sn sub ab col dd k0 k1 k2 k3 k5 newId)) (hl : rest.length ≤ sizeLine)
    (z : R (.ok (.ret (.ref (h.objs.size + 1)))) ⟨(h.push (W.kdv_tup rest)).push (excO C h.objs.size), g, d, t, os⟩) :
    codeAny (model prog w) A (.builtin newId ⟨.ref C :: rest, kw⟩) R ⟨h, g, d, t, os⟩ := by
  have e0 := F.ends
  have e1 : (Value.ref C :: bm).contains (.type B) = true := by rw [List.contains_cons, hT, F.hasB]; simp
  have e2 : (Value.ref C :: bm).contains (.type "AttributeError") = false := by rw [List.contains_cons, hT, F.noAttr]; exact rfl
  have e3 : (Value.ref C :: bm).contains (.type "NameError") = false := by rw [List.contains_cons, hT, F.noName]; exact rfl
  refine codeAny_builtinAt F.entry ?_
  unfold Builtin.«BaseException.__new__»
  refine wpAt_bind ?_
  show wpAt _ _ _ (stack >>= _) _ _ _
  refine wpAt_bind (wpAt_stack fun p below => wpAt_of_wpAny ?_)
  wp_walk
  refine wpAt_of_wpAny ?_
  rw [F.owner]
  repeat (first | (with_reducible refine wpAny_isSubtype_exc hC ?_; first | rw [e1] | rw [e2] | rw [e3]) | with_reducible refine wpAny_madeHere_exc F.canon hC ?_ | with_reducible refine wpAny_loadPart_at hC ?_ | wp_step)
  show R _ _
  rw [Heap.size_push]
  exact z
theorem callAt (F : ExcBaseFacts B newId initId mb) (hT : ∀ Z : String, bm.contains (.type Z) = mb.contains (.type Z)) {fI : Addr} {Q : Fin → Shared → Prop}
    (hC : h.get? C = some (excClassObj nm q C N bs bm hdct sn sub ab col dd k0 k1 k2 k3 k5 newId))
    (hi : W.Looks (model prog w) h (typeLookup (.ref C) "__init__") (some (.ref fI))) (hb : ∀ self, W.Looks (model prog w) h (bindSpecial (.ref fI) self) (.ref fI, [self])) (hl : rest.length ≤ sizeLine)
    (z : codeAny (model prog w) A (.call (.ref fI) ⟨.ref (h.objs.size + 1) :: rest, kw⟩)
      (fun r s' => match r with | .ok (.ret v) => v = .none ∧ Q (.done (.ret (.ref (h.objs.size + 1)))) s' | .ok _ => False | .error e => E e s')
      ⟨(h.push (W.kdv_tup rest)).push (excO C h.objs.size), g, d, t, os⟩) :
    wpAny (model prog w) A (Builtin.«type.__call__» ⟨.ref C :: rest, kw⟩) Q E ⟨h, g, d, t, os⟩ := by
  repeat (first | with_reducible refine wpAny_madeBy_exc hC ?_ | with_reducible refine wpAny_loadPart_at hC ?_ | wp_step)
  refine codeAny_call_builtin_code (Code.quiet_builtin _ F.quiet) (chkNew F hT hC (newAt F hT hC hl ?_))
  show wpAny _ _ _ _ _ _
  have k : ∀ b o, h.get? b = some o → ((h.push (W.kdv_tup rest)).push (excO C h.objs.size)).get? b = some o := fun b o y => Heap.get?_push_of_some _ (Heap.get?_push_of_some _ y)
  have hC' := k _ _ hC
  have hg : ((h.push (W.kdv_tup rest)).push (excO C h.objs.size)).get? (h.objs.size + 1) = some (excO C h.objs.size) := by heap_get
  have cc : (Value.ref C :: bm).contains (.ref C) = true := by simp
  have i1 := hi.keeps k
  have b1 := (hb (.ref (h.objs.size + 1))).keeps k
  unfold isInstance
  repeat (first | (with_reducible refine wpAny_isSubtype_exc hC' ?_; rw [cc]) | with_reducible refine wpAny_loadPart_at hg ?_ | wp_step)
  show wpAny _ _ (typeLookup (.ref C) _) _ _ _
  refine i1.at (wpAny_holding (wpAny_bind (b1.at ?_)))
  refine wpAny_bind (wpAny_call (codeAny_mono z fun r s' y => ?_))
  rcases r with e | (v | _ | _ | _) <;> first | exact y | exact y.elim | skip
  obtain ⟨rfl, y⟩ := y
  first
    | exact wpAny_pure (wpAny_pure y)
    | (wp_walk; exact y)
theorem chkCall {M : Model} {Q : Unit → Shared → Prop} (hC : h.get? C = some (excClassObj nm q C N bs bm hdct sn sub ab col dd k0 k1 k2 k3 k5 newId))
    (z : Q () ⟨h, g, d, t, os⟩) : wpAny M A (checkBuiltinCall "type.__call__" ⟨.ref C :: rest, kw⟩) Q E ⟨h, g, d, t, os⟩ := by
  have f3 := tc_sub
  have hty : (⟨h, g, d, t, os⟩ : Shared).TypeIs (.ref C) "type" := ⟨_, hC, rfl⟩
  simp only [checkBuiltinCall, tc_kind, tc_split]
  repeat (any_goals (first | assumption | with_reducible refine wpAny_onRaise ?_ | with_reducible refine wpAny_loadPart_at hC ?_ | with_reducible refine wpAny_map ?_ | wp_step))
/-- an own exception class with its own __init__ is called, with keywords or without -/
theorem callK (F : ExcBaseFacts B newId initId mb) (hT : ∀ Z : String, bm.contains (.type Z) = mb.contains (.type Z)) {fI : Addr}
    (hC : h.get? C = some (excClassObj nm q C N bs bm hdct sn sub ab col dd k0 k1 k2 k3 k5 newId))
    (hi : W.Looks (model prog w) h (typeLookup (.ref C) "__init__") (some (.ref fI))) (hb : ∀ self, W.Looks (model prog w) h (bindSpecial (.ref fI) self) (.ref fI, [self])) (hl : rest.length ≤ sizeLine)
    (z : codeAny (model prog w) (A.under (.builtin "type.__call__" ⟨.ref C :: rest, kw⟩)) (.call (.ref fI) ⟨.ref (h.objs.size + 1) :: rest, kw⟩) (W.InitBack (h.objs.size + 1) R)
      ⟨(h.push (W.kdv_tup rest)).push (excO C h.objs.size), g, d, t, os⟩) :
    codeAny (model prog w) A (.call (.ref C) ⟨rest, kw⟩) R ⟨h, g, d, t, os⟩ := by
  have f1 := tc_lookup
  have f2 := tc_bind (.ref C)
  have hty : (⟨h, g, d, t, os⟩ : Shared).TypeIs (.ref C) "type" := ⟨_, hC, rfl⟩
  refine codeAny_of_tree ?_
  show wpAny _ _ (callAny (.ref C) _) _ _ _
  repeat (any_goals (first | assumption | with_reducible refine wpAny_loadPart_at hC ?_ | wp_step))
  refine ⟨rfl, ?_⟩
  refine codeAny_call_builtin_at (Code.quiet_builtin _ (by decide +kernel)) entry_typeCall (chkCall hC (callAt F hT hC hi hb hl ?_))
  refine codeAny_mono z fun r s' y => ?_
  rcases r with e | (v | _ | _ | _) <;> exact y
end
end Xv
end PySem
end
section
set_option maxHeartbeats 4000000
namespace L2
open PySem PySem.Spec PyProof.Rows Builtin.ObjectAttr
/-- what the written part says of an own exception class at C, so that its objects may be made, filled, read and asked -/
structure XC (K : PySem.W.Frag) (C : Addr) : Prop where
  base : ∃ B newId initId mb, ExcBaseFacts B newId initId mb ∧ StoreFacts B mb "object.__setattr__" "object" ∧ PySem.W.excInitIn K C mb newId = true ∧ PySem.W.excOver K C mb = true
  cl : (PySem.W.clsIn K C).isSome = true
  hd : PySem.W.hasDictIn K C = true
  sa : PySem.W.findIn K (.ref C) "__setattr__" = some (some (.builtin "object.__setattr__"))
  ga : PySem.W.findIn K (.ref C) "__getattribute__" = some (some (.builtin "BaseException.__getattribute__"))
  gg : PySem.W.findIn K (.ref C) "__getattr__" = some none
  ex : PySem.W.subIn K (.ref C) (.type "BaseException") = some true
  ha : PySem.W.findIn K (.ref C) "__class__" = some (some (.builtin "object.__class__"))
  hn : PySem.W.specialIn K (.builtin "object.__class__") "__get__" = some (some (.builtin "getset_descriptor.__get__"))
  ht : PySem.W.takesIn K (.builtin "object.__class__") = some true
  hm : PySem.W.mroIn K C (.type "object") = some true
  kC : PySem.W.keepIn K (.ref C) = true
def free3 (H H' : Hp) (a d : Addr) : Prop := ∀ b, b ≠ a → b ≠ d → H' b = H b
section
variable {X : Cx} {pins : List (Addr × Obj)} {σ : St} {H : Hp} {s : Shared} {a C dx : Addr} {f : Str} {y : V} {u : Value} {fs : List (Str × V)} {Q : Unit → Shared → Prop} {E : Value → Shared → Prop} {A : Around}
theorem taker_none {K : PySem.W.Frag} (h : PySem.W.findIn K (.ref C) f = some none) : PySem.W.takerIn K C f = some none := by
  unfold PySem.W.takerIn
  rw [h]
  rfl
theorem xst_new (T : XC X.K C) (I : Inv X pins σ H s) (e : H a = some (exo a C none)) (hno : PySem.W.findIn X.K (.ref C) f = some none) (ry : RelV y u)
    (h : ∀ d s' H', d ≠ a → H d = none → H' a = some (exo a C (some d)) → H' d = some (exd d [(f, y)]) → free3 H H' a d → Inv X pins σ H' s' → Q () s') : wpAny (model X.prog X.w) A (setAttr (.ref a) f u) Q E s := by
  obtain ⟨B, nid, iid, mb, FB, SF, q1, q2⟩ := T.base
  obtain ⟨t1, ho⟩ := exo_at I.hok e
  obtain ⟨cd, hc, hd'⟩ := PySem.W.any_some T.hd
  obtain ⟨hp, g, dr, t, os⟩ := s
  refine PySem.W.set_plain I.kIn (od := none) ⟨ho, rfl, rfl, trivial⟩ T.sa (PySem.W.osa_openX (od := none) SF I.kIn ⟨ho, rfl, rfl, trivial⟩ q2 (taker_none hno) fun b => ?_)
  have na : a ≠ hp.objs.size := Nat.ne_of_lt (Heap.lt_size ho)
  refine wpAny_bind (wpAny_pure (wpAny_bind (PySem.W.instanceDict_exc (c2 := .none) (t := t1) ho (PySem.W.looks_clsIn I.kIn hc) hd' ?_)))
  have hfr : H hp.objs.size = none := I.hok.fresh (Nat.le_refl _)
  have hget : (hp.push (PySem.W.dictOf [] 0)).get? hp.objs.size = some (PySem.W.dictOf [] 0) := Heap.get?_push_size _ rfl
  have en : (hp.push (PySem.W.dictOf [] 0)).Ns1 hp.objs.size (fun _ => none) := Heap.Ns1.of_empty ⟨_, #[], _, hget, rfl, fun e he => absurd he (by simp), fun _ => rfl⟩
  have I1 : Inv X pins σ (upd H hp.objs.size (exd hp.objs.size [])) ⟨hp.push (PySem.W.dictOf [] 0), g, dr, t, os⟩ := I.laid (a := hp.objs.size) (o := exd hp.objs.size []) (h' := hp.push (PySem.W.dictOf [] 0)) (t' := t) (fun b o z => Heap.get?_push_of_some _ z) (Nat.le_refl _) (exd_ok en fun _ => True.intro)
  have hxa : ((hp.push (PySem.W.dictOf [] 0)).update a fun o => { o with dict := some hp.objs.size }).get? a = some ({ cls := .ref C, dict := some hp.objs.size, data := .fields #[.ref t1, .none, .none, .none, .bool false, .none] } : Obj) :=
    Heap.get?_update_self _ (Heap.get?_push_of_some _ ho) rfl
  have I2 : Inv X pins σ (upd (upd H hp.objs.size (exd hp.objs.size [])) a (exo a C (some hp.objs.size))) ⟨(hp.push (PySem.W.dictOf [] 0)).update a fun o => { o with dict := some hp.objs.size }, g, dr, t, os⟩ :=
    I1.write (x := a) (e := a) (o := exo a C (some hp.objs.size)) (t' := t) (h' := (hp.push (PySem.W.dictOf [] 0)).update a fun o => { o with dict := some hp.objs.size }) (by rw [upd_ne na, e]; exact True.intro) (.inl rfl)
      (fun b o hb z => (Heap.get?_update_ne _ _ _ _ hb).trans z) ⟨_, hxa⟩ (exo_ok hxa)
  have ed : (upd (upd H hp.objs.size (exd hp.objs.size [])) a (exo a C (some hp.objs.size))) hp.objs.size = some (exd hp.objs.size []) := by rw [upd_ne (Ne.symm na), upd_same]
  obtain ⟨mA, hns, rel⟩ := exd_at I2.hok ed
  show wpAny _ _ (storeInDict hp.objs.size (.str f _) f u) _ _ _
  refine PySem.OEX.store_in_old hns (within_of rel) (by simp) fun h' tk' hn' hs => ?_
  have I3 := I2.write (x := hp.objs.size) (e := hp.objs.size) (o := exd hp.objs.size [(f, y)]) (t' := tk') (h' := h') (by rw [ed]; exact True.intro) (.inl rfl) (fun b o hb z => (hs.2 b hb).trans z)
    (by obtain ⟨o, _, _, z, _⟩ := hn'; exact ⟨o, z⟩) (exd_ok hn' (relO_put ry rel))
  exact h hp.objs.size _ _ (Ne.symm na) hfr (by rw [upd_ne na, upd_same]) upd_same (fun b h1 h2 => by rw [upd_ne h2, upd_ne h1, upd_ne h2]) I3
theorem xst_old (T : XC X.K C) (I : Inv X pins σ H s) (e : H a = some (exo a C (some dx))) (ed : H dx = some (exd dx fs)) (hl : fs.length ≤ 900) (hno : PySem.W.findIn X.K (.ref C) f = some none) (ry : RelV y u)
    (h : ∀ s', Inv X pins σ (upd H dx (exd dx ((f, y) :: fs))) s' → Q () s') : wpAny (model X.prog X.w) A (setAttr (.ref a) f u) Q E s := by
  obtain ⟨B, nid, iid, mb, FB, SF, q1, q2⟩ := T.base
  obtain ⟨t1, ho⟩ := exo_at I.hok e
  obtain ⟨mA, hns, rel⟩ := exd_at I.hok ed
  have hw := within_of rel
  obtain ⟨cd, hc, hd'⟩ := PySem.W.any_some T.hd
  obtain ⟨hp, g, dr, t, os⟩ := s
  obtain ⟨oD, esD, epD, hoD, hdD, _⟩ := hns.count hw
  refine PySem.W.set_plain I.kIn (od := some oD) ⟨ho, rfl, rfl, hoD⟩ T.sa (PySem.W.osa_openX (od := some oD) SF I.kIn ⟨ho, rfl, rfl, hoD⟩ q2 (taker_none hno) fun b => ?_)
  refine wpAny_bind (wpAny_pure (wpAny_bind (wpAny_bind (wpAny_loadPart ho (wpAny_bind (PySem.W.Looks.at (M := model X.prog X.w) (PySem.W.looks_clsIn I.kIn hc) ?_))))))
  rw [hd']
  refine wpAny_pure (a := some dx) ?_
  show wpAny _ _ (storeInDict dx (.str f _) f u) _ _ _
  refine PySem.OEX.store_in_old hns hw (by rw [List.length_map]; omega) fun h' tk' hn' hs => ?_
  exact h _ (I.write (x := dx) (e := dx) (o := exd dx ((f, y) :: fs)) (t' := tk') (h' := h') (by rw [ed]; exact True.intro) (.inl rfl) (fun b o hb z => (hs.2 b hb).trans z)
    (by obtain ⟨o, _, _, z, _⟩ := hn'; exact ⟨o, z⟩) (exd_ok hn' (relO_put ry rel)))
end
end L2
namespace L2
open PySem PySem.Spec PyProof.Rows Builtin.ObjectAttr
/-- self.f = e, self an exception that is being made -/
def tXst (K : PySem.W.Frag) (f : Str) (to te : TE) : TS := fun D σ H => te σ H fun y H1 => to σ H1 fun x H2 => ∃ a C : Addr, x = .ref a ∧ XC K C ∧ PySem.W.findIn K (.ref C) f = some none ∧
  ((H2 a = some (exo a C none) ∧ ∀ d H3, d ≠ a → H2 d = none → H3 a = some (exo a C (some d)) → H3 d = some (exd d [(f, y)]) → free3 H2 H3 a d → D.nx σ H3) ∨
    ∃ (d : Addr) (fs : List (Str × V)), H2 a = some (exo a C (some d)) ∧ H2 d = some (exd d fs) ∧ fs.length ≤ 900 ∧ D.nx σ (upd H2 d (exd d ((f, y) :: fs))))
section
variable {X : Cx} {o e : Expr} {to te : TE} {f : Str} {p' pos : Pos}
theorem ps_xst (ho : PE X o to) (he : PE X e te) (hs : swapsWith e (some (.Attribute o f p')) pos.line X.env = pure false := by rfl) : PS X (.Assign [.Attribute o f p'] e pos) (tXst X.K f to te) := by
  refine ⟨fun pins s σ H D I h => ?_⟩
  refine plainObj_wpAny_Assign_Attribute (thn (he.run pins s σ H _ I h) fun v s1 hv => ?_) hs
  obtain ⟨y, H1, I1, r1, q1⟩ := hv
  refine thn (ho.run pins s1 σ H1 _ I1 q1) fun u s2 hu => ?_
  obtain ⟨x, H2, I2, r2, a, C, ex, T, hno, q⟩ := hu
  subst ex
  obtain rfl : u = Value.ref a := r2
  rcases q with ⟨ea, q⟩ | ⟨d, fs, ea, ed, hl, q⟩
  · exact xst_new T I2 ea hno r1 fun d s' H' n1 n2 z1 z2 z3 J => ⟨σ, H', J, q d H' n1 n2 z1 z2 z3⟩
  · exact xst_old T I2 ea ed hl hno r1 fun s' J => ⟨σ, _, J, q⟩
end
/-- C(e, .., k = v, ..) as a value; sp is what C's own __init__ promises -/
def tXmk (C : Addr) (n m : Nat) (sp : Sp) (gV : List V → List V → List V) (t tk : TA) : TE := fun σ H Q => t σ H fun vs H1 => tk σ H1 fun zs H2 => vs.length = n ∧ zs.length = m ∧
  ∀ a, H2 a = none → sp (gV (.ref a :: vs) zs) (upd H2 a (exo a C none)) (fun v H3 => v = .non ∧ Q (.ref a) H3) (fun _ _ _ => False)
section
variable {X : Cx} {CX : CXT} {k n : Nat} {C fI : Addr} {fd : FuncData} {ps ks : List Str} {sp : Sp} {x : Str} {p pos : Pos} {e : Expr} {es : List Expr} {kws : List Keyword} {t tk : TA} {g : List Value → List Value → List Value} {gV : List V → List V → List V}
theorem run_xmk {pins : List (Addr × Obj)} {σ : St} {H : Hp} {s : Shared} {Q : VK} {us ws : List Value} {vs zs : List V} (T : XC X.K C) (iC : PySem.W.findIn X.K (.ref C) "__init__" = some (some (.ref fI))) (tI : PySem.W.isFn X.K (.ref fI) = true)
    (F : FnOk X.prog X.w X.K X.mg X.base CX k fI fd ps sp) (hr : Room (k + 1) X.A) (hb : KBn X.K fd ps (n + 1) ks g gV) (hx : Passes CX X (fun _ _ _ => False)) (I : Inv X pins σ H s) (r : Vals vs us) (rz : Vals zs ws) (l1 : vs.length = n) (l2 : zs.length = ks.length) (l3 : n ≤ 1000)
    (h : ∀ a, H a = none → sp (gV (.ref a :: vs) zs) (upd H a (exo a C none)) (fun v H3 => v = .non ∧ Q (.ref a) H3) (fun _ _ _ => False)) :
    wpAny (model X.prog X.w) X.A (call (.ref C) us (ks.zip ws)) (EP X pins σ Q) X.xe s := by
  obtain ⟨B, nid, iid, mb, FB, SF, q1, q2⟩ := T.base
  obtain ⟨nm, N, qn, bs, bm, hdct, sn, sub, ab, col, dd, k0, k1, k2, k3, k5, hC, hT⟩ := PySem.W.excInit_of I.kIn q1
  obtain ⟨oI, hoI, hcI⟩ : ∃ oI, s.heap.get? fI = some oI ∧ oI.cls = .type "function" := by
    obtain ⟨o, ho, hc⟩ := Option.map_eq_some_iff.mp (show (X.K.lookup fI).map (·.cls) = some (.type "function") from beq_iff_eq.mp tI)
    exact ⟨o, I.kIn _ _ ho, hc⟩
  obtain ⟨hp, gn, dr, tc, os⟩ := s
  have hsz : hp.objs.size ≤ hp.objs.size + 1 := Nat.le_succ _
  have hn : H (hp.objs.size + 1) = none := I.hok.fresh hsz
  have hq := h (hp.objs.size + 1) hn
  have kk : ∀ b o, hp.get? b = some o → ((hp.push (PySem.W.kdv_tup us)).push (PySem.HandSPX.excO C hp.objs.size)).get? b = some o := fun b o z => Heap.get?_push_of_some _ (Heap.get?_push_of_some _ z)
  have hget : ((hp.push (PySem.W.kdv_tup us)).push (PySem.HandSPX.excO C hp.objs.size)).get? (hp.objs.size + 1) = some (PySem.HandSPX.excO C hp.objs.size) := by heap_get
  have I2 : Inv X pins σ (upd H (hp.objs.size + 1) (exo (hp.objs.size + 1) C none)) ⟨(hp.push (PySem.W.kdv_tup us)).push (PySem.HandSPX.excO C hp.objs.size), gn, dr, tc, os⟩ :=
    I.laid (t' := tc) (a := hp.objs.size + 1) (o := exo (hp.objs.size + 1) C none) (h' := (hp.push (PySem.W.kdv_tup us)).push (PySem.HandSPX.excO C hp.objs.size)) kk hsz (exo_ok hget)
  have r1 : Vals (V.ref (hp.objs.size + 1) :: vs) (Value.ref (hp.objs.size + 1) :: us) := .cons rfl r
  have e1 : (Value.ref (hp.objs.size + 1) :: us).length = n + 1 := r1.length.symm.trans (congrArg Nat.succ l1)
  have e2 : ws.length = ks.length := rz.length.symm.trans l2
  have hus : us.length ≤ sizeLine := by
    rw [← r.length, sizeLine_eq]
    omega
  refine wpAny_call (PySem.Xv.callK FB hT hC (PySem.W.looks_findIn I.kIn iC) (fun self => PySem.W.exc_bind hoI hcI self) hus
    (codeAny_mono (F.run _ X.stack _ _ ⟨Value.ref (hp.objs.size + 1) :: us, ks.zip ws⟩ (g (Value.ref (hp.objs.size + 1) :: us) ws) _ _ (fun _ _ _ => False) (hr.make C us (ks.zip ws)) (I2.env0.make C us (ks.zip ws)) (hb.to _ (Value.ref (hp.objs.size + 1) :: us) ws I2.kIn e1 e2) (hb.rel r1 rz) hq) fun r s' hq' => ?_))
  cases r with
  | error er => exact hx pins σ _ _ er s' I2 hq'
  | ok fl =>
    cases fl with
    | ret u =>
      obtain ⟨v, H', I3, rv, ev, q3⟩ := I2.after hq'
      subst ev
      exact ⟨rv, V.ref (hp.objs.size + 1), H', I3, rfl, q3⟩
    | next => exact hq'.elim
    | brk => exact hq'.elim
    | cont => exact hq'.elim
/-- positional values (one or more), keywords -/
theorem pe_xmk (T : XC X.K C) (iC : PySem.W.findIn X.K (.ref C) "__init__" = some (some (.ref fI))) (tI : PySem.W.isFn X.K (.ref fI) = true) (F : FnOk X.prog X.w X.K X.mg X.base CX k fI fd ps sp) (hr : Room (k + 1) X.A) (hg : Gl X x) (hm : X.mg x = some (.ref C)) (hb : KBn X.K fd ps (n + 1) ks g gV) (hx : Passes CX X (fun _ _ _ => False)) (l3 : n ≤ 1000)
    (ha : PA X (e :: es) t) (hkw : PK X kws tk) (hall : (backToKw pos (keywordEach kws X.env)).all (·.1.isSome) = true := by rfl) (hks : (backToKw pos (keywordEach kws X.env)).filterMap (·.1) = ks := by rfl)
    (hdb : (x == ("__debug__" : Str)) = false := by decide) (he : starEach (e :: es) X.env = (false, eval e X.env) :: starEach es X.env := by rfl)
    (hpl : ((backTo pos (starEach (e :: es) X.env)).any (·.1) || (backToKw pos (keywordEach kws X.env)).any (·.1.isNone)) = false := by rfl) :
    PE X (.Call (.Name x p) (e :: es) kws pos) (tXmk C n ks.length sp gV t tk) := by
  refine ⟨fun pins s σ H Q I h => wpAny_Call_Name_kw (ld_glob I hg hm ?_ hdb)⟩
  refine PySem.W.callWith_KW (h₀ := X.base) I.ok.mod.kin T.kC hall (thn (ha.run pos pins s σ H _ I h) fun us s1 hu => ?_) hpl he
  obtain ⟨vs, H1, I1, r, q⟩ := hu
  refine thn (hkw.run pos pins s1 σ H1 _ I1 q) fun ws s2 hw => ?_
  obtain ⟨zs, H2, I2, rz, l1, l2, q2⟩ := hw
  refine ⟨I2.kIn, ?_⟩
  rw [hks]
  exact run_xmk T iC tI F hr hb hx I2 r rz l1 l2 l3 q2
/-- keywords alone -/
theorem pe_xmkK (T : XC X.K C) (iC : PySem.W.findIn X.K (.ref C) "__init__" = some (some (.ref fI))) (tI : PySem.W.isFn X.K (.ref fI) = true) (F : FnOk X.prog X.w X.K X.mg X.base CX k fI fd ps sp) (hr : Room (k + 1) X.A) (hg : Gl X x) (hm : X.mg x = some (.ref C)) (hb : KBn X.K fd ps 1 ks g gV) (hx : Passes CX X (fun _ _ _ => False))
    (hkw : PK X kws tk) (hall : (backToKw pos (keywordEach kws X.env)).all (·.1.isSome) = true := by rfl) (hks : (backToKw pos (keywordEach kws X.env)).filterMap (·.1) = ks := by rfl)
    (hdb : (x == ("__debug__" : Str)) = false := by decide) (hpl : ((backTo pos (starEach [] X.env)).any (·.1) || (backToKw pos (keywordEach kws X.env)).any (·.1.isNone)) = false := by rfl) :
    PE X (.Call (.Name x p) [] kws pos) (tXmk C 0 ks.length sp gV tNil tk) := by
  refine ⟨fun pins s σ H Q I h => wpAny_Call_Name_kw (ld_glob I hg hm ?_ hdb)⟩
  refine PySem.W.callWith_KW0 (h₀ := X.base) I.ok.mod.kin T.kC hall ?_ hpl
  refine thn (hkw.run pos pins s σ H _ I h) fun ws s2 hw => ?_
  obtain ⟨zs, H2, I2, rz, l1, l2, q2⟩ := hw
  refine ⟨I2.kIn, ?_⟩
  rw [hks]
  exact run_xmk (us := []) T iC tI F hr hb hx I2 .nil rz rfl l2 (by decide) q2
/-- one value or more, no keyword -/
theorem pe_xmkP (T : XC X.K C) (iC : PySem.W.findIn X.K (.ref C) "__init__" = some (some (.ref fI))) (tI : PySem.W.isFn X.K (.ref fI) = true) (F : FnOk X.prog X.w X.K X.mg X.base CX k fI fd ps sp) (hr : Room (k + 1) X.A) (hg : Gl X x) (hm : X.mg x = some (.ref C)) (hb : KBn X.K fd ps (n + 1) [] g gV) (hx : Passes CX X (fun _ _ _ => False)) (l3 : n ≤ 1000)
    (ha : PA X (e :: es) t) (hdb : (x == ("__debug__" : Str)) = false := by decide) (he : starEach (e :: es) X.env = (false, eval e X.env) :: starEach es X.env := by rfl) (hpl : (backTo pos (starEach es X.env)).any (·.1) = false := by rfl) :
    PE X (.Call (.Name x p) (e :: es) [] pos) (tXmk C n 0 sp gV t tNil) := by
  refine ⟨fun pins s σ H Q I h => wpAny_Call_Name_kw (ld_glob I hg hm ?_ hdb)⟩
  refine PySem.W.callWith_K (h₀ := X.base) I.ok.mod.kin T.kC (thn (ha.run pos pins s σ H _ I h) fun us s1 hu => ?_) he hpl
  obtain ⟨vs, H1, I1, r, l1, l2, q2⟩ := hu
  exact ⟨I1.kIn, run_xmk (ws := []) (zs := []) T iC tI F hr hb hx I1 r .nil l1 rfl l3 q2⟩
/-- no value -/
theorem pe_xmk0 (T : XC X.K C) (iC : PySem.W.findIn X.K (.ref C) "__init__" = some (some (.ref fI))) (tI : PySem.W.isFn X.K (.ref fI) = true) (F : FnOk X.prog X.w X.K X.mg X.base CX k fI fd ps sp) (hr : Room (k + 1) X.A) (hg : Gl X x) (hm : X.mg x = some (.ref C)) (hb : KBn X.K fd ps 1 [] g gV) (hx : Passes CX X (fun _ _ _ => False))
    (hdb : (x == ("__debug__" : Str)) = false := by decide) : PE X (.Call (.Name x p) [] [] pos) (tXmk C 0 0 sp gV tNil tNil) := by
  refine ⟨fun pins s σ H Q I h => wpAny_Call_Name_kw (ld_glob I hg hm ?_ hdb)⟩
  obtain ⟨_, _, q2⟩ := h
  exact PySem.W.callWith_K0 I.kIn T.kC (run_xmk (us := []) (ws := []) (zs := []) T iC tI F hr hb hx I .nil .nil rfl rfl (by decide) q2)
end
/-- e.f, e such an exception -/
def tXat (K : PySem.W.Frag) (f : Str) (te : TE) : TE := fun σ H Q => te σ H fun x H1 => ∃ (a C d : Addr) (fs : List (Str × V)) (v : V), x = .ref a ∧ XC K C ∧ PySem.W.findIn K (.ref C) f = some none ∧ H1 a = some (exo a C (some d)) ∧ H1 d = some (exd d fs) ∧ fs.lookup f = some v ∧ Q v H1
theorem inst_exo {X : Cx} {pins : List (Addr × Obj)} {σ : St} {H : Hp} {s : Shared} {a C d : Addr} {fs : List (Str × V)} (I : Inv X pins σ H s) (ea : H a = some (exo a C (some d))) (ed : H d = some (exd d fs)) :
    ∃ (ox od : Obj) (mA : Str → Option Value), PySem.W.InstAt s.heap a ox C (some od) ∧ (∀ f, RelO (fs.lookup f) (mA f)) ∧ ∀ f, PySem.W.lookIn f od = some (mA f) := by
  obtain ⟨t1, ho⟩ := exo_at I.hok ea
  obtain ⟨mA, hns, hr⟩ := exd_at I.hok ed
  obtain ⟨od, hod, hl⟩ := lookIn_ns hns
  exact ⟨_, od, mA, ⟨ho, rfl, rfl, hod⟩, hr, hl⟩
theorem pe_xat {X : Cx} {e : Expr} {te : TE} {pos : Pos} {f : Str} (he : PE X e te) (hb : attributeBase e f X.env (eval e X.env) = eval e X.env := by rfl) : PE X (.Attribute e f pos) (tXat X.K f te) := by
  refine ⟨fun pins s σ H Q I h => attr_of hb (thn (he.run pins s σ H _ I h) fun u s1 hh => ?_)⟩
  obtain ⟨x, H1, I1, rx, a, C, d, fs, v, ex, T, hno, ea, ed, l, q⟩ := hh
  subst ex
  obtain rfl : u = Value.ref a := rx
  obtain ⟨ox, od, mA, J, hr, hl⟩ := inst_exo I1 ea ed
  obtain ⟨u, hu, ru⟩ := RelO.some_of (v := v) (o := mA f) (by rw [← l]; exact hr f)
  exact HandSPX.exc_get I1.kIn J T.ga T.gg T.ex (PySem.W.findObj_own T.hd hno rfl (by rw [hl, hu])) (handed_of ru) ⟨v, H1, I1.tok _, ru, q⟩
/-- isinstance(e, c), e such an exception -/
def rXis (K : PySem.W.Frag) : List V → Hp → VK → Prop := fun xs H Q => ∃ (a C d : Addr) (fs : List (Str × V)) (c : V) (cv : Value) (b : Bool), xs = [.ref a, c] ∧ XC K C ∧ H a = some (exo a C (some d)) ∧ H d = some (exd d fs) ∧ ClsV c cv ∧ PySem.W.kitOne K (.ref C) cv = some b ∧ Q (.bl b) H
theorem call_xis {X : Cx} : CallR X (.builtin "isinstance") (rXis X.K) := by
  intro pins s σ H xs us Q I r h
  obtain ⟨a, C, d, fs, c, cv, b, rfl, T, ea, ed, hc, e, q⟩ := h
  obtain ⟨u1, u2, rfl, r1, r2⟩ := vals2 r
  obtain rfl := hc.eq r2
  obtain rfl : u1 = Value.ref a := r1
  obtain ⟨ox, od, mA, J, _, _⟩ := inst_exo I ea ed
  exact PySem.W.kia_one (PySem.W.kitx_exc T.cl T.ga T.gg T.ex T.ha T.hn T.ht T.hm) I.kIn J e (fun z => nomatch z) fun tk => ⟨.bl b, H, I.tok tk, rfl, q⟩
end L2
end
section
set_option maxHeartbeats 4000000
namespace L2
open PySem PySem.Spec PyProof.Rows Builtin.ObjectAttr
section
variable {X : Cx} {CX : CXT} {k : Nat} {C fI : Addr} {fd : FuncData} {ps : List Str} {sp : Sp} {x : Str} {p pos : Pos} {e : Expr} {es : List Expr} {ta : TA}
/-- raise C(..), C an own exception class with its own __init__, over any built-in base -/
theorem run_pmk {pins : List (Addr × Obj)} {σ : St} {H1 : Hp} {s1 : Shared} {Q : XK} {us : List Value} {vs : List V} (T : XC X.K C) (tyC : PySem.W.typeIn X.K (.ref C) = some (.type "type")) (iC : PySem.W.findIn X.K (.ref C) "__init__" = some (some (.ref fI))) (tI : PySem.W.isFn X.K (.ref fI) = true)
    (F1 : FnOk X.prog X.w X.K X.mg X.base CX k fI fd ps sp) (hr : Room (k + 1) X.A) (hb : Binds X.K fd ps []) (hx : Passes CX X (fun _ _ _ => False)) (I1 : Inv X pins σ H1 s1) (r1 : Vals vs us) (hz : vs.length ≤ 1000)
    (q1 : ∀ a, H1 a = none → sp (.ref a :: vs) (upd H1 a (exo a C none)) (fun v H2 => v = .non ∧ ∃ (d : Addr) (fs : List (Str × V)), H2 a = some (exo a C (some d)) ∧ H2 d = some (exd d fs) ∧ H1 d = none ∧ Q (.ref C) (some d) (upd (del H2 a) d (.xd fs))) (fun _ _ _ => False)) :
    wpAny (model X.prog X.w) X.A (call (.ref C) us []) (MkP X pins σ Q) X.xe s1 := by
  obtain ⟨B, nid, iid, mb, FB, SF, qa, qb⟩ := T.base
  obtain ⟨nm, N, qn, bs, bm, hdct, sn, sub, ab, col, dd, k0, k1, k2, k3, k5, hC, hT⟩ := PySem.W.excInit_of I1.kIn qa
  obtain ⟨oI, hoI, hcI⟩ : ∃ oI, s1.heap.get? fI = some oI ∧ oI.cls = .type "function" := by
    obtain ⟨o, ho, hc⟩ := Option.map_eq_some_iff.mp (show (X.K.lookup fI).map (·.cls) = some (.type "function") from beq_iff_eq.mp tI)
    exact ⟨o, I1.kIn _ _ ho, hc⟩
  obtain ⟨hp, g, dr, tk, os⟩ := s1
  have hsz : hp.objs.size ≤ hp.objs.size + 1 := Nat.le_succ _
  have hn : H1 (hp.objs.size + 1) = none := I1.hok.fresh hsz
  have hq := q1 (hp.objs.size + 1) hn
  have kk : ∀ b o, hp.get? b = some o → ((hp.push (PySem.W.kdv_tup us)).push (PySem.HandSPX.excO C hp.objs.size)).get? b = some o := fun b o z => Heap.get?_push_of_some _ (Heap.get?_push_of_some _ z)
  have hget : ((hp.push (PySem.W.kdv_tup us)).push (PySem.HandSPX.excO C hp.objs.size)).get? (hp.objs.size + 1) = some (PySem.HandSPX.excO C hp.objs.size) := by heap_get
  have I2 : Inv X pins σ (upd H1 (hp.objs.size + 1) (exo (hp.objs.size + 1) C none)) ⟨(hp.push (PySem.W.kdv_tup us)).push (PySem.HandSPX.excO C hp.objs.size), g, dr, tk, os⟩ :=
    I1.laid (t' := tk) (a := hp.objs.size + 1) (o := exo (hp.objs.size + 1) C none) (h' := (hp.push (PySem.W.kdv_tup us)).push (PySem.HandSPX.excO C hp.objs.size)) kk hsz (exo_ok hget)
  have r2 : Vals (V.ref (hp.objs.size + 1) :: vs) (Value.ref (hp.objs.size + 1) :: us) := .cons rfl r1
  have hl : (Value.ref (hp.objs.size + 1) :: us).length = ps.length := by
    have z := r2.length
    rw [F1.len _ _ _ _ hq] at z
    exact z.symm
  have hus : us.length ≤ sizeLine := by
    rw [← Paired.length r1, sizeLine_eq]
    omega
  have hb2 := hb ⟨(hp.push (PySem.W.kdv_tup us)).push (PySem.HandSPX.excO C hp.objs.size), g, dr, tk, os⟩ (Value.ref (hp.objs.size + 1) :: us) I2.kIn (by rw [List.append_nil]; exact hl)
  rw [List.append_nil] at hb2
  refine wpAny_call (PySem.Xv.callK (kw := []) FB hT hC (PySem.W.looks_findIn I1.kIn iC) (fun self => PySem.W.exc_bind hoI hcI self) hus
    (codeAny_mono (F1.run _ X.stack _ _ ⟨Value.ref (hp.objs.size + 1) :: us, []⟩ (Value.ref (hp.objs.size + 1) :: us) _ _ (fun _ _ _ => False) (hr.make C us []) (I2.env0.make C us []) hb2 r2 hq) fun r s' hq' => ?_))
  cases r with
  | error er => exact hx pins σ _ _ er s' I2 hq'
  | ok fl =>
    cases fl with
    | ret u =>
      obtain ⟨v, H2, os2, bare2, un2, hok2, rv, ev, d, fs, ea, ed, hd1, q2⟩ := hq'
      subst ev
      obtain ⟨h2, g2, d2, t2, os'⟩ := s'
      exact ⟨rv, mk_end (raises_own T.ex tyC) I1 hsz kk un2 hok2 os2 bare2 ea ed hd1 q2⟩
    | next => exact False.elim hq'
    | brk => exact False.elim hq'
    | cont => exact False.elim hq'
theorem pmk_xo (T : XC X.K C) (tyC : PySem.W.typeIn X.K (.ref C) = some (.type "type")) (iC : PySem.W.findIn X.K (.ref C) "__init__" = some (some (.ref fI))) (tI : PySem.W.isFn X.K (.ref fI) = true)
    (F1 : FnOk X.prog X.w X.K X.mg X.base CX k fI fd ps sp) (hr : Room (k + 1) X.A) (hb : Binds X.K fd ps []) (hx : Passes CX X (fun _ _ _ => False)) (hg : Gl X x) (hm : X.mg x = some (.ref C)) (ha : PA X (e :: es) ta)
    (hdb : (x == ("__debug__" : Str)) = false := by decide) (he : starEach (e :: es) X.env = (false, eval e X.env) :: starEach es X.env := by rfl) (hpl : (backTo pos (starEach es X.env)).any (·.1) = false := by rfl) :
    PMk X (.Call (.Name x p) (e :: es) [] pos) (tMkO C sp [] ta) := by
  intro pins s σ H Q I h
  refine wpAny_Call_Name_kw (ld_glob I hg hm ?_ hdb)
  refine PySem.W.callWith_K (h₀ := X.base) I.ok.mod.kin T.kC (thn (ha.run pos pins s σ H _ I h) fun us s1 ⟨vs, H1, I1, r1, hz, q1⟩ => ⟨I1.kIn, ?_⟩) he hpl
  exact run_pmk T tyC iC tI F1 hr hb hx I1 r1 hz (fun a na => by have z := q1 a na; rwa [List.append_nil] at z)
theorem pmk_xo0 (T : XC X.K C) (tyC : PySem.W.typeIn X.K (.ref C) = some (.type "type")) (iC : PySem.W.findIn X.K (.ref C) "__init__" = some (some (.ref fI))) (tI : PySem.W.isFn X.K (.ref fI) = true)
    (F1 : FnOk X.prog X.w X.K X.mg X.base CX k fI fd ps sp) (hr : Room (k + 1) X.A) (hb : Binds X.K fd ps []) (hx : Passes CX X (fun _ _ _ => False)) (hg : Gl X x) (hm : X.mg x = some (.ref C))
    (hdb : (x == ("__debug__" : Str)) = false := by decide) : PMk X (.Call (.Name x p) [] [] pos) (tMkO C sp [] tNil) := by
  intro pins s σ H Q I h
  refine wpAny_Call_Name_kw (ld_glob I hg hm ?_ hdb)
  obtain ⟨_, q1⟩ := h
  exact PySem.W.callWith_K0 I.kIn T.kC (run_pmk (us := []) (vs := []) T tyC iC tI F1 hr hb hx I .nil (by decide) q1)
end
end L2
end
section
set_option maxHeartbeats 4000000
namespace L2
open PySem PySem.Spec PyProof.Rows
/-! ### the caught exception, read where it is pinned -/
section
variable {X : Cx} {a C : Addr} {oe : Obj} {cls : Value} {d : Option Addr} {e : Expr} {te : TE} {pos : Pos} {n : Str}
theorem pe_xfP (hp : (a, oe) ∈ X.pn) (T : XC X.K C) (hno : PySem.W.findIn X.K (.ref C) n = some none) (hz : Zc cls d oe) (hf : ∃ vs, oe.data = .fields vs) (he : PE X e te) (hb : attributeBase e n X.env (eval e X.env) = eval e X.env := by rfl) :
    PE X (.Attribute e n pos) (tXf a cls d C n te) := by
  refine ⟨fun pins s σ H Q I h => ?_⟩
  refine attr_of hb (thn (he.run pins s σ H _ I h) fun u s1 hh => ?_)
  obtain ⟨x, H1, I1, rx, ex, ec, dd, fs, v, ed, ea, l, q⟩ := hh
  subst ex
  obtain rfl : u = Value.ref a := rx
  subst ec
  subst ed
  obtain ⟨ha, _⟩ := I1.pin (a, oe) (List.mem_append_left _ hp)
  obtain ⟨vs, hd⟩ := hf
  have hx : ObjOk X.prog X.w H1 s1.heap dd (.xd fs) := I1.hok dd _ ea
  obtain ⟨mA, hns, hr⟩ := hx
  obtain ⟨od, ho, hl⟩ := lookIn_ns hns
  obtain ⟨u, hu, ru⟩ := RelO.some_of (v := v) (o := mA n) (by rw [← l]; exact hr n)
  have J : PySem.W.InstAt s1.heap a oe C (some od) := ⟨ha, hz.1, by unfold PySem.W.notCls; rw [hd] <;> rfl, by rw [hz.2]; exact ho⟩
  exact HandSPX.exc_get I1.kIn J T.ga T.gg T.ex (PySem.W.findObj_own T.hd hno rfl (by rw [hl, hu])) (handed_of ru) ⟨v, H1, I1.tok _, ru, q⟩
/-- isinstance(e, c), e the exception pinned at a, with its dict -/
def rIsP (K : PySem.W.Frag) (D a dd : Addr) : List V → Hp → VK → Prop := fun xs H Q => ∃ (c : V) (cv : Value) (b : Bool) (fs : List (Str × V)), xs = [.ref a, c] ∧ H dd = some (.xd fs) ∧ (∀ u, RelV c u → u = cv) ∧ PySem.W.kitOne K (.ref D) cv = some b ∧ Q (.bl b) H
theorem call_isP {D dd : Addr} (hp : (a, oe) ∈ X.pn) (T : XC X.K D) (hz : Zc (.ref D) (some dd) oe) (hf : ∃ vs, oe.data = .fields vs) : CallR X (.builtin "isinstance") (rIsP X.K D a dd) := by
  intro pins s σ H xs us Q I r h
  obtain ⟨c, cv, b, fs, rfl, ea, hcv, e, q⟩ := h
  cases r with
  | cons rx rr =>
    cases rr with
    | cons rt rr =>
      cases rr
      cases rx
      have ec := hcv _ rt
      subst ec
      obtain ⟨hget, _⟩ := I.pin (a, oe) (List.mem_append.mpr (.inl hp))
      obtain ⟨vs, hv⟩ := hf
      have hx : ObjOk X.prog X.w H s.heap dd (.xd fs) := I.hok dd _ ea
      obtain ⟨mA, hns, hr⟩ := hx
      obtain ⟨od, ho, hl⟩ := lookIn_ns hns
      have J : PySem.W.InstAt s.heap a oe D (some od) := ⟨hget, hz.1, by unfold PySem.W.notCls; rw [hv] <;> rfl, by rw [hz.2]; exact ho⟩
      exact PySem.W.kia_one (PySem.W.kitx_exc T.cl T.ga T.gg T.ex T.ha T.hn T.ht T.hm) I.kIn J e (fun z => nomatch z) fun tk => ⟨.bl b, H, I.tok tk, rfl, q⟩
end
/-! ### a def that is handed the caught exception, called in the suite -/
structure FnP (P : Program) (w : World) (K : PySem.W.Frag) (mg : Str → Option Value) (base : Heap) (CX : CXT) (k : Nat) (f : Addr) (fd : FuncData) (ps : List Str) (sp : Addr → Value → Option Addr → Sp) : Prop where
  len : ∀ a cls d vs H Q E, sp a cls d vs H Q E → vs.length = ps.length
  run : ∀ (A : Around) (outer : List Env) (s : Shared) (H : Hp) (args : Args) (us : List Value) (vs : List V) (Q : VK) (E : XK) (a : Addr) (oe : Obj) (cls : Value) (d : Option Addr), L2H.RoomH k A → Zc cls d oe → (∃ vs, oe.data = .fields vs) → L2H.PinOk outer H s (a, oe) → Env0 P w K mg base A outer s H → BindsTo s fd args (ps.zip us) → Vals vs us → sp a cls d vs H Q E →
    codeAny (model P w) A (.call (.ref f) args) (CR CX outer P w H s Q E) s
/-- .. by its body -/
theorem fn_ofP {CX : CXT} {P : Program} {w : World} {K : PySem.W.Frag} {mg : Str → Option Value} {base : Heap} {k : Nat} {x q : Str} {st : Stmt} {f : Addr} {fd : FuncData} {N ps : List Str} {sp : Addr → Value → Option Addr → Sp} (F : Fun K x q st f fd) (S : FnScope N ps (defScope st))
    (len : ∀ a cls d vs H Q E, sp a cls d vs H Q E → vs.length = ps.length)
    (hbody : ∀ (cdv : Value) (A : Around) (outer : List Env) (s : Shared) (H : Hp) (vs : List V) (Q : VK) (E : XK) (a : Addr) (oe : Obj) (cls : Value) (d : Option Addr), Zc cls d oe → (∃ vs, oe.data = .fields vs) → L2H.RoomH k (A.deeper (envOfC q (defScope st) s.heap.objs.size f cdv)) → sp a cls d vs H Q E →
      ∃ t, PSs (L2H.cxH CX P w K mg base N q (defScope st) f cdv A outer s H E (a, oe)) (defBody st) t ∧ t { nx := fun _ H' => Q .non H', rt := Q } (L2.start N vs) H) :
    FnP P w K mg base CX (k + 1) f fd ps sp := by
  obtain ⟨oc, od, kV, doc, pm, an, cdv, ct, osl, rfl, lk, hcd⟩ := F.ex
  refine ⟨len, fun A outer s H args us vs Q E a oe cls d hr hz hf hpin e0 hb r hsp => ?_⟩
  have hl := len _ _ _ _ _ _ _ hsp
  have KX : K.In s.heap := e0.mod.kin.keeps fun b o e => (e0.bs b o e).1
  have lim : s.heap.NoLimit := e0.mod.nolimit.keeps fun b o e => (e0.bs b o e).1
  have hkind : ∀ y ∈ ps.zip us, (defScope st).names.lookup y.1 = some .local ∨ ((defScope st).names.lookup y.1 = some .cell ∧ ((cellsFrom (s.heap.objs.size + 1) (defScope st).names []).lookup y.1).isSome = true) := fun ⟨n, v⟩ hy => by
    rcases S.par n (List.of_mem_zip hy).1 with q | q
    · exact .inl q
    · exact .inr ⟨q, PySem.W.cellsFrom_some _ _ _ (.inl q)⟩
  refine codeAny_call_function hr.depth (KX _ _ lk) rfl S.co S.gen rfl (PySem.W.codeRec_of KX hcd) (hb _ _ _ _ ?_)
  refine wpAny_newFunctionEnv_cells S.kind hkind fun env he s1 x => ?_
  subst he
  refine ⟨lim.keeps x.toInCall.keep, codeAny_func ?_⟩
  obtain ⟨t, ht, hq⟩ := hbody cdv A outer s H vs Q E a oe cls d hz hf (hr.deeper _) hsp
  have I : Inv (L2H.cxH CX P w K mg base N q (defScope st) f cdv A outer s H E (a, oe)) [] (L2.start N vs) H s1 := L2H.inv_startH S hpin e0 hl r x
  refine wpAny_mono (ht.run [] s1 (L2.start N vs) H _ I hq) (fun fl s' hs => ?_) fun e s' hs => hs
  have fin : ∀ {σ' : St} {H' : Hp} {v : V} {u : Value}, Inv (L2H.cxH CX P w K mg base N q (defScope st) f cdv A outer s H E (a, oe)) [] σ' H' s' → RelV v u → Q v H' → CE outer P w H s Q u s' :=
    fun {σ' H' v u} J rv q => ⟨v, H', J.os, J.bare, J.base, J.hok, rv, q⟩
  cases fl with
  | ret u =>
    obtain ⟨v, σ', H', J, rv, q⟩ := hs
    exact fin J rv q
  | next =>
    obtain ⟨σ', H', J, q⟩ := hs
    exact fin (v := V.non) (u := Value.none) J rfl q
  | brk =>
    obtain ⟨_, _, _, q⟩ := hs
    exact False.elim q
  | cont =>
    obtain ⟨_, _, _, q⟩ := hs
    exact False.elim q
/-- f(e, ..) in the suite -/
def tCallP (a : Addr) (cls : Value) (d : Option Addr) (sp : Addr → Value → Option Addr → Sp) (t : TA) : TE := fun σ H Q => t σ H fun vs H1 => sp a cls d vs H1 Q (fun _ _ _ => False)
section
variable {X : Cx} {k : Nat} {f : Addr} {fd : FuncData} {ps : List Str} {sp : Addr → Value → Option Addr → Sp} {x : Str} {q pos : Pos} {e : Expr} {es : List Expr} {t : TA} {a : Addr} {oe : Obj} {cls : Value} {d : Option Addr}
theorem pe_callP (hp : (a, oe) ∈ X.pn) (hz : Zc cls d oe) (hf : ∃ vs, oe.data = .fields vs) (F : FnP X.prog X.w X.K X.mg X.base C8.CX0 k f fd ps sp) (hr : L2H.RoomH k X.A) (hg : Gl X x) (hm : X.mg x = some (.ref f)) (hk : PySem.W.keepIn X.K (.ref f) = true) (hb : Binds X.K fd ps [])
    (ha : PA X (e :: es) t) (hdb : (x == ("__debug__" : Str)) = false := by decide) (he : starEach (e :: es) X.env = (false, eval e X.env) :: starEach es X.env := by rfl) (hpl : (backTo pos (starEach es X.env)).any (·.1) = false := by rfl) :
    PE X (.Call (.Name x q) (e :: es) [] pos) (tCallP a cls d sp t) := by
  refine ⟨fun pins s σ H Q I h => ?_⟩
  refine wpAny_Call_Name_kw (ld_glob I hg hm ?_ hdb)
  refine PySem.W.callWith_K (h₀ := X.base) I.ok.mod.kin hk (thn (ha.run pos pins s σ H _ I h) fun us s1 ⟨vs, H1, I1, r, q⟩ => ⟨I1.kIn, ?_⟩) he hpl
  have hl : us.length = ps.length := by rw [← r.length]; exact F.len _ _ _ _ _ _ _ q
  have b := hb s1 us I1.kIn (by rw [List.append_nil]; exact hl)
  rw [List.append_nil] at b
  have P1 := I1.pin (a, oe) (List.mem_append_left _ hp)
  have hpin : L2H.PinOk X.stack H1 s1 (a, oe) := ⟨P1.1, P1.2.1, fun hm => (List.mem_cons.mp (I1.stkSub a hm)).elim P1.2.2.1 P1.2.2.2.1, P1.2.2.2.2⟩
  refine wpAny_call (codeAny_mono (F.run X.A X.stack s1 H1 ⟨us, []⟩ us vs Q _ a oe cls d hr hz hf hpin I1.env0 b r q) fun r s' hq => ?_)
  cases r with
  | error e => exact hq.elim
  | ok fl =>
    cases fl with
    | ret u => exact I1.after hq
    | next => exact False.elim hq
    | brk => exact False.elim hq
    | cont => exact False.elim hq
end
end L2
end
section
set_option maxHeartbeats 4000000
namespace L2
open PySem PySem.Spec PyProof.Rows
/-! ### several clauses «except C as n» -/
abbrev Hd3 : Type := Value × Nat × (Addr → Value → Option Addr → TS)
def wManyAs (K : PySem.W.Frag) (Wout : WX) (D : Ends) : List Hd3 → WX
  | [] => Wout
  | (c, i, ts) :: r => fun cls d σ H => ∃ b, PySem.W.exmOne K cls c = some b ∧ (b = true → ∀ a, H a = none → ts a cls d { nx := fun σ' H' => D.nx (σ'.set i none) H', rt := D.rt, bk := fun σ' H' => D.bk (σ'.set i none) H', ct := fun σ' H' => D.ct (σ'.set i none) H' } (σ.set i (some (.ref a))) H) ∧
      (b = false → wManyAs K Wout D r cls d σ H)
inductive HdsAs (X : Cx) : List ExceptHandler → List Hd3 → Prop
  | nil : HdsAs X [] []
  | cons {x n : Str} {c : Value} {i : Nat} {ts : Addr → Value → Option Addr → TS} {b₀ : Stmt} {suite : List Stmt} {np pos' : Pos} {hds : List ExceptHandler} {l : List Hd3} (hi : X.N[i]? = some n) (hln : X.env.kindOf n = some .local) (hc : Names X x c)
      (hsu : ∀ (a : Addr) (oe : Obj) (cls : Value) (d : Option Addr) (pn : List (Addr × Obj)), Zc cls d oe → (∃ vs, oe.data = .fields vs) → PSs (X.suite a ((a, oe) :: pn)) (b₀ :: suite) (ts a cls d)) (r : HdsAs X hds l) :
      HdsAs X (.ExceptHandler (some (.Name x np)) (some n) (b₀ :: suite) pos' :: hds) ((c, i, ts) :: l)
section
variable {X : Cx} {body : List Stmt} {h₀ : ExceptHandler} {hds : List ExceptHandler} {l : List Hd3} {pos : Pos} {tb : WX → TS} {Wout : WX}
theorem ps_try_manyAs (hs : X.stack = X.env :: X.outer) (hf : X.env.frame = some X.env.locals) (hN : X.N.Nodup) (tk : Takes X Wout)
    (hb : ∀ (W : WX) (pn : List (Addr × Obj)) (xe : Value → Shared → Prop), Takes (X.tr pn xe) W → PassesOwn (model X.prog X.w) X.A X.env xe → PSs (X.tr pn xe) body (tb W))
    (hh : HdsAs X (h₀ :: hds) l) : PS X (.Try body (h₀ :: hds) [] [] pos) (fun D σ H => tb (wManyAs X.K Wout D l) D σ H) := by
  refine ⟨fun pins s σ H D I h => ?_⟩
  have ok := I.ok
  have hfr : X.A.frames = some (X.env :: X.outer) := by rw [ok.frames, hs]
  refine wpAny_Try_except ?_
  refine wpAny_mono ((hb (wManyAs X.K Wout D l) (X.pn ++ pins) (fun e s₁ => wpAny (model X.prog X.w) X.A (noteFrame e X.env) (fun _ s₂ => wpAny (model X.prog X.w) X.A (setFlight e none) (fun _ s₃ =>
    wpAny (model X.prog X.w) X.A (handleBy e X.env (h₀ :: hds)) (SP X pins D) X.xe s₃) X.xe s₂) X.xe s₁) (fun u s' xx => ?_) PassesOwn.looking).run [] s σ H D (I.toTry _) h) (fun f s1 hsp => ?_) (fun e s1 he => he)
  · -- the catch
    obtain ⟨a, B, sI, pins', σ', H', cls, d, rfl, J', nb, up, sky, na, os, ag, w⟩ := xx
    have J : Inv X pins σ' H' sI := J'.ofTry ok
    have sky' : Sky B (X.env :: X.outer) a (Zc cls d) X.env.locals s'.heap := by rw [← hs]; exact sky
    show wpAny (model X.prog X.w) X.A (noteFrame (.ref a) X.env) _ _ _
    refine Sky.land Zc.steady hfr hf sky' fun h3 fl3 up3 => ?_
    have J3 : Inv X pins σ' H' { s' with heap := h3 } := J.landed nb fl3.1 (up.trans up3) os ag
    obtain ⟨oe3, vs3, he3, hz3, hd3⟩ := fl3.there
    have notFr : ∀ {h : Heap} {o : Obj} {vs : Array Value}, h.FunFrames B (X.env :: X.outer) → h.get? a = some o → o.data = .fields vs → a ∉ frs (X.env :: X.outer) := fun {h o vs} ff e dd hm => by
      obtain ⟨_, o', e', hnf⟩ := ff.mem hm
      rw [e] at e'; cases e'
      exact hnf _ dd
    have nfr := notFr fl3.2.2.1 he3 hd3
    have nL : a ≠ X.env.locals := fun z => nfr (List.mem_filterMap.mpr ⟨X.env, List.mem_cons_self, by rw [hf, z]⟩)
    have nF : a ∉ X.fs := fun hm => by
      obtain ⟨e, he, q⟩ := List.mem_filterMap.mp hm
      exact nfr (List.mem_filterMap.mpr ⟨e, List.mem_cons_of_mem _ he, q⟩)
    have S3 := J3.suite he3 hd3 na nL nF
    have go : ∀ {hds' : List ExceptHandler} {l' : List Hd3}, HdsAs X hds' l' → wManyAs X.K Wout D l' cls d σ' H' →
        wpAny (model X.prog X.w) X.A (handleBy (.ref a) X.env hds') (SP X pins D) X.xe { s' with heap := h3 } := by
      intro hds' l' hk
      induction hk with
      | nil =>
        intro w
        refine wpAny_handleBy_nil ?_
        obtain ⟨k1, k2, k3, oe, vs, T, oT, ts', he, hz, hd, h1, hr⟩ := id fl3
        unfold PySem.passOn
        refine wpAny_bind (wpAny_field he hd h1 ?_)
        rw [if_neg (show ¬ ((Value.ref T == Value.none) = true) from by simp)]
        have fin : wpAny (model X.prog X.w) X.A (setFlight (.ref a) X.env.frame) (fun _ s4 => wpAny (model X.prog X.w) X.A (throw (.ref a) : Sem Flow) (SP X pins D) X.xe s4) X.xe { s' with heap := h3 } := by
          rw [hf]
          refine HandSPX.setFlight_upZ fl3 fun h4 hh4 up4 => wpAny_throw (tk _ _ ?_)
          exact ⟨a, B, sI, pins, σ', H', cls, d, rfl, J, nb, (up.trans up3).trans up4, .inr (.inr (by rw [hs]; exact hh4)), na, os, ag, w⟩
        first
          | exact wpAny_bind (wpAny_pure (wpAny_bind fin))
          | exact wpAny_bind fin
      | @cons x n c i ts b₀ suite np pos' hds2 l2 hi hln hc hsu r ih =>
        intro w
        obtain ⟨b, hb1, hyes, hno⟩ := w
        have hloc : Loc X.env.scope n := .inl hln
        refine wpAny_handleBy_cons (codeAny_handlers_test ?_) (by intro q; cases q)
        have LT : PySem.W.Looks (model X.prog X.w) h3 (typeOf (.ref a)) cls := fun A Q E s k q => wpAny_typeOf_ref (k _ _ he3) (by rw [hz3.1]; exact q)
        have LM := PySem.W.exm_one (M := model X.prog X.w) (J3.kIn) LT hb1
        have test : ∀ {Q : Value → Shared → Prop} {E : Value → Shared → Prop}, Q c { s' with heap := h3 } → wpAny (model X.prog X.w) (X.A.mark (some (.ref a))) (eval (.Name x np) X.env) Q E { s' with heap := h3 } := fun {Q E} q => by
          obtain ⟨hg, hdbg, hm | ⟨hm, hv, hnn⟩⟩ := hc
          · exact ld_glob (X := X.suite a ((a, oe3) :: (X.pn ++ pins))) S3 hg hm q hdbg
          · exact ld_blt (X := X.suite a ((a, oe3) :: (X.pn ++ pins))) S3 hg hm hv q hnn hdbg
        refine test (LM.here ?_)
        cases b with
        | true =>
          refine codeAny_handlers_suite_as ?_
          refine HandSPX.lands_againZ fl3 fun h4 fl4 up4 => ?_
          have J4 : Inv X pins σ' H' { s' with heap := h4 } := J.landed nb fl4.1 ((up.trans up3).trans up4) os ag
          obtain ⟨oe4, vs4, he4, hz4, hd4⟩ := fl4.there
          have S4 := J4.suite he4 hd4 na nL nF
          refine store_ok (X := X.suite a ((a, oe4) :: (X.pn ++ pins))) (v := .ref a) S4 hN hi hloc rfl (fun s5 S5 => ?_) (.inr hln)
          refine wpAny_mono ((hsu a oe4 cls d (X.pn ++ pins) hz4 ⟨_, hd4⟩).run [] s5 _ H' _ S5 (hyes rfl a na)) (fun f s6 hsp => ?_) (fun _ _ z => False.elim z)
          have end_ : ∀ {σ6 : St} {H6 : Hp} {Q : Shared → Prop}, Inv (X.suite a ((a, oe4) :: (X.pn ++ pins))) [] σ6 H6 s6 → (∀ s7, Inv X pins (σ6.set i none) H6 s7 → Q s7) →
              wpAny (model X.prog X.w) X.A (do bindName X.env n .none; unbindBehindTheSuite X.env n pos') (fun _ s7 => Q s7) X.xe s6 := fun {σ6 H6 Q} S6 hq => gone_ok (S6.unsuite ok) hN hi hln hq
          cases f with
          | next =>
            obtain ⟨σ6, H6, S6, q6⟩ := hsp
            exact end_ S6 fun s7 J7 => ⟨_, _, J7, q6⟩
          | brk =>
            obtain ⟨σ6, H6, S6, q6⟩ := hsp
            exact end_ S6 fun s7 J7 => ⟨_, _, J7, q6⟩
          | cont =>
            obtain ⟨σ6, H6, S6, q6⟩ := hsp
            exact end_ S6 fun s7 J7 => ⟨_, _, J7, q6⟩
          | ret u =>
            obtain ⟨v6, σ6, H6, S6, r6, q6⟩ := hsp
            exact end_ S6 fun s7 J7 => ⟨_, _, _, J7, r6, q6⟩
        | false =>
          show wpAny _ X.A (handleBy (.ref a) X.env hds2) _ _ _
          exact ih (hno rfl)
    exact go hh w
  · cases f with
    | next =>
      obtain ⟨σ', H', J', q⟩ := hsp
      exact wpAny_execs_nil ⟨σ', H', J'.ofTry ok, q⟩
    | brk =>
      obtain ⟨σ', H', J', q⟩ := hsp
      exact ⟨σ', H', J'.ofTry ok, q⟩
    | cont =>
      obtain ⟨σ', H', J', q⟩ := hsp
      exact ⟨σ', H', J'.ofTry ok, q⟩
    | ret u =>
      obtain ⟨v, σ', H', J', r, q⟩ := hsp
      exact ⟨v, σ', H', J'.ofTry ok, r, q⟩
end
end L2
end
section
set_option maxHeartbeats 4000000
namespace PySem.W
open PySem PySem.Spec PySem.Calls PyProof.Rows
abbrev kld_fn (name qual : Str) (params : Arguments) (body : Expr) (scope : Scope) (cl : List (Str × Addr)) (dV pm cdv ct : Value) : FuncData :=
  { name, qualname := qual, params, body := .expr body, scope, globals := mainGlobals, closure := cl, defaults := dV, kwdefaults := .none, doc := .none, pyModule := pm, annotations := none, code := cdv, closureTuple := ct, builtins := builtinsNs }
abbrev kld_obj (name qual : Str) (params : Arguments) (body : Expr) (scope : Scope) (clos : List (Str × Addr)) (dV pm : Value) (c' : Addr) (ctv : Value) : Obj :=
  { cls := .type "function", data := .func (kld_fn name qual params body scope clos dV pm (.ref c') ctv) }
section
variable {M : Model} {A : Around} {E : Value → Shared → Prop} {s : Shared} {name qual : Str} {params : Arguments} {body : Expr} {scope : Scope} {env : Env} {c P : Addr} {ps : Array Value} {pos : Pos} {firstLine : Nat} {mg : Str → Option Value}
  {clos : List (Str × Addr)} {dV : Value} {Q : Value → Shared → Prop}
theorem kld_makeTail (hcl : closureFor scope env = pure clos) (hge0 : env.globals = mainGlobals) (hg : s.heap.Ns mainGlobals mg) (hcode : env.code = .ref c) (C : CodeHd s.heap c P) (hP : s.heap.get? P = some (tabObj ps)) (ht : TriplesOk ps.toList)
    (hnf : codeAmong pos ps.toList = none) (hgP : mainGlobals ≠ P) (hb : s.heap.BuiltinsAt mg P)
    (h : ∀ c' ctv h' tk, Heap.ExtBut P s.heap h' → s.heap.objs.size ≤ c' → c' < h'.objs.size → h'.CodeRec (.ref c') qual → h'.get? P = some (tabObj (ps ++ #[rawInt pos.line, rawInt pos.col, .ref c'])) →
      Q (.ref h'.objs.size) { s with heap := h'.push (kld_obj name qual params body scope clos dV ((mg "__name__").getD .none) c' ctv), toks := tk }) :
    wpAny M A (makeTail name qual params (.expr body) scope env dV .none none pos firstLine) Q E s := by
  obtain ⟨bm, ob, hbm, hne0, _, hneP, hbo, hcls, hdict, hdata⟩ := hb
  unfold makeTail
  rw [hcl, hge0]
  refine wpAny_bind (wpAny_pure ?_)
  cases clos with
  | nil =>
    simp only [List.isEmpty_nil, if_true]
    refine wpAny_bind (wpAny_pure ?_)
    refine wpAny_bind (wpAny_functionCodeX hcode (C.code hP ht) (C.tab hP) hnf fun c' h' tk hx hge hlt _ hrec htb _ => ?_)
    have hg' := hg.extBut hx hgP
    refine wpAny_bind (wpAny_builtinsFor hg' hbm hne0 (hx _ _ hneP hbo) hcls hdict hdata ?_)
    refine wpAny_bind (wpAny_nsGet hg' ?_)
    exact wpAny_bind (wpAny_pure (wpAny_newObj_type (h c' .none h' tk hx hge hlt hrec htb.2) (by size_fits)))
  | cons q r =>
    simp only [List.isEmpty_cons, Bool.false_eq_true, if_false]
    refine wpAny_bind (wpAny_newTextTuple ?_)
    refine wpAny_bind (wpAny_functionCodeX hcode ((C.keeps fun b o e => Heap.get?_push_of_some _ e).code (Heap.get?_push_of_some _ hP) ht) ((C.keeps fun b o e => Heap.get?_push_of_some _ e).tab (Heap.get?_push_of_some _ hP)) hnf fun c' h' tk hx hge hlt _ hrec htb _ => ?_)
    have hg' := (hg.push _).extBut hx hgP
    have hx' : Heap.ExtBut P s.heap h' := fun b o hb' e => hx b o hb' (Heap.get?_push_of_some _ e)
    have hge' : s.heap.objs.size ≤ c' := Nat.le_trans (by rw [Heap.size_push]; omega) hge
    refine wpAny_bind (wpAny_builtinsFor hg' hbm hne0 (hx' _ _ hneP hbo) hcls hdict hdata ?_)
    refine wpAny_bind (wpAny_nsGet hg' ?_)
    exact wpAny_bind (wpAny_pure (wpAny_newObj_type (h c' _ h' tk hx' hge' hlt hrec htb.2) (by size_fits)))
theorem kld_makeTailHit {cv : Value} (hcl : closureFor scope env = pure clos) (hge0 : env.globals = mainGlobals) (hg : s.heap.Ns mainGlobals mg) (hcode : env.code = .ref c) (C : CodeHd s.heap c P) (hP : s.heap.get? P = some (tabObj ps)) (ht : TriplesOk ps.toList)
    (hf : codeAmong pos ps.toList = some cv) (hb : s.heap.BuiltinsAt mg P)
    (h : ∀ (ctv : Value) (h' : Heap) (tk : Tok), (∀ b o, s.heap.get? b = some o → h'.get? b = some o) → s.heap.objs.size ≤ h'.objs.size →
      Q (.ref h'.objs.size) { s with heap := h'.push { cls := .type "function", data := .func (kld_fn name qual params body scope clos dV ((mg "__name__").getD .none) cv ctv) }, toks := tk }) :
    wpAny M A (makeTail name qual params (.expr body) scope env dV .none none pos firstLine) Q E s := by
  obtain ⟨bm, ob, hbm, hne0, _, hneP, hbo, hcls, hdict, hdata⟩ := hb
  unfold makeTail
  rw [hcl, hge0]
  refine wpAny_bind (wpAny_pure ?_)
  cases clos with
  | nil =>
    simp only [List.isEmpty_nil, if_true]
    refine wpAny_bind (wpAny_pure ?_)
    refine wpAny_bind (wpAny_functionCode_hit hcode (C.code hP ht) hf ?_)
    refine wpAny_bind (wpAny_builtinsFor hg hbm hne0 hbo hcls hdict hdata ?_)
    refine wpAny_bind (wpAny_nsGet hg ?_)
    exact wpAny_bind (wpAny_pure (wpAny_newObj_type (h .none s.heap s.toks (fun _ _ e => e) (Nat.le_refl _)) (by size_fits)))
  | cons q r =>
    simp only [List.isEmpty_cons, Bool.false_eq_true, if_false]
    refine wpAny_bind (wpAny_newTextTuple ?_)
    refine wpAny_bind (wpAny_functionCode_hit hcode ((C.keeps fun b o e => Heap.get?_push_of_some _ e).code (Heap.get?_push_of_some _ hP) ht) hf ?_)
    refine wpAny_bind (wpAny_builtinsFor (hg.push _) hbm hne0 (Heap.get?_push_of_some _ hbo) hcls hdict hdata ?_)
    refine wpAny_bind (wpAny_nsGet (hg.push _) ?_)
    have hsz : ∀ oT : Obj, s.heap.objs.size ≤ (s.heap.push oT).objs.size := fun oT => by rw [Heap.size_push]; omega
    exact wpAny_bind (wpAny_pure (wpAny_newObj_type (h _ _ s.toks (fun b o e => Heap.get?_push_of_some _ e) (hsz _)) (by size_fits)))
end
end PySem.W
namespace LamX
open PySem PySem.Spec PyProof.Rows L2
section
variable {X : Cx} {pins : List (Addr × Obj)} {σ : L2.St} {H : Hp} {s : Shared}
/-- the lambda's object is made, its defaults at dV -/
theorem lam_tail {T : List (Addr × Str)} {c P : Addr} {params : Arguments} {body : Expr} {scope : Scope} {pos : Pos} {dV : Value} {E : Value → Shared → Prop} {Q : Value → Shared → Prop} (I : Inv X pins σ H s) (TB : TabB X.base X.mg c P) (hcode : X.env.code = .ref c)
    (hm : (P, X.env.qual ++ "<lambda>") ∈ T) (hu : ∀ p ∈ T, p.1 = P → p.2 = X.env.qual ++ "<lambda>") (hT : Tabs T H) (hfree : ∀ y ∈ scope.names, y.2 = .free → ∃ c, X.env.cells.lookup y.1 = some c)
    (h : ∀ (f c' : Addr) (pm ctv : Value) (H1 : Hp) (s' : Shared), Inv X pins σ H1 s' → ExtN H H1 → Tabs T H1 →
      s'.heap.get? f = some (PySem.W.kld_obj "<lambda>" (X.env.qual ++ "<lambda>") params body scope (cloFrom X.env.cells scope.names []) dV pm c' ctv) → H1 f = none → f ∉ frs X.stack → H1 c' = some (CodeO c' (X.env.qual ++ "<lambda>")) → Q (.ref f) s') :
    wpAny (model X.prog X.w) X.A (makeTail "<lambda>" (X.env.qual ++ "<lambda>") params (.expr body) scope X.env dV .none none pos pos.line) Q E s := by
  obtain ⟨ps, hP, ht, ha⟩ := hT _ hm
  have bP : s.heap.BuiltinsAt X.mg P := TB.bm.keeps I.bk
  have hP' : s.heap.get? P = some { cls := .none, data := .fields ps } := I.hok P _ hP
  have nofr : ∀ f, s.heap.objs.size ≤ f → f ∉ frs X.stack := fun f hf z => by
    rcases List.mem_cons.mp (I.stkSub _ z) with e | e
    · have h1 := I.lt
      rw [← e] at h1
      exact Nat.lt_irrefl _ (Nat.lt_of_lt_of_le h1 hf)
    · exact I.nofs hf e
  cases hc : codeAmong pos ps.toList with
  | none =>
    refine PySem.W.kld_makeTail (mg := X.mg) (c := c) (P := P) (ps := ps) (closure_ok hfree) I.ok.glob (I.mod.glob.keeps I.bk) hcode (TB.code.keeps I.bk) hP' ht hc TB.gP bP fun c' ctv h' tk hx hge hlt hrec htb => ?_
    obtain ⟨c2, oc, vs, t, e2, hoc, hd, hv⟩ := hrec
    cases e2
    have hsz : s.heap.objs.size ≤ h'.objs.size := Nat.le_trans hge (Nat.le_of_lt hlt)
    have nC : H c' = none := I.hok.fresh hge
    have I1 := inv_table (t' := tk) (more := #[rawInt pos.line, rawInt pos.col, .ref c']) (h' := h'.push (PySem.W.kld_obj "<lambda>" (X.env.qual ++ "<lambda>") params body scope (cloFrom X.env.cells scope.names []) dV ((X.mg "__name__").getD .none) c' ctv)) I hP
      (fun b o hb e => Heap.get?_push_of_some _ (hx b o hb e)) (Heap.get?_push_of_some _ htb) hge ⟨oc, vs, t, Heap.get?_push_of_some _ hoc, hd, hv⟩
    have hE : ExtN H (upd (upd H P (.tbl (ps ++ #[rawInt pos.line, rawInt pos.col, .ref c']))) c' (CodeO c' (X.env.qual ++ "<lambda>"))) := fun b o e n => by
      rw [upd_ne (ne_of_none e nC), upd_ne (fun z => n ps (Option.some.inj (e.symm.trans (by rw [z]; exact hP))))]
      exact e
    have eL : (ps ++ #[rawInt pos.line, rawInt pos.col, .ref c']).toList = ps.toList ++ [rawInt pos.line, rawInt pos.col, .ref c'] := by simp
    refine h h'.objs.size c' ((X.mg "__name__").getD .none) ctv _ _ I1 hE (fun p hp => ?_) (Heap.get?_push_size _ rfl) ?_ (nofr _ hsz) upd_same
    · by_cases hb : p.1 = P
      · rw [hu p hp hb, hb]
        refine ⟨_, by rw [upd_ne (ne_of_none hP nC), upd_same], by rw [eL]; exact PySem.TriplesOk_snoc _ _ _ _ ht, fun p' cv hcv => ?_⟩
        rw [eL] at hcv
        rcases among_app _ ht hcv with z | z
        · obtain ⟨c0, e1, e2⟩ := ha p' cv z
          exact ⟨c0, e1, hE _ _ e2 codeO_ne⟩
        · exact ⟨c', z, upd_same⟩
      · obtain ⟨ps', a1, a2, a3⟩ := hT p hp
        refine ⟨ps', by rw [upd_ne (ne_of_none a1 nC), upd_ne hb]; exact a1, a2, fun p' cv hcv => ?_⟩
        obtain ⟨c0, e1, e2⟩ := a3 p' cv hcv
        exact ⟨c0, e1, hE _ _ e2 codeO_ne⟩
    · have n1 : h'.objs.size ≠ c' := Nat.ne_of_gt hlt
      have n2 : h'.objs.size ≠ P := Nat.ne_of_gt (Nat.lt_of_lt_of_le (Heap.lt_size hP') hsz)
      rw [upd_ne n1, upd_ne n2]
      exact I.hok.fresh hsz
  | some cv =>
    obtain ⟨c', e, hco⟩ := ha pos cv hc
    subst e
    refine PySem.W.kld_makeTailHit (mg := X.mg) (c := c) (P := P) (ps := ps) (closure_ok hfree) I.ok.glob (I.mod.glob.keeps I.bk) hcode (TB.code.keeps I.bk) hP' ht hc bP fun ctv h' tk hx hsz => ?_
    have I1 : Inv X pins σ H { s with heap := h'.push (PySem.W.kld_obj "<lambda>" (X.env.qual ++ "<lambda>") params body scope (cloFrom X.env.cells scope.names []) dV ((X.mg "__name__").getD .none) c' ctv), toks := tk } := I.kept fun b o e => Heap.get?_push_of_some _ (hx b o e)
    exact h h'.objs.size c' ((X.mg "__name__").getD .none) ctv H _ I1 (ExtN.refl H) hT (Heap.get?_push_size _ rfl) (I.hok.fresh hsz) (nofr _ hsz) hco
/-- lambda x=k: body -/
theorem lam_makeD {T : List (Addr × Str)} {c P : Addr} {params : Arguments} {body : Expr} {scope : Scope} {pos cp : Pos} {k : Int} {j : Nat} {E : Value → Shared → Prop} {Q : Value → Shared → Prop} (I : Inv X pins σ H s) (TB : TabB X.base X.mg c P) (hcode : X.env.code = .ref c)
    (hm : (P, X.env.qual ++ "<lambda>") ∈ T) (hu : ∀ p ∈ T, p.1 = P → p.2 = X.env.qual ++ "<lambda>") (hT : Tabs T H) (hdef : defaultsOf params X.env = ([eval (.Constant (.int k) j cp) X.env], [])) (hfree : ∀ y ∈ scope.names, y.2 = .free → ∃ c, X.env.cells.lookup y.1 = some c)
    (h : ∀ (f c' tu : Addr) (pm ctv : Value) (H1 : Hp) (s' : Shared), Inv X pins σ H1 s' → ExtN H H1 → Tabs T H1 → H1 tu = some (.tup [.int k]) →
      s'.heap.get? f = some (PySem.W.kld_obj "<lambda>" (X.env.qual ++ "<lambda>") params body scope (cloFrom X.env.cells scope.names []) (.ref tu) pm c' ctv) → H1 f = none → f ∉ frs X.stack → H1 c' = some (CodeO c' (X.env.qual ++ "<lambda>")) → Q (.ref f) s') :
    wpAny (model X.prog X.w) X.A (eval (.Lambda params body scope pos) X.env) Q E s := by
  rw [arm_eval_Lambda, hdef]
  show wpAny _ _ (do let dv ← evalAll [eval (.Constant (.int k) j cp) X.env]; let kdv ← holding dv (evalAllOpt []); makeFunction "<lambda>" (X.env.qual ++ "<lambda>") params (.expr body) scope X.env dv kdv [] pos pos.line) Q E s
  refine wpAny_bind (wpAny_evalAll_cons (thn ((pe_int (X := X) (i := k) (j := j) (pos := cp)).run pins s σ H (fun v H' => v = .int k ∧ H' = H) I ⟨rfl, rfl⟩) fun u s1 ⟨v, H1, I1, r1, e1, e2⟩ => wpAny_evalAll_nil ?_))
  subst e1
  rw [e2] at I1
  refine wpAny_bind (wpAny_holding (wpAny_pure ?_))
  rw [makeFunction_eq]
  simp only [List.zip_nil_right, List.filterMap_nil, List.isEmpty_nil, List.isEmpty_cons, if_true, pure_bind, Bool.false_eq_true, if_false]
  refine wpAny_bind (wpAny_newTextTuple ?_)
  have nt : H s1.heap.objs.size = none := I1.hok.fresh (Nat.le_refl _)
  have I2 : Inv X pins σ (upd H s1.heap.objs.size (.tup [.int k])) { s1 with heap := s1.heap.push { cls := .type "tuple", data := .seq [u].toArray } } :=
    I1.laid (t' := s1.toks) (a := s1.heap.objs.size) (o := .tup [.int k]) (fun b u q => Heap.get?_push_of_some _ q) (Nat.le_refl _) ⟨by show 1 ≤ sizeLine; decide, [u], .cons r1 .nil, _, Heap.get?_push_size _ rfl, rfl, _, rfl⟩
  have eH : ∀ b o, H b = some o → upd H s1.heap.objs.size (.tup [.int k]) b = some o := fun b o e => by rw [upd_ne (ne_of_none e nt)]; exact e
  refine lam_tail I2 TB hcode hm hu (hT.ext eH) hfree fun f c' pm ctv H3 s3 I3 hE hT3 ho hn hfr hc => ?_
  have ht : H3 s1.heap.objs.size = some (.tup [.int k]) := hE _ _ upd_same fun ps z => by cases z
  exact h f c' s1.heap.objs.size pm ctv H3 s3 I3 ((ExtN.of eH).trans hE) hT3 ht ho hn hfr hc
end
end LamX
end
section
set_option maxHeartbeats 4000000
namespace LamX
open PySem PySem.Spec PyProof.Rows L2
/-- one parameter with a default, no further name of its own -/
structure LamD (N : List Str) (sc scope : Scope) (px : Str) : Prop where
  kind : scope.kind = .function
  co : scope.isCoroutine = false
  gen : scope.isGenerator = false
  own : ∀ y ∈ scope.names, y.2 ≠ .cell ∧ (y.2 = .local → y.1 ∉ N)
  par : scope.names.lookup px = some .local
  free : ∀ y ∈ scope.names, y.2 = .free → sc.names.lookup y.1 = some .cell ∨ sc.names.lookup y.1 = some .free
def lamDB (N : List Str) (sc scope : Scope) (px : Str) : Bool :=
  decide (scope.kind = .function) && (!scope.isCoroutine && (!scope.isGenerator && (decide (scope.names.lookup px = some .local) &&
    scope.names.all fun y => !decide (y.2 = .cell) && ((!decide (y.2 = .local) || !N.contains y.1) && (!decide (y.2 = .free) || decide (sc.names.lookup y.1 = some .cell) || decide (sc.names.lookup y.1 = some .free))))))
theorem lamD_by {N : List Str} {sc scope : Scope} {px : Str} (h : lamDB N sc scope px = true) : LamD N sc scope px := by
  unfold lamDB at h
  simp only [Bool.and_eq_true, Bool.or_eq_true, Bool.not_eq_true', decide_eq_true_eq, decide_eq_false_iff_not, List.all_eq_true] at h
  obtain ⟨h1, h2, h3, h4, h5⟩ := h
  refine ⟨h1, h2, h3, fun y hy => ⟨(h5 y hy).1, fun e => ?_⟩, h4, fun y hy e => ?_⟩
  · rcases (h5 y hy).2.1 with z | z
    · exact absurd e z
    · intro m
      rw [List.contains_iff_mem.mpr m] at z
      cases z
  · rcases (h5 y hy).2.2 with (z | z) | z
    · exact absurd e z
    · exact .inl z
    · exact .inr z
theorem LamD.has {X : Cx} {scope : Scope} {px : Str} (L : LamD X.N X.env.scope scope px) (ok : X.Ok) : ∀ y ∈ scope.names, y.2 = .free → ∃ c, X.env.cells.lookup y.1 = some c := fun y hy e => by
  rcases L.free y hy e with k | k
  · exact ok.has _ (.inl k)
  · exact ok.has _ (.inr k)
section
variable {X : Cx} {pins : List (Addr × Obj)} {σ : L2.St} {H HZ : Hp} {s s1 : Shared}
theorem lam_startD {A : Around} {outer : List Env} {E : XK} {scope : Scope} {px : Str} {u : Value} {f c' : Addr} {h₁ : Heap} {tk : Nat} (I : Inv X pins σ H s) (L : LamD X.N X.env.scope scope px) (e0 : Env0 X.prog X.w X.K X.mg X.base A outer s1 HZ) (hd : A.handled = none)
    (un : Un (frs X.stack) [] H HZ s.heap s1.heap) (hns : h₁.Ns s1.heap.objs.size fun y => ([(px, u)] : List (Str × Value)).reverse.lookup y) (kp : ∀ b o, s1.heap.get? b = some o → h₁.get? b = some o) :
    Inv (lamCx X A outer s1 HZ E scope f c') [] σ HZ { s1 with heap := h₁, toks := tk } := by
  have hfree := L.has I.ok
  have cm : ∀ {y c}, (cloFrom X.env.cells scope.names []).lookup y = some c → X.env.cells.lookup y = some c := fun {y c} e => by
    rcases cloFrom_mem (PySem.mem_of_lookup e) with hm | ⟨h1, h2⟩
    · cases hm
    · obtain ⟨c1, hc⟩ := hfree _ h1 rfl
      have hc : X.env.cells.lookup y = some c1 := hc
      have e2 : c = c1 := by
        rw [h2, hc] <;> rfl
      rw [e2]
      exact hc
  have look : ∀ {y}, scope.names.lookup y = some .free → ∃ c, (cloFrom X.env.cells scope.names []).lookup y = some c := fun {y} hl => by
    have hy : (y, NameKind.free) ∈ scope.names := PySem.mem_of_lookup hl
    exact mem_lookup (cloFrom_has (cells := X.env.cells) (acc := []) hy)
  have cellK : ∀ {c : Addr} {v : Option Value}, H c = none → s.heap.IsCell c v → h₁.IsCell c v := fun {c v} n ⟨o, ho, hd⟩ => by
    obtain ⟨sl, q⟩ := un.any ho n (by simp)
    exact ⟨_, kp _ _ q, hd⟩
  have noA : ∀ b : Addr, b ∉ (lamCx X A outer s1 HZ E scope f c').ex := fun b z => absurd (show b ∈ ([] : List Addr) from z) (by simp)
  refine ⟨⟨e0.mod, L.kind, rfl, rfl, Nat.le_refl _, fun y z c e1 e2 => I.ok.inj y z c (cm e1) (cm e2), fun y hy => ?_, fun y c z _ => ?_, fun _ => hd, Around.frames_deeper e0.frames, .inr ⟨rfl, rfl⟩, fun b z => absurd z (noA b), e0.bs, e0.bsz, fun b _ _ => noA b,
      fun b z => absurd z (noA b), e0.funs, e0.frf⟩,
    rfl, e0.bare, Un.kept kp, ⟨_, hns, fun i y v e1 e2 e3 => ?_⟩, fun y c e => ?_, e0.hok.fresh (Nat.le_refl _), fun y c e => ?_, fun q hq => absurd (show q ∈ ([] : List (Addr × Obj)) ++ [] from hq) (by simp), e0.hok.kept kp, I.len⟩
  · have hy : scope.names.lookup y = some .cell ∨ scope.names.lookup y = some .free := hy
    rcases hy with hy | hy
    · exact absurd rfl (L.own _ (PySem.mem_of_lookup hy)).1
    · exact look hy
  · have z : false = true := z
    cases z
  · have e3 : Vis scope y := e3
    rcases e3 with k | k | k
    · exact absurd (List.mem_of_getElem? (show X.N[i]? = some y from e1)) ((L.own _ (PySem.mem_of_lookup k)).2 rfl)
    · exact absurd rfl (L.own _ (PySem.mem_of_lookup k)).1
    · obtain ⟨m, hn, hl⟩ := I.loc
      have hvis : Vis X.env.scope y := (L.free _ (PySem.mem_of_lookup k) rfl).elim (fun k => .inr (.inl k)) (fun k => .inr (.inr k))
      obtain ⟨w', r, q⟩ := hl i y v e1 e2 hvis
      obtain ⟨c2, h2⟩ := look k
      refine ⟨w', r, .inr ⟨.inr k, c2, h2, ?_⟩⟩
      have c1 := cm h2
      rcases q with ⟨k', _⟩ | ⟨_, c3, e', z⟩
      · have k' : X.env.scope.names.lookup y = some .local := k'
        rcases L.free _ (PySem.mem_of_lookup k) rfl with k2 | k2 <;> rw [show X.env.scope.names.lookup y = _ from k2] at k' <;> cases k'
      · rw [c1] at e'
        cases e'
        exact cellK (I.freeC y _ c1) z
  · obtain ⟨w', z⟩ := I.cell y c (cm e)
    exact ⟨w', cellK (I.freeC y c (cm e)) z⟩
  · obtain ⟨v, o, ho, hd⟩ := I.cell y c (cm e)
    exact un.free c o ho (I.freeC y c (cm e)) (by simp)
/-- x(), in the def that got the lambda -/
theorem pe_actD {CXg : CXT} {Eg : XK} {Ng : List Str} {qg : Str} {sg : Scope} {g f c' tu : Addr} {px : Str} {kd : Int} {cdg pm ctv : Value} {params : Arguments} {body : Expr} {scope : Scope} {k i : Nat} {a : Str} {pn : List (Addr × Obj)} {xe : Value → Shared → Prop} {W : WX} {E : XK} {tb : TE} {p1 p2 : Pos}
    (I : Inv X pins σ H s) (L : LamD X.N X.env.scope scope px) (hf : s.heap.get? f = some (PySem.W.kld_obj "<lambda>" (X.env.qual ++ "<lambda>") params body scope (cloFrom X.env.cells scope.names []) (.ref tu) pm c' ctv)) (hfn : H f = none) (hfr : f ∉ frs X.stack)
    (hbind : ∀ u : Value, ∃ kf, bindArgs (PySem.W.kld_fn "<lambda>" (X.env.qual ++ "<lambda>") params body scope (cloFrom X.env.cells scope.names []) (.ref tu) pm (.ref c') ctv) ⟨[], []⟩ = seqItems? (.ref tu) >>= kf ∧ kf (some #[u]) = pure [(px, u)])
    (tk : Takes ((cxOf CXg X.prog X.w X.K X.mg X.base Ng qg sg g cdg X.A X.stack s H Eg).tr pn xe) W) (hW : ∀ cls d σ' H', E cls d H' → W cls d σ' H') (hr : Room (k + 1) (X.A.deeper (envOfC qg sg s.heap.objs.size g cdg)))
    (hbody : ∀ (A : Around) (outer : List Env) (s : Shared) (H : Hp), Room k (A.deeper (lamEnv X scope s.heap.objs.size f c')) → PE (lamCx X A outer s H E scope f c') body tb)
    (hN : Ng[i]? = some a) (hv : Vis sg a) (hd : (a == ("__debug__" : Str)) = false := by decide) (hcd : (a == ("__classdict__" : Str)) = false := by decide) :
    PE ((cxOf CXg X.prog X.w X.K X.mg X.base Ng qg sg g cdg X.A X.stack s H Eg).tr pn xe) (.Call (.Name a p1) [] [] p2)
      (fun σZ HZ Q => σZ[i]? = some (some (.ref f)) ∧ HZ c' = some (CodeO c' (X.env.qual ++ "<lambda>")) ∧ (HZ tu = some (.tup [.int kd]) ∧ tb σ HZ Q)) := by
  refine ⟨fun pinsZ sZ σZ HZ Q IZ h => ?_⟩
  obtain ⟨hs, hc, htu, ht⟩ := h
  refine wpAny_Call_Name_kw (thn ((pe_var (pos := p1) (i := i) hN hv hd hcd).run pinsZ sZ σZ HZ (fun v H1 => v = .ref f ∧ H1 = HZ) IZ ⟨.ref f, hs, rfl, rfl⟩) fun u s1 ⟨v, H1, I1, r1, q1⟩ => ?_)
  obtain ⟨ev, eH⟩ := q1
  subst ev
  rw [eH] at I1
  obtain rfl : u = Value.ref f := r1
  have of1 : s1.heap.get? f = some (PySem.W.kld_obj "<lambda>" (X.env.qual ++ "<lambda>") params body scope (cloFrom X.env.cells scope.names []) (.ref tu) pm c' ctv) := I1.base.keep f _ hf hfn hfr (fun z => nomatch (show f ∈ ([] : List Addr) from z))
  refine PySem.W.callWith_F0 ⟨_, _, _, _, of1⟩ ?_
  have un : Un (frs X.stack) [] H HZ s.heap s1.heap := I1.base
  obtain ⟨⟨oc, vs, t, hoc, hdc, hvc⟩, _, _⟩ := I1.hok c' _ hc
  have rc : codeAny (model X.prog X.w) (X.A.deeper (envOfC qg sg s.heap.objs.size g cdg)) (.call (.ref f) ⟨[], []⟩) (CR (L2.CX X.prog X.w) (envOfC qg sg s.heap.objs.size g cdg :: X.stack) X.prog X.w HZ s1 Q E) s1 := by
    refine PySem.W.kla_callFunE hr.depth of1 rfl L.co L.gen rfl ⟨c', oc, vs, t, rfl, hoc, hdc, hvc⟩ ?_
    obtain ⟨its, rv, hT, hz⟩ := I1.tuple (SqT.of htu)
    obtain ⟨ot, hot, _, n, hdt⟩ := hT
    cases rv with
    | @cons _ u _ us ru rn =>
      cases rn
      obtain ⟨kf, hb1, hb2⟩ := hbind u
      refine BindsTo.of_defaults (fd := PySem.W.kld_fn "<lambda>" (X.env.qual ++ "<lambda>") params body scope (cloFrom X.env.cells scope.names []) (.ref tu) pm (.ref c') ctv) (args := ⟨[], []⟩) (o := ot) (items := #[u]) rfl hot hdt hb1 hb2 _ _ _ _ ?_
      refine wpAny_newFunctionEnv (fun y hy => (L.own y hy).1) (fun y hy => ?_) (fun h₁ hns hsb => ⟨I1.nolimit.fresh _ hsb, ?_⟩) L.kind
      · rw [List.mem_singleton.mp hy]
        exact L.par
      show codeAny _ _ (.expr body (lamEnv X scope s1.heap.objs.size f c')) _ _
      have kp : ∀ b o, s1.heap.get? b = some o → h₁.get? b = some o := fun b o e => hsb.extBut b o (Nat.ne_of_lt (Heap.lt_size e)) (Heap.get?_push_of_some _ e)
      have J : Inv (lamCx X (X.A.deeper (envOfC qg sg s.heap.objs.size g cdg)) (envOfC qg sg s.heap.objs.size g cdg :: X.stack) s1 HZ E scope f c') [] σ HZ { s1 with heap := h₁, toks := s1.toks + ([(px, u)] : List (Str × Value)).length } :=
        lam_startD I L I1.env0 hr.hd un hns kp
      refine PySem.W.kla_codeExpr (wpAny_mono ((hbody _ _ s1 HZ (hr.deeper _)).run [] _ _ HZ Q J ht) (fun v s' hq => ?_) fun e s' hq => hq)
      obtain ⟨w', H', J', rv, q⟩ := hq
      exact ⟨w', H', J'.os, J'.bare, J'.base, J'.hok, rv, q⟩
  have hx : Passes (L2.CX X.prog X.w) ((cxOf CXg X.prog X.w X.K X.mg X.base Ng qg sg g cdg X.A X.stack s H Eg).tr pn xe) E := passes_call tk hW
  refine wpAny_call (codeAny_mono rc fun r s' hq => ?_)
  cases r with
  | error e => exact hx pinsZ σZ HZ s1 e s' I1 hq
  | ok fl =>
    cases fl with
    | ret u => exact I1.after hq
    | next => exact False.elim hq
    | brk => exact False.elim hq
    | cont => exact False.elim hq
end
/-- x(lambda y=k: body): T's tables, the tuple of the default -/
def tLamD (T : List (Addr × Str)) (kd : Int) (TT : (XK → Hp → VK → Prop) → Hp → VK → Prop) (t : XK → TE) : TE := fun σ H Q => Tabs T H ∧ ∀ H1 tu, ExtN H H1 → Tabs T H1 → H1 tu = some (.tup [.int kd]) → TT (fun E H' Q' => H' tu = some (.tup [.int kd]) ∧ t E σ H' Q') H1 Q
section
variable {X : Cx}
theorem pe_lamcallD {T : List (Addr × Str)} {TT : (XK → Hp → VK → Prop) → Hp → VK → Prop} {x a px : Str} {g c P : Addr} {k j : Nat} {kd : Int} {pg : Arguments} {bg : List Stmt} {sg : Scope} {dV kV doc pm cdv ct oc : Value} {an od : Option Addr} {osl : Array (Option Value)} {Ng : List Str}
    {params : Arguments} {body : Expr} {scope : Scope} {t : XK → TE} {p lpos cp pos : Pos} (hg : Gl X x) (hm : X.mg x = some (.ref g)) (hk : PySem.W.keepIn X.K (.ref g) = true)
    (lk : X.K.lookup g = some ⟨oc, od, .func (PySem.W.fnOf x x pg bg sg dV kV doc pm an cdv ct), osl⟩) (hcg : PySem.W.codeIn X.K cdv x = true) (hb : L2.Binds X.K (PySem.W.fnOf x x pg bg sg dV kV doc pm an cdv ct) [a] []) (Sg : FnScope Ng [a] sg) (hNg : Ng[0]? = some a) (hva : Vis sg a)
    (hG : GivesTo X Ng x sg g cdv bg a (X.env.qual ++ "<lambda>") TT)
    (TB : TabB X.base X.mg c P) (hcode : X.env.code = .ref c) (hmT : (P, X.env.qual ++ "<lambda>") ∈ T) (hu : ∀ p ∈ T, p.1 = P → p.2 = X.env.qual ++ "<lambda>") (hr : Room (k + 2) X.A) (L : LamD X.N X.env.scope scope px) (hdef : defaultsOf params X.env = ([eval (.Constant (.int kd) j cp) X.env], []))
    (hbind : ∀ (q : Str) (cl : List (Str × Addr)) (tu : Addr) (pm cv ctv u : Value), ∃ kf, bindArgs (PySem.W.kld_fn "<lambda>" q params body scope cl (.ref tu) pm cv ctv) ⟨[], []⟩ = seqItems? (.ref tu) >>= kf ∧ kf (some #[u]) = pure [(px, u)])
    (hbody : ∀ (A : Around) (outer : List Env) (s : Shared) (H : Hp) (E : XK) (f c' : Addr), Room k (A.deeper (lamEnv X scope s.heap.objs.size f c')) → PE (lamCx X A outer s H E scope f c') body (t E))
    (hdb : (x == ("__debug__" : Str)) = false := by decide) (hd : (a == ("__debug__" : Str)) = false := by decide) (hcd : (a == ("__classdict__" : Str)) = false := by decide) :
    PE X (.Call (.Name x p) [.Lambda params body scope lpos] [] pos) (tLamD T kd TT t) := by
  refine ⟨fun pins s σ H Q I h => ?_⟩
  obtain ⟨hT, h⟩ := h
  refine wpAny_Call_Name_kw (ld_glob I hg hm ?_ hdb)
  refine PySem.W.callWith_K (h₀ := X.base) I.ok.mod.kin hk ?_ (by rfl) (by rfl)
  show wpAny _ _ (spliced ((false, eval (.Lambda params body scope lpos) X.env) :: backTo pos (starEach [] X.env))) _ _ s
  refine Calls.spliced_cons (lam_makeD I TB hcode hmT hu hT hdef (L.has I.ok) fun f c' tu pm' ctv H1 s' I1 eN T1 htu hf hfn hfr hco => ?_)
  refine Calls.spliced_nil ⟨I1.kIn, ?_⟩
  have rc : codeAny (model X.prog X.w) X.A (.call (.ref g) ⟨[.ref f], []⟩) (CR C8.CX0 X.stack X.prog X.w H1 s' Q C8.E0) s' := by
    refine run_ofS (N := Ng) (ps := [a]) (us := [.ref f]) (vs := [.ref f]) lk hcg Sg hr I1.env0 (hb s' [.ref f] I1.kIn rfl) (.cons rfl .nil) rfl fun hr' => ?_
    obtain ⟨t', ht', hq'⟩ := hG f c' s' H1 Q (fun E H' Q' => H' tu = some (.tup [.int kd]) ∧ t E σ H' Q') (fun W pn xe E p1 p2 tk hW => pe_actD (i := 0) I1 L hf hfn hfr (fun u => hbind _ _ _ _ _ _ u) tk hW hr' (fun A outer s H hr2 => hbody A outer s H E f c' hr2) hNg hva hd hcd) hco (h H1 tu eN T1 htu)
    exact ⟨t', ht'.nox, hq'⟩
  refine wpAny_call (codeAny_mono rc fun r s2 hq => ?_)
  cases r with
  | error e => exact (show False from hq).elim
  | ok fl =>
    cases fl with
    | ret u => exact I1.after hq
    | next => exact False.elim hq
    | brk => exact False.elim hq
    | cont => exact False.elim hq
end
end LamX
end
section
set_option maxHeartbeats 4000000
namespace Kx
open PySem PySem.Spec PyProof.Rows L2
/-! ### the errors -/
/-- what an own __init__ of n parameters leaves: fs of the values -/
def spIn (C : Addr) (n : Nat) (fs : List V → List (Str × V)) : Sp := fun vs H Q _ => ∃ (a : Addr) (ws : List V), vs = .ref a :: ws ∧ ws.length = n ∧ H a = some (exo a C none) ∧
  ∀ e H', e ≠ a → H e = none → H' a = some (exo a C (some e)) → H' e = some (exd e (fs ws)) → free3 H H' a e → Q .non H'
/-- one value -/
def fs1 (nm at_ : Str) (ws : List V) : List (Str × V) := match ws with
  | [v] => [(at_, v), ("code", .str nm)]
  | _ => []
/-- two values -/
def fs2 (nm at1 at2 : Str) (ws : List V) : List (Str × V) := match ws with
  | [v, u] => [(at2, u), (at1, v), ("code", .str nm)]
  | _ => []
/-- what stands of such a class: it may be made, its __init__ keeps its promise -/
structure ErrC (P : Program) (w : World) (K : PySem.W.Frag) (mg : Str → Option Value) (base : Heap) (nm : Str) (n : Nat) (fs : List V → List (Str × V)) (C : Addr) : Prop where
  T : XC K C
  ty : PySem.W.typeIn K (.ref C) = some (.type "type")
  m : mg nm = some (.ref C)
  i : ∃ (fI : Addr) (fd : FuncData) (ps : List Str), PySem.W.findIn K (.ref C) "__init__" = some (some (.ref fI)) ∧ PySem.W.isFn K (.ref fI) = true ∧ FnOk P w K mg base CX0 1 fI fd ps (spIn C n fs) ∧ Binds K fd ps []
/-- such an error is in the air -/
def Air (H : Hp) (C : Addr) (fs : List (Str × V)) (E : XK) : Prop := ∀ d H', Same H H' → H d = none → H' d = some (.xd fs) → E (.ref C) (some d) H'
theorem Air.same {H H' : Hp} {C : Addr} {fs : List (Str × V)} {E : XK} (h : Air H C fs E) (s : Same H H') : Air H' C fs E := fun d H2 s2 n e => h d H2 (s.trans s2) (s.free n) e
/-- one is made: from the promise of its __init__ -/
theorem air_of {H : Hp} {a C : Addr} {n : Nat} {fs : List V → List (Str × V)} {ws : List V} {E : XK} (hn : H a = none) (l : ws.length = n) (h : Air H C (fs ws) E) :
    spIn C n fs (.ref a :: (ws ++ [])) (upd H a (exo a C none)) (fun v H2 => v = .non ∧ ∃ (d : Addr) (gs : List (Str × V)), H2 a = some (exo a C (some d)) ∧ H2 d = some (exd d gs) ∧ H d = none ∧ E (.ref C) (some d) (upd (del H2 a) d (.xd gs))) (fun _ _ _ => False) := by
  refine ⟨a, ws, by rw [List.append_nil], l, upd_same, fun e H' ne he h1 h2 h3 => ⟨rfl, e, _, h1, h2, ?_, ?_⟩⟩
  · rw [upd_ne ne] at he
    exact he
  · have he' : H e = none := by rw [upd_ne ne] at he; exact he
    refine h e _ (fun b o hb => ?_) he' upd_same
    have b1 : b ≠ a := fun z => by rw [z, hn] at hb; cases hb
    have b2 : b ≠ e := fun z => by rw [z, he'] at hb; cases hb
    rw [upd_ne b2, del_ne b1, h3 b b1 b2, upd_ne b1]
    exact hb
section
variable {P : Program} {w : World} {K : PySem.W.Frag} {mg : Str → Option Value} {base : Heap} {f C : Addr} {fd : FuncData}
theorem scI2 : FnScope ["self", "at"] ["self", "at"] (defScope C_InvalidFraction_init) := ⟨rfl, rfl, rfl, by decide +kernel, rfl, by decide +kernel, by decide +kernel⟩
theorem scI3 : FnScope ["self", "value"] ["self", "value"] (defScope C_InvalidOrder_init) := ⟨rfl, rfl, rfl, by decide +kernel, rfl, by decide +kernel, by decide +kernel⟩
theorem scI5 : FnScope ["self", "one", "other"] ["self", "one", "other"] (defScope C_UnlikeOrders_init) := ⟨rfl, rfl, rfl, by decide +kernel, rfl, by decide +kernel, by decide +kernel⟩
theorem scI6 : FnScope ["self", "value"] ["self", "value"] (defScope C_InvalidPlace_init) := ⟨rfl, rfl, rfl, by decide +kernel, rfl, by decide +kernel, by decide +kernel⟩
theorem init_2 (F : Fun K "__init__" "InvalidFraction.__init__" C_InvalidFraction_init f fd) (T : XC K C) (n0 : PySem.W.findIn K (.ref C) "code" = some none) (n1 : PySem.W.findIn K (.ref C) "at" = some none) : FnOk P w K mg base CX0 1 f fd ["self", "at"] (spIn C 1 (fs1 "InvalidFraction" "at")) := by
  refine F.ok scI2 (fun vs H Q E h => ?_) (fun cdv A outer s H vs Q E hr h => ?_)
  · obtain ⟨a, ws, rfl, l, _⟩ := h
    exact congrArg Nat.succ l
  obtain ⟨a, ws, rfl, l, ha, q⟩ := h
  obtain ⟨v, rfl⟩ : ∃ v, ws = [v] := by match ws, l with | [v], _ => exact ⟨v, rfl⟩
  refine ⟨_, pss_cons (ps_xst (pv 0) pe_str) (pss_one (ps_xst (pv 0) (pv 1))), ?_⟩
  refine ⟨_, rfl, a, _, rfl, T, n0, .inl ⟨ha, fun e H1 ne he h1 h2 h3 => ?_⟩⟩
  refine ⟨_, rfl, _, rfl, a, _, rfl, T, n1, .inr ⟨e, _, h1, h2, (by show 1 ≤ 900; decide), ?_⟩⟩
  exact q e _ ne he (by rw [upd_ne (Ne.symm ne)]; exact h1) (by rw [upd_same]; rfl) (fun b b1 b2 => by rw [upd_ne b2]; exact h3 b b1 b2)
theorem init_3 (F : Fun K "__init__" "InvalidOrder.__init__" C_InvalidOrder_init f fd) (T : XC K C) (n0 : PySem.W.findIn K (.ref C) "code" = some none) (n1 : PySem.W.findIn K (.ref C) "value" = some none) : FnOk P w K mg base CX0 1 f fd ["self", "value"] (spIn C 1 (fs1 "InvalidOrder" "value")) := by
  refine F.ok scI3 (fun vs H Q E h => ?_) (fun cdv A outer s H vs Q E hr h => ?_)
  · obtain ⟨a, ws, rfl, l, _⟩ := h
    exact congrArg Nat.succ l
  obtain ⟨a, ws, rfl, l, ha, q⟩ := h
  obtain ⟨v, rfl⟩ : ∃ v, ws = [v] := by match ws, l with | [v], _ => exact ⟨v, rfl⟩
  refine ⟨_, pss_cons (ps_xst (pv 0) pe_str) (pss_one (ps_xst (pv 0) (pv 1))), ?_⟩
  refine ⟨_, rfl, a, _, rfl, T, n0, .inl ⟨ha, fun e H1 ne he h1 h2 h3 => ?_⟩⟩
  refine ⟨_, rfl, _, rfl, a, _, rfl, T, n1, .inr ⟨e, _, h1, h2, (by show 1 ≤ 900; decide), ?_⟩⟩
  exact q e _ ne he (by rw [upd_ne (Ne.symm ne)]; exact h1) (by rw [upd_same]; rfl) (fun b b1 b2 => by rw [upd_ne b2]; exact h3 b b1 b2)
theorem init_6 (F : Fun K "__init__" "InvalidPlace.__init__" C_InvalidPlace_init f fd) (T : XC K C) (n0 : PySem.W.findIn K (.ref C) "code" = some none) (n1 : PySem.W.findIn K (.ref C) "value" = some none) : FnOk P w K mg base CX0 1 f fd ["self", "value"] (spIn C 1 (fs1 "InvalidPlace" "value")) := by
  refine F.ok scI6 (fun vs H Q E h => ?_) (fun cdv A outer s H vs Q E hr h => ?_)
  · obtain ⟨a, ws, rfl, l, _⟩ := h
    exact congrArg Nat.succ l
  obtain ⟨a, ws, rfl, l, ha, q⟩ := h
  obtain ⟨v, rfl⟩ : ∃ v, ws = [v] := by match ws, l with | [v], _ => exact ⟨v, rfl⟩
  refine ⟨_, pss_cons (ps_xst (pv 0) pe_str) (pss_one (ps_xst (pv 0) (pv 1))), ?_⟩
  refine ⟨_, rfl, a, _, rfl, T, n0, .inl ⟨ha, fun e H1 ne he h1 h2 h3 => ?_⟩⟩
  refine ⟨_, rfl, _, rfl, a, _, rfl, T, n1, .inr ⟨e, _, h1, h2, (by show 1 ≤ 900; decide), ?_⟩⟩
  exact q e _ ne he (by rw [upd_ne (Ne.symm ne)]; exact h1) (by rw [upd_same]; rfl) (fun b b1 b2 => by rw [upd_ne b2]; exact h3 b b1 b2)
theorem init_5 (F : Fun K "__init__" "UnlikeOrders.__init__" C_UnlikeOrders_init f fd) (T : XC K C) (n0 : PySem.W.findIn K (.ref C) "code" = some none) (n1 : PySem.W.findIn K (.ref C) "one" = some none) (n2 : PySem.W.findIn K (.ref C) "other" = some none) : FnOk P w K mg base CX0 1 f fd ["self", "one", "other"] (spIn C 2 (fs2 "UnlikeOrders" "one" "other")) := by
  refine F.ok scI5 (fun vs H Q E h => ?_) (fun cdv A outer s H vs Q E hr h => ?_)
  · obtain ⟨a, ws, rfl, l, _⟩ := h
    exact congrArg Nat.succ l
  obtain ⟨a, ws, rfl, l, ha, q⟩ := h
  obtain ⟨v, u, rfl⟩ : ∃ v u, ws = [v, u] := by match ws, l with | [v, u], _ => exact ⟨v, u, rfl⟩
  refine ⟨_, pss_cons (ps_xst (pv 0) pe_str) (pss_cons (ps_xst (pv 0) (pv 1)) (pss_one (ps_xst (pv 0) (pv 2)))), ?_⟩
  refine ⟨_, rfl, a, _, rfl, T, n0, .inl ⟨ha, fun e H1 ne he h1 h2 h3 => ?_⟩⟩
  refine ⟨_, rfl, _, rfl, a, _, rfl, T, n1, .inr ⟨e, _, h1, h2, (by show 1 ≤ 900; decide), ?_⟩⟩
  refine ⟨_, rfl, _, rfl, a, _, rfl, T, n2, .inr ⟨e, _, (by rw [upd_ne (Ne.symm ne)]; exact h1), upd_same, (by show 2 ≤ 900; decide), ?_⟩⟩
  exact q e _ ne he (by rw [upd_ne (Ne.symm ne), upd_ne (Ne.symm ne)]; exact h1) (by rw [upd_same]; rfl) (fun b b1 b2 => by rw [upd_ne b2, upd_ne b2]; exact h3 b b1 b2)
end
end Kx
end
section
set_option maxHeartbeats 4000000
/-! enumerate over a tuple -/
namespace PySem
open Sem (wp)
open AutoSeq1 (wpAny_loadPart')
theorem meets_enumerate_newT (l : Addr) (items : Array Value) (n : Nat) (dct : Option Addr) (sl : Array (Option Value)) :
    Meets (Builtin.«enumerate.__new__» ⟨[.type "enumerate", .ref l], []⟩) (fun _ R s => s.heap.get? l = some { cls := .type "tuple", dict := dct, data := .seq items n, slots := sl } ∧
      R (.ok (.ret (.ref (s.heap.push { cls := .type "tuple_iterator", data := .fields #[.ref l, .int 0 0] }).objs.size)))
        { s with heap := (s.heap.push { cls := .type "tuple_iterator", data := .fields #[.ref l, .int 0 0] }).push { cls := .type "enumerate", data := .fields #[.none, .bool false, .ref s.heap.objs.size, rawInt 0, .none, .none] } }) :=
  .of_wp fun prog w A R s h => by
    obtain ⟨hp, g, d, tk, os⟩ := s; obtain ⟨hl, h⟩ := h
    have hsub := sub_enumerate
    have hL : Heap.IsTuple (Shared.heap ⟨hp, g, d, tk, os⟩) l items := ⟨_, hl, rfl, n, rfl⟩
    wp_walk using wpAny_loadPart' hl
    refine wpAny_stack_any fun st => wpAny_pure ?_
    split
    · rename_i c _ _ _ _ _
      cases (c == Value.type "enumerate")
      · wp_walk using wpAny_loadPart' hl, wpAny_pyIter_tuple hL
        exact ⟨_, rfl, h⟩
      · wp_walk using wpAny_loadPart' hl, wpAny_pyIter_tuple hL
        exact ⟨_, rfl, h⟩
    · wp_walk using wpAny_loadPart' hl, wpAny_pyIter_tuple hL
      exact ⟨_, rfl, h⟩
section
variable {prog : Program} {w : World} {A : Around} {E : Value → Shared → Prop} {s : Shared}
theorem call_enumerate_tup {l : Addr} {items : Array Value} {Q : Value → Shared → Prop} (hL : s.heap.IsTuple l items)
    (h : ∀ h', IsEnum h' (s.heap.objs.size + 1) s.heap.objs.size 0 .none → h'.IsTupleIter s.heap.objs.size l 0 → h'.objs.size = s.heap.objs.size + 2 →
      (∀ b o, s.heap.get? b = some o → h'.get? b = some o) → Q (.ref (s.heap.objs.size + 1)) { s with heap := h' }) :
    wpAny (model prog w) A (call (.type "enumerate") [.ref l]) Q E s := by
  obtain ⟨⟨c, dct, dt, sl⟩, hl, hc, n, hd⟩ := hL
  replace hc : c = .type "tuple" := hc
  replace hd : dt = .seq items n := hd
  subst hc hd
  refine callType_new F.called_enumerate (by decide) (F.typeCall_enumerate_1 _) (F.newCall_enumerate_1 _) (fun obj => F.args_object_init_2 obj _) F.entry_enumerate_new
    (meets_enumerate_newT l items n dct sl) ⟨hl, ?_⟩
  have hz : (s.heap.push { cls := .type "tuple_iterator", data := .fields #[.ref l, .int 0 0] }).objs.size = s.heap.objs.size + 1 := Heap.size_push ..
  show _ ∧ _
  rw [hz]
  have he : IsEnum ((s.heap.push { cls := .type "tuple_iterator", data := .fields #[.ref l, .int 0 0] }).push
      { cls := .type "enumerate", data := .fields #[.none, .bool false, .ref s.heap.objs.size, rawInt 0, .none, .none] }) (s.heap.objs.size + 1) s.heap.objs.size 0 .none := by
    have := Heap.get?_push_size (s.heap.push { cls := .type "tuple_iterator", data := .fields #[.ref l, .int 0 0] })
      (o := { cls := .type "enumerate", data := .fields #[.none, .bool false, .ref s.heap.objs.size, rawInt 0, .none, .none] }) rfl
    rw [hz] at this; exact this
  refine ⟨⟨_, he, rfl⟩, h _ he ⟨_, Heap.get?_push_of_some _ (Heap.get?_push_size _ rfl), rfl, rfl⟩ (by rw [Heap.size_push, hz]) fun b o x => Heap.get?_push_of_some _ (Heap.get?_push_of_some _ x)⟩
theorem wpAny_pyNext_enum_endT {e it l : Addr} {i : Nat} {items : Array Value} {old : Value} {Q : Option Value → Shared → Prop} (hh : A.handled = none)
    (he : IsEnum s.heap e it i old) (hit : s.heap.IsTupleIter it l i) (hl : s.heap.IsTuple l items) (hx : items[i]? = none)
    (hQ : ∀ h', Heap.ExtBut it s.heap h' → Q none { s with heap := h' }) : wpAny (model prog w) A (pyNext (.ref e)) Q E s := by
  have hT : s.TypeIs (.ref e) "enumerate" := ⟨_, he, rfl⟩
  unfold pyNext
  refine wpAny_bind (wpAny_attempt (wpAny_callSpecial?_slot (name := Str.ofString "__next__") hT F.slot_enumerate_next
    (wpAny_call_entry F.slot_enumerate_next hT F.entry_enumerate_next ?_ (F.args_enumerate_next_1 _))))
  show wpAny _ _ (field (.ref e) 2 >>= _) _ _ _
  refine wpAny_bind (wpAny_field he rfl (x := .ref it) rfl ?_)
  refine wpAny_bind (wpAny_nextOf_tuple_end hh hit hl hx fun h' x he' hx' => ?_)
  obtain ⟨o, ho, hc⟩ := hx'
  refine wpAny_bind (wpAny_isInstance (T := "StopIteration") (b := true) ⟨o, ho, hc⟩ isSubtype_stop ?_)
  exact wpAny_pure (hQ _ he')
end
end PySem
namespace L2
open PySem PySem.Spec PyProof.Rows
/-- the tuple at a as it stands at each turn, each item in a new pair -/
def IteT (K : PySem.W.Frag) (a : Addr) : It :=
  ⟨fun i H => ∃ (xs : List V) (x : V), SqT K H a xs ∧ xs[i]? = some x, fun i H v H' => ∃ T x, v = .ref T ∧ H T = none ∧ H' = upd H T (.tup [.int (i : Nat), x]) ∧ ∀ xs, SqT K H a xs → xs[i]? = some x, fun i H => ∃ xs : List V, SqT K H a xs ∧ xs.length ≤ i⟩
theorem turn_enumT {P : Program} {w : World} {K : PySem.W.Frag} {elts : List Expr} {kk : Nat} {tpos : Pos} (a e it : Addr) (hai : a ≠ it) :
    Turn P w K (.Tuple elts kk tpos) (IteT K a) [e, it] e (fun i h => (∃ old, IsEnum h e it ((i : Nat) : Int) old) ∧ h.IsTupleIter it a i ∧ e ≠ it ∧ e ≠ a) where
  mem := by simp
  obj := fun i h st b hb => by
    obtain ⟨⟨old, he⟩, ⟨o, ho, hc, hd⟩, _⟩ := st
    have e' : b = e ∨ b = it := by simpa using hb
    rcases e' with z | z
    · rw [z]; exact ⟨_, he, fun v q => nomatch q⟩
    · rw [z]; exact ⟨o, ho, fun v q => by rw [hd] at q; cases q⟩
  keep := fun i h h' st k => let ⟨⟨old, he⟩, hi, hne⟩ := st; ⟨⟨old, k e (by simp) _ he⟩, hi.at fun o q => k it (by simp) o q, hne⟩
  item := by
    intro X hP hw hK hc i pins s σ H E I hf st hg
    subst hP hw hK
    obtain ⟨⟨old, he⟩, hit, hne, hna⟩ := st
    obtain ⟨xs, x, hq, hx⟩ := hg
    obtain ⟨its, rv, p, hz⟩ := I.tuple hq
    obtain ⟨u, hu, ru⟩ := rv.get hx
    have hel : e < s.heap.objs.size := Heap.lt_size he
    have hil : it < s.heap.objs.size := by obtain ⟨_, q, _⟩ := hit; exact Heap.lt_size q
    have hsz0 : i < its.toArray.size := by
      have := (List.getElem?_eq_some_iff.mp hu).1
      simpa using this
    refine wpAny_pyNext_enum_itemD (Draws.tuple (prog := X.prog) (w := X.w) (A := X.A.in1) (I.ok.hd hc) it a hai its.toArray) he ⟨hit, p⟩ hsz0 hne (by simp [hne, hna]) fun x' h' tk hx' ho hit' hT hsz hk => ?_
    have ex : x' = u := by
      have h2 : its.toArray[i]? = some u := by simpa using hu
      rw [h2] at hx'
      exact (Option.some.inj hx').symm
    subst ex
    refine ⟨_, rfl, wpAny_letOwnedTupleGo_enum (s := { s with heap := h', toks := tk + 1 }) ho fun h'' he' sb => ?_⟩
    have hT2 : h''.get? s.heap.objs.size = some { cls := .type "tuple", data := .seq #[.int i tk, x'] } := (sb.2 _ (Nat.ne_of_gt hel)).trans hT
    have new : ObjOk X.prog X.w (upd H s.heap.objs.size (.tup [.int (i : Nat), x])) h'' s.heap.objs.size (.tup [.int (i : Nat), x]) :=
      ⟨by show 2 ≤ sizeLine; decide, [.int i tk, x'], .cons ⟨_, rfl⟩ (.cons ru .nil), ⟨_, hT2, rfl, _, rfl⟩⟩
    have I1 : Inv X pins σ (upd H s.heap.objs.size (.tup [.int (i : Nat), x])) { s with heap := h'', toks := tk + 1 } :=
      I.turnedNew (ch := [e, it]) (fun b ob hb q => (sb.2 b (fun z => hb (by simp [z]))).trans (hk b ob (fun z => hb (by simp [z])) (fun z => hb (by simp [z])) q)) hf (Nat.le_refl _) new
    refine ⟨.ref s.heap.objs.size, _, I1, rfl, ⟨_, x, rfl, I.hok.fresh (Nat.le_refl _), rfl, fun ys hy => by rw [I.tuple_inj hy hq]; exact hx⟩, ⟨⟨x', ?_⟩, hit'.1.at fun o q => (sb.2 it (Ne.symm hne)).trans q, hne, hna⟩, fun b hb => ?_⟩
    · have e1 : ((i + 1 : Nat) : Int) = (i : Int) + 1 := by omega
      rw [e1]; exact he'
    · have hb' : b < s.heap.objs.size := by
        have e' : b = e ∨ b = it := by simpa using hb
        rcases e' with z | z
        · rw [z]; exact hel
        · rw [z]; exact hil
      rw [upd_ne (Nat.ne_of_lt hb')]
      exact (hf b hb).1
  done := by
    intro X hP hw hK hc i pins s σ H E I hf st hg
    subst hP hw hK
    obtain ⟨⟨old, he⟩, hit, hne, hna⟩ := st
    obtain ⟨xs, hq, hx⟩ := hg
    obtain ⟨its, rv, p, hz⟩ := I.tuple hq
    obtain ⟨f0, f1, f2, f3, f4, f5⟩ := hf it (by simp)
    have hl := rv.length
    have D := Draws.tuple (prog := X.prog) (w := X.w) (A := X.A.in1) (I.ok.hd hc) it a hai its.toArray
    refine wpAny_pyNext_enum_endT (I.ok.hd hc) he hit p (by simp; omega) fun h' eb => ⟨rfl, I.turned (t' := s.toks) (fun b o hb q => eb b o hb q) f0 f1 f3 f4 f5⟩
  self := fun A i s Q E st h => let ⟨⟨_, he⟩, _⟩ := st; wpAny_pyIter_enum he h
/-- a list or a tuple -/
def iEnumA (K : PySem.W.Frag) (ta : TA) : TI := fun σ H R => ta σ H fun vs H1 => ∃ a xs, vs = [.ref a] ∧ ((SqL K H1 a xs ∧ R (Ite K a) H1) ∨ (SqT K H1 a xs ∧ R (IteT K a) H1))
theorem pi_enumA {X : Cx} {e : Expr} {ta : TA} {p pos tpos : Pos} {elts : List Expr} {kk : Nat} (hg : Gl X "enumerate") (hm : X.mg "enumerate" = none) (ha : PA X [e] ta) (hs : starEach [e] X.env = [(false, eval e X.env)] := by rfl) :
    PI X (.Tuple elts kk tpos) (.Call (.Name "enumerate" p) [e] [] pos) (iEnumA X.K ta) := by
  refine ⟨fun pins s σ H R I h => ?_⟩
  refine Call_ (ld_blt I hg hm boot_enumerate (PyProof.Rows.callWith_type1 (thn (ha.run pos pins s σ H _ I h) fun us s1 ⟨vs, H1, I1, r1, q1⟩ => ?_) hs rfl))
  obtain ⟨a, xs, ex, hq⟩ := q1
  subst ex
  cases r1 with
  | cons r rr =>
    cases rr
    cases r
    rcases hq with ⟨hq, q⟩ | ⟨hq, q⟩
    · obtain ⟨its, rv, p', hz⟩ := I1.list hq
      refine call_enumerate_list p'.isList fun h' he hit hsz hk => wpAny_pyIter_enum he ?_
      have I2 : Inv X pins σ H1 { s1 with heap := h' } := I1.kept (t' := s1.toks) hk
      refine ⟨s1.heap.objs.size + 1, [s1.heap.objs.size + 1, s1.heap.objs.size], _, _, H1, rfl, I2, turn_enum a (s1.heap.objs.size + 1) s1.heap.objs.size, ⟨⟨.none, he⟩, hit, Nat.succ_ne_self _⟩, fun b hb => ?_, q⟩
      have e' : b = s1.heap.objs.size + 1 ∨ b = s1.heap.objs.size := by simpa using hb
      have hle : s1.heap.objs.size ≤ b := by
        rcases e' with z | z
        · rw [z]; exact Nat.le_add_right _ _
        · rw [z]; exact Nat.le_refl _
      exact I1.fpOk hle (I1.hok.fresh hle)
    · obtain ⟨its, rv, p', hz⟩ := I1.tuple hq
      have hal : a < s1.heap.objs.size := by
        obtain ⟨o, ho, _⟩ := p'
        exact Heap.lt_size ho
      refine call_enumerate_tup p' fun h' he hit hsz hk => wpAny_pyIter_enum he ?_
      have I2 : Inv X pins σ H1 { s1 with heap := h' } := I1.kept (t' := s1.toks) hk
      refine ⟨s1.heap.objs.size + 1, [s1.heap.objs.size + 1, s1.heap.objs.size], _, _, H1, rfl, I2, turn_enumT a (s1.heap.objs.size + 1) s1.heap.objs.size (Nat.ne_of_lt hal), ⟨⟨.none, he⟩, hit, Nat.succ_ne_self _, Nat.ne_of_gt (Nat.lt_succ_of_lt hal)⟩, fun b hb => ?_, q⟩
      have e' : b = s1.heap.objs.size + 1 ∨ b = s1.heap.objs.size := by simpa using hb
      have hle : s1.heap.objs.size ≤ b := by
        rcases e' with z | z
        · rw [z]; exact Nat.le_add_right _ _
        · rw [z]; exact Nat.le_refl _
      exact I1.fpOk hle (I1.hok.fresh hle)
theorem walk_enumT {K : PySem.W.Frag} {a : Addr} {xs : List V} : Walk (IteT K a) xs.length (fun H => SqT K H a xs) (YPair (fun i => some (.int (i : Nat))) (fun i => xs[i]?)) := by
  refine ⟨fun i _ hi q => ⟨xs, xs[i], q, by simp [hi]⟩, fun _ q => ⟨xs, q, Nat.le_refl _⟩, fun i H v H' _ q y => ?_⟩
  obtain ⟨T, x, h1, h2, h3, h4⟩ := y
  exact ⟨T, .int (i : Nat), x, h1, h2, h3, rfl, h4 xs q⟩
end L2
end
section
set_option maxHeartbeats 4000000
namespace Kx
open PySem PySem.Spec PyProof.Rows L2 RZ
theorem rel_ty (n : String) : RelV (.ty n) (.type n) := rfl
theorem kb_l : kitB "list" "list" = some true ∧ kitB "list" "tuple" = some false ∧ kitB "tuple" "list" = some false ∧ kitB "tuple" "tuple" = some true := by decide +kernel
theorem kit2 {K : PySem.W.Frag} {s : String} {a b r : Bool} (h1 : kitB s "list" = some a) (h2 : kitB s "tuple" = some b) (hr : r = (a || b)) : PySem.W.kitAny K (.type s) [.type "list", .type "tuple"] = some r := by
  subst hr
  refine kitAny_cons (kit_ty h1) (fun ha => ?_) (fun ha => by rw [ha]; rfl)
  subst ha
  refine kitAny_cons (kit_ty h2) (fun hb => by rw [hb]; exact kitAny_nil) (fun hb => by rw [hb]; rfl)
theorem isi_at {X : Cx} (K : PySem.W.Frag) (h : X.K = K) : CallR X (.builtin "isinstance") (rIsi K) := by
  subst h
  exact call_isi
def WhV (K : PySem.W.Frag) (H : Hp) (v : V) (b : Bool) : Prop := ∀ H', Same H H' → ∃ (T : Value) (x y : Bool), TyX K H' v T ∧ PySem.W.kitOne K T (.type "int") = some x ∧ PySem.W.kitOne K T (.type "bool") = some y ∧ b = (x && !y)
theorem WhV.same {K : PySem.W.Frag} {H H' : Hp} {v : V} {b : Bool} (h : WhV K H v b) (s : Same H H') : WhV K H' v b := fun H2 s2 => h H2 (s.trans s2)
def spWhole (K : PySem.W.Frag) : Sp := fun vs H Q _ => ∃ (v : V) (b : Bool), vs = [v] ∧ WhV K H v b ∧ Q (.bl b) H
theorem kb_int : kitB "int" "int" = some true ∧ kitB "int" "bool" = some false := by decide +kernel
theorem wh_int {K : PySem.W.Frag} {H : Hp} (i : Int) : WhV K H (.int i) true := fun _ _ => ⟨.type "int", true, false, .base (.int i), kit_ty kb_int.1, kit_ty kb_int.2, rfl⟩
/-- is v a fraction: r; v may stand in the module, too -/
def IsG (K : PySem.W.Frag) (H : Hp) (v : V) (r : Bool) : Prop :=
  (∃ T, TyX K H v T ∧ PySem.W.kitOne K T (.type "tuple") = some false ∧ r = false) ∨
  (∃ a xs, v = .ref a ∧ SqT K H a xs ∧ TyX K H (.ref a) (.type "tuple") ∧ xs.length ≠ 2 ∧ r = false) ∨
  (∃ a x y b1 b2, v = .ref a ∧ SqT K H a [x, y] ∧ TyX K H (.ref a) (.type "tuple") ∧ WhV K H x b1 ∧ WhV K H y b2 ∧ (((b1 && b2) = false ∧ r = false) ∨ ∃ u l : Int, b1 = true ∧ b2 = true ∧ x = .int u ∧ y = .int l ∧ r = (decide (1 ≤ l) && decide (Nat.gcd u.natAbs l.natAbs = 1))))
def spIsG (K : PySem.W.Frag) : Sp := fun vs H Q _ => ∃ (v : V) (r : Bool), vs = [v] ∧ IsG K H v r ∧ Q (.bl r) H
theorem Nq.isG {K : PySem.W.Frag} {H : Hp} {v : V} {q : Rat} (h : Nq K H v q) : IsG K H v true := by
  obtain ⟨a, rfl, s, t⟩ := h.sq
  refine .inr (.inr ⟨a, _, _, true, true, rfl, s, t, wh_int _, wh_int _, .inr ⟨_, _, rfl, rfl, rfl, rfl, ?_⟩⟩)
  have h1 : (1 : Int) ≤ ((q.den : Nat) : Int) := by have := q.den_nz; omega
  have h2 : Nat.gcd q.num.natAbs ((q.den : Nat) : Int).natAbs = 1 := q.reduced
  rw [decide_eq_true h1, decide_eq_true h2]
  rfl
/-- is v an int from lo to hi: r -/
def InR (K : PySem.W.Frag) (H : Hp) (v : V) (lo hi : Int) (r : Bool) : Prop := ∃ b, WhV K H v b ∧ ((b = false ∧ r = false) ∨ ∃ i : Int, b = true ∧ v = .int i ∧ r = (decide (lo ≤ i) && decide (i ≤ hi)))
theorem InR.same {K : PySem.W.Frag} {H H' : Hp} {v : V} {lo hi : Int} {r : Bool} (h : InR K H v lo hi r) (s : Same H H') : InR K H' v lo hi r := by
  obtain ⟨b, h1, h2⟩ := h
  exact ⟨b, h1.same s, h2⟩
theorem InR.yes {K : PySem.W.Frag} {H : Hp} {lo hi i : Int} (h1 : lo ≤ i) (h2 : i ≤ hi) : InR K H (.int i) lo hi true := ⟨true, wh_int i, .inr ⟨i, rfl, rfl, by rw [decide_eq_true h1, decide_eq_true h2]; rfl⟩⟩
theorem InR.no {K : PySem.W.Frag} {H : Hp} {lo hi i : Int} (h : i < lo ∨ hi < i) : InR K H (.int i) lo hi false := ⟨true, wh_int i, .inr ⟨i, rfl, rfl, by
  symm
  rw [Bool.and_eq_false_iff, decide_eq_false_iff_not, decide_eq_false_iff_not]
  omega⟩⟩
theorem InR.int {K : PySem.W.Frag} {H : Hp} {lo hi i : Int} : InR K H (.int i) lo hi (decide (lo ≤ i) && decide (i ≤ hi)) := ⟨true, wh_int i, .inr ⟨i, rfl, rfl, rfl⟩⟩
def spBtw (K : PySem.W.Frag) : Sp := fun vs H Q _ => ∃ (v : V) (lo hi : Int) (r : Bool), vs = [v, .int lo, .int hi] ∧ InR K H v lo hi r ∧ Q (.bl r) H
abbrev nIF : List Str := ["value", "upper", "lower"]
/-! ### checks, with what they raise -/
def spCo (K : PySem.W.Frag) (CO : Addr) : Sp := fun vs H Q E => ∃ (v : V) (r : Bool), vs = [v] ∧ InR K H v 2 24 r ∧ (r = true → Q .non H) ∧ (r = false → Air H CO (fs1 "InvalidOrder" "value" [v]) E)
def spCk (K : PySem.W.Frag) (CN : Addr) : Sp := fun vs H Q E => ∃ (v : V) (r : Bool), vs = [v] ∧ IsG K H v r ∧ (r = true → Q .non H) ∧ (r = false → Air H CN (fs1 "InvalidNumber" "value" [v]) E)
def spCp (K : PySem.W.Frag) (CP : Addr) : Sp := fun vs H Q E => ∃ (v : V) (lo hi : Int) (r : Bool), vs = [v, .int lo, .int hi] ∧ InR K H v lo hi r ∧ (r = true → Q .non H) ∧ (r = false → Air H CP (fs1 "InvalidPlace" "value" [v]) E)
def spCc (K : PySem.W.Frag) (CO CL : Addr) : Sp := fun vs H Q E => ∃ (n : Int) (v : V) (r : Bool), vs = [.int n, v] ∧ InR K H v 2 24 r ∧ (r = false → Air H CO (fs1 "InvalidOrder" "value" [v]) E) ∧
  (r = true → ∀ i : Int, v = .int i → (i ≤ n → Q .non H) ∧ (n < i → Air H CL (fs2 "OrderTooLow" "have" "wanted" [.int n, .int i]) E))
/-- x has the attribute f with the value v -/
def At (K : PySem.W.Frag) (H : Hp) (x : V) (f : Str) (v : V) : Prop := ∃ (a C dx : Addr) (fs : List (Str × V)), x = .ref a ∧ H a = some (.ins C dx fs) ∧ Cls K C ∧ NoAttr K C f ∧ fs.lookup f = some v
def spCor (K : PySem.W.Frag) (CU : Addr) : Sp := fun vs H Q E => ∃ (x y : V) (n m : Int), vs = [x, y] ∧ At K H x "order" (.int n) ∧ At K H y "order" (.int m) ∧ (n = m → Q .non H) ∧ (n ≠ m → Air H CU (fs2 "UnlikeOrders" "one" "other" [.int n, .int m]) E)
section
variable {P : Program} {w : World} {K : PySem.W.Frag} {mg : Str → Option Value} {base : Heap} {f fW CO CN CP CL CU : Addr} {fd fdW : FuncData}
theorem scWh : FnScope ["value"] ["value"] (defScope F_is_whole) := ⟨rfl, rfl, rfl, by decide +kernel, rfl, by decide +kernel, by decide +kernel⟩
theorem ok_whole (F : Fun K "is_whole" "is_whole" F_is_whole f fd) (mI : mg "isinstance" = none) (mi : mg "int" = none) (mb : mg "bool" = none) : FnOk P w K mg base CX0 1 f fd ["value"] (spWhole K) := by
  refine F.ok scWh (fun vs H Q E h => ?_) (fun cdv A outer s H vs Q E hr h => ?_)
  · obtain ⟨v, b, rfl, _⟩ := h
    rfl
  obtain ⟨v, b, rfl, hw, q⟩ := h
  obtain ⟨T, x, y, ty, k1, k2, rfl⟩ := hw H (Same.refl H)
  refine ⟨_, pss_one (ps_ret (pe_and (pe_callB call_isi rfl mI (by decide +kernel) (pa_cons (pv 0) (pa_cons (pe_bltn rfl mi boot_int (rel_ty _)) pa_nil))) (pe_one (pe_not (pe_callB call_isi rfl mI (by decide +kernel) (pa_cons (pv 0) (pa_cons (pe_bltn rfl mb boot_bool (rel_ty _)) pa_nil))))))), ?_⟩
  refine ⟨_, rfl, v, _, T, _, x, rfl, .ty _, ty, k1, _, rfl, ?_⟩
  cases x with
  | false => exact iteF q
  | true => exact iteT ⟨_, rfl, v, _, T, _, y, rfl, .ty _, ty, k2, _, rfl, q⟩
theorem scBtw : FnScope ["value", "low", "high"] ["value", "low", "high"] (defScope F_is_between) := ⟨rfl, rfl, rfl, by decide +kernel, rfl, by decide +kernel, by decide +kernel⟩
theorem ok_btw (F : Fun K "is_between" "is_between" F_is_between f fd) (UW : Use P w K mg base CX0 1 "is_whole" ["value"] (spWhole K) []) : FnOk P w K mg base CX0 2 f fd ["value", "low", "high"] (spBtw K) := by
  refine F.ok scBtw (fun vs H Q E h => ?_) (fun cdv A outer s H vs Q E hr h => ?_)
  · obtain ⟨v, lo, hi, b, rfl, _⟩ := h
    rfl
  obtain ⟨v, lo, hi, r, rfl, ⟨b, hw, hh⟩, q⟩ := h
  refine ⟨_, pss_one (ps_ret (pe_and (pe_use UW hr rfl pass0 (pa_cons (pv 0) pa_nil)) (pe_one (pe_chain op_le op_le (pv 1) (pv 0) (pv 2))))), ?_⟩
  refine ⟨_, rfl, v, b, rfl, hw, _, rfl, ?_⟩
  rcases hh with ⟨rfl, rfl⟩ | ⟨i, rfl, rfl, rfl⟩
  · exact iteF q
  · refine iteT ⟨_, rfl, _, rfl, lo, i, rfl, rfl, _, rfl, ?_⟩
    by_cases c : lo ≤ i
    · rw [decide_eq_true c] at q ⊢
      exact iteT ⟨_, rfl, i, hi, rfl, rfl, by rw [Bool.true_and] at q; exact q⟩
    · rw [decide_eq_false c] at q ⊢
      exact iteF q
theorem scIF : FnScope nIF ["value"] (defScope F_is_fraction) := ⟨rfl, rfl, rfl, by decide +kernel, rfl, by decide +kernel, by decide +kernel⟩
theorem ok_isg (F : Fun K "is_fraction" "is_fraction" F_is_fraction f fd) (mI : mg "isinstance" = none) (mt : mg "tuple" = none) (mn : mg "len" = none) (mG : mg "gcd" = some (.builtin "math.gcd"))
    (UW : Use P w K mg base CX0 1 "is_whole" ["value"] (spWhole K) []) : FnOk P w K mg base CX0 2 f fd ["value"] (spIsG K) := by
  refine F.ok scIF (fun vs H Q E h => ?_) (fun cdv A outer s H vs Q E hr h => ?_)
  · obtain ⟨v, r, rfl, _⟩ := h
    rfl
  obtain ⟨v, r, rfl, hf, q⟩ := h
  refine ⟨_, pss_cons (ps_if (PW.pt (pw_or (pt_not (pt_val (pe_callB call_isi rfl mI (by decide +kernel) (pa_cons (pv 0) (pa_cons (pe_bltn rfl mt boot_tuple (rel_ty _)) pa_nil))))) (pw_or1 (pt_cmpR op_ne (pe_callB call_len_seq rfl mn PySem.boot_len (pa_cons (pv 0) pa_nil)) pe_int (nomark _))))) (pss_one (ps_ret pe_bl)) pss_nil)
    (pss_cons (ps_asg (pv 0) (pg_tup rfl (pgs_cons (pg_name (i := 1) scIF.nd rfl (Or.inl rfl)) (pgs_cons (pg_name (i := 2) scIF.nd rfl (Or.inl rfl)) pgs_nil))))
    (pss_cons (ps_if (PW.pt (pw_or (pt_not (pt_val (pe_use UW hr rfl pass0 (pa_cons (pv 1) pa_nil)))) (pw_or1 (pt_not (pt_val (pe_use UW hr rfl pass0 (pa_cons (pv 2) pa_nil))))))) (pss_one (ps_ret pe_bl)) pss_nil)
    (pss_one (ps_ret (pe_and (pe_cmpR op_ge (pv 2) pe_int (nomark _)) (pe_one (pe_cmpR op_eq (pe_callBfun cr_gcd rfl mG (pa_cons (pv 1) (pa_cons (pv 2) pa_nil))) pe_int (nomark _)))))))), ?_⟩
  have tk : PySem.W.kitOne K (.type "tuple") (.type "tuple") = some true := kit_ty kb_l.2.2.2
  rcases hf with ⟨T, ty, k, rfl⟩ | ⟨a, xs, rfl, ha, ht, hl, rfl⟩ | ⟨a, x, y, b1, b2, rfl, ha, ht, hx, hy, hh⟩
  · exact ⟨_, rfl, v, _, T, _, false, rfl, .ty _, ty, k, _, rfl, iteT q⟩
  · refine ⟨_, rfl, _, _, _, _, true, rfl, .ty _, ht, tk, _, rfl, iteF ?_⟩
    refine ⟨_, rfl, a, xs, rfl, .inr (ha), rfl, _, rfl, ?_⟩
    rw [decide_eq_false (fun e => hl (by have := V.int.inj e; omega))]
    exact iteT q
  · refine ⟨_, rfl, _, _, _, _, true, rfl, .ty _, ht, tk, _, rfl, iteF ?_⟩
    refine ⟨_, rfl, a, _, rfl, .inr (ha), rfl, _, rfl, iteF ?_⟩
    refine ⟨_, rfl, a, _, rfl, ha, rfl, _, _, rfl, _, _, rfl, rfl, ?_⟩
    rcases hh with ⟨hb, rfl⟩ | ⟨u, l, rfl, rfl, rfl, rfl, rfl⟩
    · cases b1 with
      | false => exact ⟨_, rfl, x, false, rfl, hx, _, rfl, iteT q⟩
      | true =>
        obtain rfl : b2 = false := hb
        exact ⟨_, rfl, x, true, rfl, hx, _, rfl, iteF ⟨_, rfl, y, false, rfl, hy, _, rfl, iteT q⟩⟩
    · refine ⟨_, rfl, _, true, rfl, wh_int u, _, rfl, iteF ⟨_, rfl, _, true, rfl, wh_int l, _, rfl, iteF ?_⟩⟩
      refine ⟨_, rfl, l, 1, rfl, rfl, _, rfl, ?_⟩
      by_cases c : (1 : Int) ≤ l
      · rw [decide_eq_true c] at q ⊢
        refine iteT ⟨_, rfl, _, rfl, u, l, rfl, rfl, ?_⟩
        have e : (decide (V.int ((Nat.gcd u.natAbs l.natAbs : Nat) : Int) = V.int 1)) = (true && decide (Nat.gcd u.natAbs l.natAbs = 1)) := by
          rw [Bool.true_and]
          exact decide_eq_decide.mpr ⟨fun h => by have := V.int.inj h; omega, fun h => by rw [h]; rfl⟩
        rw [← e] at q
        exact q
      · rw [decide_eq_false c] at q ⊢
        exact iteF q
theorem scCo : FnScope ["order"] ["order"] (defScope F_check_order) := ⟨rfl, rfl, rfl, by decide +kernel, rfl, by decide +kernel, by decide +kernel⟩
theorem ok_corder (G : Fun K "check_order" "check_order" F_check_order f fd) (UB : Use P w K mg base CX0 2 "is_between" ["value", "low", "high"] (spBtw K) [])
    (mL : ∃ u, mg "LOWEST_ORDER" = some u ∧ RelV (.int 2) u) (mH : ∃ u, mg "HIGHEST_ORDER" = some u ∧ RelV (.int 24) u) (Z : ErrC P w K mg base "InvalidOrder" 1 (fs1 "InvalidOrder" "value") CO) : FnOk P w K mg base (L2.CX P w) 3 f fd ["order"] (spCo K CO) := by
  refine G.okX scCo (fun vs H Q E h => ?_) (fun cdv A outer s H vs Q E hr h => ?_)
  · obtain ⟨v, r, rfl, _⟩ := h
    rfl
  obtain ⟨v, r, rfl, hin, h1, h2⟩ := h
  obtain ⟨fI, fdI, ps, i1, i2, i3, i4⟩ := Z.i
  refine ⟨_, pss_one (ps_if (pt_not (pt_val (pe_use UB hr rfl pass0 (pa_cons (pv 0) (pa_cons (C8.pe_gc rfl mL) (pa_cons (C8.pe_gc rfl mH) pa_nil)))))) (pss_one (ps_raise rfl (takes_of rfl rfl rfl rfl) (pmk_xo Z.T Z.ty i1 i2 i3 hr i4 pass0 rfl Z.m (pa_cons (pv 0) pa_nil)))) pss_nil), ?_⟩
  refine ⟨_, rfl, v, 2, 24, r, rfl, hin, _, rfl, ?_⟩
  cases r with
  | true => exact iteF (h1 rfl)
  | false => exact iteT ⟨_, rfl, (by show 1 ≤ 1000; decide), fun a na => air_of (C := CO) (n := 1) (ws := [v]) na rfl (h2 rfl)⟩
theorem scCp : FnScope ["place", "first", "last"] ["place", "first", "last"] (defScope F_check_place) := ⟨rfl, rfl, rfl, by decide +kernel, rfl, by decide +kernel, by decide +kernel⟩
theorem ok_cplace (G : Fun K "check_place" "check_place" F_check_place f fd) (UB : Use P w K mg base CX0 2 "is_between" ["value", "low", "high"] (spBtw K) []) (Z : ErrC P w K mg base "InvalidPlace" 1 (fs1 "InvalidPlace" "value") CP) : FnOk P w K mg base (L2.CX P w) 3 f fd ["place", "first", "last"] (spCp K CP) := by
  refine G.okX scCp (fun vs H Q E h => ?_) (fun cdv A outer s H vs Q E hr h => ?_)
  · obtain ⟨v, lo, hi, r, rfl, _⟩ := h
    rfl
  obtain ⟨v, lo, hi, r, rfl, hin, h1, h2⟩ := h
  obtain ⟨fI, fdI, ps, i1, i2, i3, i4⟩ := Z.i
  refine ⟨_, pss_one (ps_if (pt_not (pt_val (pe_use UB hr rfl pass0 (pa_cons (pv 0) (pa_cons (pv 1) (pa_cons (pv 2) pa_nil)))))) (pss_one (ps_raise rfl (takes_of rfl rfl rfl rfl) (pmk_xo Z.T Z.ty i1 i2 i3 hr i4 pass0 rfl Z.m (pa_cons (pv 0) pa_nil)))) pss_nil), ?_⟩
  refine ⟨_, rfl, _, rfl, _, rfl, v, lo, hi, r, rfl, hin, _, rfl, ?_⟩
  cases r with
  | true => exact iteF (h1 rfl)
  | false => exact iteT ⟨_, rfl, (by show 1 ≤ 1000; decide), fun a na => air_of (C := CP) (n := 1) (ws := [v]) na rfl (h2 rfl)⟩
theorem scCor : FnScope ["one", "other"] ["one", "other"] (defScope F_check_orders) := ⟨rfl, rfl, rfl, by decide +kernel, rfl, by decide +kernel, by decide +kernel⟩
theorem ok_corders (G : Fun K "check_orders" "check_orders" F_check_orders f fd) (Z : ErrC P w K mg base "UnlikeOrders" 2 (fs2 "UnlikeOrders" "one" "other") CU) : FnOk P w K mg base (L2.CX P w) 3 f fd ["one", "other"] (spCor K CU) := by
  refine G.okX scCor (fun vs H Q E h => ?_) (fun cdv A outer s H vs Q E hr h => ?_)
  · obtain ⟨x, y, n, m, rfl, _⟩ := h
    rfl
  obtain ⟨x, y, n, m, rfl, ⟨xa, C, dx, fs, rfl, hx, cx, nx, lx⟩, ⟨ya, D, dy, gs, rfl, hy, cy, ny, ly⟩, h1, h2⟩ := h
  obtain ⟨fI, fdI, ps, i1, i2, i3, i4⟩ := Z.i
  refine ⟨_, pss_one (ps_if (pt_cmpR op_ne (pe_fld (pv 0) rfl) (pe_fld (pv 1) rfl) (nomark _)) (pss_one (ps_raise rfl (takes_of rfl rfl rfl rfl) (pmk_xo Z.T Z.ty i1 i2 i3 hr i4 pass0 rfl Z.m (pa_cons (pe_fld (pv 0) rfl) (pa_cons (pe_fld (pv 1) rfl) pa_nil))))) pss_nil), ?_⟩
  refine ⟨_, rfl, xa, C, dx, _, _, rfl, hx, cx, nx, lx, _, rfl, ya, D, dy, _, _, rfl, hy, cy, ny, ly, rfl, _, rfl, ?_⟩
  by_cases c : n = m
  · subst c
    rw [decide_eq_true rfl]
    exact iteF (h1 rfl)
  · rw [decide_eq_false (fun e => c (V.int.inj e))]
    exact iteT ⟨_, rfl, xa, C, dx, _, _, rfl, hx, cx, nx, lx, _, rfl, ya, D, dy, _, _, rfl, hy, cy, ny, ly, (by show 2 ≤ 1000; decide), fun a na => air_of (C := CU) (n := 2) (ws := [.int n, .int m]) na rfl (h2 c)⟩
end
end Kx
end
section
set_option maxHeartbeats 4000000
namespace Kx
open PySem PySem.Spec PyProof.Rows L2 RZ
def optV : Option Nat → V
  | none => .non
  | some k => .int (k : Nat)
/-- the first false, counted from i on -/
def badAt : List Bool → Nat → Option Nat
  | [], _ => none
  | r :: rs, i => if r = true then badAt rs (i + 1) else some i
theorem badAt_hit : ∀ (rs : List Bool) (k i : Nat), (∀ r ∈ rs.take i, r = true) → rs[i]? = some false → badAt rs k = some (k + i)
  | [], _, _, _, h => by simp at h
  | r :: rs, k, 0, _, h => by
    have e : r = false := Option.some.inj (show some r = some false from h)
    subst e
    rfl
  | r :: rs, k, i + 1, h, e => by
    have hr : r = true := h r (by simp)
    subst hr
    show badAt rs (k + 1) = _
    rw [badAt_hit rs (k + 1) i (fun x hx => h x (by simp [hx])) (by simpa using e)]
    congr 1
    omega
theorem badAt_none : ∀ (rs : List Bool) (k : Nat), (∀ r ∈ rs, r = true) → badAt rs k = none
  | [], _, _ => rfl
  | r :: rs, k, h => by
    have hr : r = true := h r (by simp)
    subst hr
    exact badAt_none rs (k + 1) fun x hx => h x (by simp [hx])
/-- is v a fraction: r, whatever is new -/
def IsGs (K : PySem.W.Frag) (H : Hp) (v : V) (r : Bool) : Prop := ∀ H', Same H H' → IsG K H' v r
theorem IsGs.same {K : PySem.W.Frag} {H H' : Hp} {v : V} {r : Bool} (h : IsGs K H v r) (s : Same H H') : IsGs K H' v r := fun H2 s2 => h H2 (s.trans s2)
theorem Nq.isGs {K : PySem.W.Frag} {H : Hp} {v : V} {q : Rat} (h : Nq K H v q) : IsGs K H v true := fun _ s => (h.same s).isG
/-- the items, which of them are fractions -/
def Its (K : PySem.W.Frag) (H : Hp) (xs : List V) (rs : List Bool) : Prop := xs.length = rs.length ∧ ∀ (i : Nat) (x : V) (r : Bool), xs[i]? = some x → rs[i]? = some r → IsGs K H x r
theorem Its.same {K : PySem.W.Frag} {H H' : Hp} {xs : List V} {rs : List Bool} (h : Its K H xs rs) (s : Same H H') : Its K H' xs rs := ⟨h.1, fun i x r h1 h2 => (h.2 i x r h1 h2).same s⟩
theorem Nl.its {K : PySem.W.Frag} {H : Hp} {xs : List V} {qs : List Rat} (h : Nl K H xs qs) : Its K H xs (List.replicate qs.length true) := by
  refine ⟨by rw [h.1, List.length_replicate], fun i x r h1 h2 => ?_⟩
  obtain ⟨q, _, n⟩ := h.get h1
  rw [List.getElem?_replicate] at h2
  split at h2
  · rw [← Option.some.inj h2]
    exact n.isGs
  · cases h2
theorem bad_rep (n k : Nat) : badAt (List.replicate n true) k = none := badAt_none _ _ fun r hr => List.eq_of_mem_replicate hr
/-- a list or a tuple -/
def SqH (H : Hp) (a : Addr) (xs : List V) : Prop := H a = some (.lst xs) ∨ H a = some (.tup xs)
theorem SqH.same {H H' : Hp} {a : Addr} {xs : List V} (h : SqH H a xs) (s : Same H H') : SqH H' a xs := h.imp (s _ _) (s _ _)
/-- is v a list or a tuple: r -/
def LsV (K : PySem.W.Frag) (H : Hp) (v : V) (r : Bool) : Prop := ∀ H', Same H H' → ∃ T, TyX K H' v T ∧ PySem.W.kitAny K T [.type "list", .type "tuple"] = some r
theorem LsV.same {K : PySem.W.Frag} {H H' : Hp} {v : V} {r : Bool} (h : LsV K H v r) (s : Same H H') : LsV K H' v r := fun H2 s2 => h H2 (s.trans s2)
theorem SqH.lsv {K : PySem.W.Frag} {H : Hp} {a : Addr} {xs : List V} (h : SqH H a xs) : LsV K H (.ref a) true := fun H' s => by
  rcases h with h | h
  · exact ⟨_, .base (.lst (s _ _ h)), kit2 kb_l.1 kb_l.2.1 rfl⟩
  · exact ⟨_, .base (.tup (s _ _ h)), kit2 kb_l.2.2.1 kb_l.2.2.2 rfl⟩
def spIl (K : PySem.W.Frag) : Sp := fun vs H Q _ => ∃ (v : V) (r : Bool), vs = [v] ∧ LsV K H v r ∧ ∀ H', Same H H' → Q (.bl r) H'
def spWi (K : PySem.W.Frag) : Sp := fun vs H Q _ => ∃ (a : Addr) (xs : List V) (rs : List Bool), vs = [.ref a] ∧ SqH H a xs ∧ Its K H xs rs ∧ ∀ H', Same H H' → Q (optV (badAt rs 0)) H'
def spCf (K : PySem.W.Frag) (CF : Addr) : Sp := fun vs H Q E => ∃ (a : Addr) (xs : List V) (rs : List Bool), vs = [.ref a] ∧ SqH H a xs ∧ Its K H xs rs ∧ (badAt rs 0 = none → ∀ H', Same H H' → Q .non H') ∧ ∀ k : Nat, badAt rs 0 = some k → Air H CF (fs1 "InvalidFraction" "at" [.int (k : Nat)]) E
def spCn (K : PySem.W.Frag) (CF CO : Addr) : Sp := fun vs H Q E => ∃ (v : V) (fu : Int), vs = [v, .int fu] ∧
  ((LsV K H v false ∧ Air H CF (fs1 "InvalidFraction" "at" [.int (-1)]) E) ∨
   ∃ (a : Addr) (xs : List V) (rs : List Bool), v = .ref a ∧ SqH H a xs ∧
     (((xs.length : Int) + fu < 2 ∨ 24 < (xs.length : Int) + fu) ∧ Air H CO (fs1 "InvalidOrder" "value" [.int ((xs.length : Int) + fu)]) E ∨
      2 ≤ (xs.length : Int) + fu ∧ (xs.length : Int) + fu ≤ 24 ∧ Its K H xs rs ∧ (∀ k : Nat, badAt rs 0 = some k → Air H CF (fs1 "InvalidFraction" "at" [.int (k : Nat)]) E) ∧
        (badAt rs 0 = none → ∀ H' b, Same H H' → H b = none → H' b = some (.lst xs) → Q (.ref b) H')))
abbrev nWi : List Str := ["numbers", "at", "number"]
section
variable {P : Program} {w : World} {K : PySem.W.Frag} {mg : Str → Option Value} {base : Heap} {f fW CO CN CP CL CU CF : Addr} {fd fdW : FuncData}
theorem scIl : FnScope ["value"] ["value"] (defScope F_is_listing) := ⟨rfl, rfl, rfl, by decide +kernel, rfl, by decide +kernel, by decide +kernel⟩
theorem ok_listing (G : Fun K "is_listing" "is_listing" F_is_listing f fd) (mI : mg "isinstance" = none) (ml : mg "list" = none) (mt : mg "tuple" = none) : FnOk P w K mg base CX0 1 f fd ["value"] (spIl K) := by
  refine G.ok scIl (fun vs H Q E h => ?_) (fun cdv A outer s H vs Q E hr h => ?_)
  · obtain ⟨v, r, rfl, _⟩ := h
    rfl
  obtain ⟨v, r, rfl, hv, q⟩ := h
  refine ⟨_, pss_one (ps_ret (pe_callB call_isiT rfl mI (by decide +kernel) (pa_cons (pv 0) (pa_cons (pe_tup (pa_cons (pe_bltn rfl ml boot_list (rel_ty _)) (pa_cons (pe_bltn rfl mt boot_tuple (rel_ty _)) pa_nil))) pa_nil)))), ?_⟩
  refine ⟨_, rfl, (by show 2 ≤ sizeLine; decide), fun p np => ?_⟩
  have g1 := new_same np (.tup [.ty "list", .ty "tuple"])
  obtain ⟨T, ty, k⟩ := hv _ g1
  exact ⟨_, p, _, T, _, r, rfl, upd_same, .cons (.ty _) (.cons (.ty _) .nil), ty, k, q _ g1⟩
theorem scWi : FnScope nWi ["numbers"] (defScope F_wrong_item) := ⟨rfl, rfl, rfl, by decide +kernel, rfl, by decide +kernel, by decide +kernel⟩
theorem ok_wrong (G : Fun K "wrong_item" "wrong_item" F_wrong_item f fd) (me : mg "enumerate" = none) (UF : Use P w K mg base CX0 2 "is_fraction" ["value"] (spIsG K) []) : FnOk P w K mg base CX0 3 f fd ["numbers"] (spWi K) := by
  refine G.ok scWi (fun vs H Q E h => ?_) (fun cdv A outer s H vs Q E hr h => ?_)
  · obtain ⟨a, xs, rs, rfl, _⟩ := h
    rfl
  obtain ⟨a, xs, rs, rfl, ha, ⟨hl, hI⟩, q⟩ := h
  refine ⟨_, pss_cons (ps_for PassesOwn.never rfl (pi_enumA rfl me (pa_cons (pv 0) pa_nil)) (pg_tup rfl (pgs_cons (pg_name (i := 1) scWi.nd rfl (Or.inl rfl)) (pgs_cons (pg_name (i := 2) scWi.nd rfl (Or.inl rfl)) pgs_nil)))
      (pss_one (ps_if (pt_not (pt_val (pe_use UF hr rfl pass0 (pa_cons (pv 2) pa_nil)))) (pss_one (ps_ret (pv 1))) pss_nil)))
    (pss_one (ps_ret pe_non)), ?_⟩
  refine ⟨_, rfl, a, xs, rfl, ?_⟩
  have turn : ∀ (i : Nat) (x : V) (σ : L2.St) (H2 H3 : Hp), i < xs.length → (Same H H2 ∧ (∀ r ∈ rs.take i, r = true) ∧ ∃ v v', σ = [some (.ref a), v, v']) → YPair (fun i => some (.int (i : Nat))) (fun i => xs[i]?) i H2 x H3 →
      ∃ (T : Addr) (z : V) (r : Bool), x = .ref T ∧ H2 T = none ∧ H3 = upd H2 T (.tup [.int (i : Nat), z]) ∧ xs[i]? = some z ∧ rs[i]? = some r ∧ IsG K H3 z r ∧ Same H H3 := by
    rintro i x σ H2 H3 hi ⟨s2, _, _⟩ ⟨T, y, z, rfl, hT, rfl, hy, hz⟩
    obtain rfl : y = .int ((i : Nat) : Int) := (Option.some.inj hy).symm
    have s3 := s2.trans (new_same hT (.tup [.int (i : Nat), z]))
    have er := List.getElem?_eq_getElem (l := rs) (i := i) (by omega)
    exact ⟨T, z, _, rfl, hT, rfl, hz, er, hI i z _ hz er _ s3, s3⟩
  have fin : ∀ (σ : L2.St) (H2 : Hp), (Same H H2 ∧ (∀ r ∈ rs.take xs.length, r = true) ∧ ∃ v v', σ = [some (.ref a), v, v']) → Q .non H2 := by
    rintro σ H2 ⟨s2, h, _⟩
    rw [hl, List.take_length] at h
    have := q H2 s2
    rw [badAt_none rs 0 h] at this
    exact this
  rcases ha with ha | ha
  · refine .inl ⟨SqL.of ha, ?_⟩
    refine for_it (walk_enum (K := K) (a := a) (xs := xs)) (fun i σ H' => Same H H' ∧ (∀ r ∈ rs.take i, r = true) ∧ ∃ v v', σ = [some (.ref a), v, v']) ⟨Same.refl H, by simp, none, none, rfl⟩ (fun i σ H' _ h => SqL.of (h.1 _ _ ha)) ?_ fin
    intro i x σ H2 H3 hi hp hY
    obtain ⟨T, z, r, rfl, hT, rfl, hz, er, ig, s3⟩ := turn i x σ H2 H3 hi hp hY
    obtain ⟨s2, h2, v, v', rfl⟩ := hp
    refine ⟨T, [_, _], rfl, SqT.of upd_same, rfl, _, [_], rfl, _, [], rfl, rfl, ?_⟩
    refine ⟨_, rfl, z, r, rfl, ig, _, rfl, ?_⟩
    cases r with
    | true =>
      refine iteF ⟨s3, fun b hb => ?_, _, _, rfl⟩
      rw [List.take_add_one, er] at hb
      rcases List.mem_append.mp hb with hb | hb
      · exact h2 b hb
      · simpa using hb
    | false =>
      have := q _ s3
      rw [badAt_hit rs 0 i h2 er, Nat.zero_add] at this
      exact iteT ⟨_, rfl, this⟩
  · refine .inr ⟨SqT.of ha, ?_⟩
    refine for_it (walk_enumT (K := K) (a := a) (xs := xs)) (fun i σ H' => Same H H' ∧ (∀ r ∈ rs.take i, r = true) ∧ ∃ v v', σ = [some (.ref a), v, v']) ⟨Same.refl H, by simp, none, none, rfl⟩ (fun i σ H' _ h => SqT.of (h.1 _ _ ha)) ?_ fin
    intro i x σ H2 H3 hi hp hY
    obtain ⟨T, z, r, rfl, hT, rfl, hz, er, ig, s3⟩ := turn i x σ H2 H3 hi hp hY
    obtain ⟨s2, h2, v, v', rfl⟩ := hp
    refine ⟨T, [_, _], rfl, SqT.of upd_same, rfl, _, [_], rfl, _, [], rfl, rfl, ?_⟩
    refine ⟨_, rfl, z, r, rfl, ig, _, rfl, ?_⟩
    cases r with
    | true =>
      refine iteF ⟨s3, fun b hb => ?_, _, _, rfl⟩
      rw [List.take_add_one, er] at hb
      rcases List.mem_append.mp hb with hb | hb
      · exact h2 b hb
      · simpa using hb
    | false =>
      have := q _ s3
      rw [badAt_hit rs 0 i h2 er, Nat.zero_add] at this
      exact iteT ⟨_, rfl, this⟩
theorem scCf : FnScope ["numbers", "at"] ["numbers"] (defScope F_check_fractions) := ⟨rfl, rfl, rfl, by decide +kernel, rfl, by decide +kernel, by decide +kernel⟩
theorem ok_cfrac (G : Fun K "check_fractions" "check_fractions" F_check_fractions f fd) (UW : Use P w K mg base CX0 3 "wrong_item" ["numbers"] (spWi K) []) (Z : ErrC P w K mg base "InvalidFraction" 1 (fs1 "InvalidFraction" "at") CF) : FnOk P w K mg base (L2.CX P w) 4 f fd ["numbers"] (spCf K CF) := by
  refine G.okX scCf (fun vs H Q E h => ?_) (fun cdv A outer s H vs Q E hr h => ?_)
  · obtain ⟨a, xs, rs, rfl, _⟩ := h
    rfl
  obtain ⟨a, xs, rs, rfl, ha, hI, q, qe⟩ := h
  obtain ⟨fI, fdI, ps, i1, i2, i3, i4⟩ := Z.i
  refine ⟨_, pss_cons (ps_set (i := 1) scCf.nd rfl (Or.inl rfl) (pe_use UW hr rfl pass0 (pa_cons (pv 0) pa_nil)))
    (pss_one (ps_if (pt_cmpR op_notN (pv 1) pe_non (nomark _)) (pss_one (ps_raise rfl (takes_of rfl rfl rfl rfl) (pmk_xo Z.T Z.ty i1 i2 i3 (hr.mono (by decide)) i4 pass0 rfl Z.m (pa_cons (pv 1) pa_nil)))) pss_nil)), ?_⟩
  refine ⟨_, rfl, a, xs, rs, rfl, ha, hI, fun H1 s1 => ?_⟩
  refine ⟨_, rfl, rfl, _, rfl, ?_⟩
  cases e : badAt rs 0 with
  | none => exact iteF (q e H1 s1)
  | some k => exact iteT ⟨_, rfl, (by show 1 ≤ 1000; decide), fun a na => air_of (C := CF) (n := 1) (ws := [.int (k : Nat)]) na rfl ((qe k e).same s1)⟩
theorem scCn : FnScope ["numbers", "further"] ["numbers", "further"] (defScope F_checked_numbers) := ⟨rfl, rfl, rfl, by decide +kernel, rfl, by decide +kernel, by decide +kernel⟩
theorem ok_checked (G : Fun K "checked_numbers" "checked_numbers" F_checked_numbers f fd) (mn : mg "len" = none) (ml : mg "list" = none) (UI : Use P w K mg base CX0 1 "is_listing" ["value"] (spIl K) [])
    (UC : Use P w K mg base (L2.CX P w) 3 "check_order" ["order"] (spCo K CO) []) (UF : Use P w K mg base (L2.CX P w) 4 "check_fractions" ["numbers"] (spCf K CF) []) (Z : ErrC P w K mg base "InvalidFraction" 1 (fs1 "InvalidFraction" "at") CF) :
    FnOk P w K mg base (L2.CX P w) 5 f fd ["numbers", "further"] (spCn K CF CO) := by
  refine G.okX scCn (fun vs H Q E h => ?_) (fun cdv A outer s H vs Q E hr h => ?_)
  · obtain ⟨v, fu, rfl, _⟩ := h
    rfl
  obtain ⟨v, fu, rfl, hh⟩ := h
  obtain ⟨fI, fdI, ps, i1, i2, i3, i4⟩ := Z.i
  refine ⟨_, pss_cons (ps_if (pt_not (pt_val (pe_use UI (hr.mono (by decide)) rfl pass0 (pa_cons (pv 0) pa_nil)))) (pss_one (ps_raise rfl (takes_of rfl rfl rfl rfl) (pmk_xo Z.T Z.ty i1 i2 i3 (hr.mono (by decide)) i4 pass0 rfl Z.m (pa_cons (pe_un un_neg pe_int) pa_nil)))) pss_nil)
    (pss_cons (ps_expr (pe_use (E := E) UC (hr.mono (by decide)) rfl (passes_call (takes_of rfl rfl rfl rfl) (fun _ _ _ _ h => h)) (pa_cons (pe_op op_add (pe_callB call_len_seq rfl mn PySem.boot_len (pa_cons (pv 0) pa_nil)) (pv 1)) pa_nil)))
    (pss_cons (ps_expr (pe_use (E := E) UF hr rfl (passes_call (takes_of rfl rfl rfl rfl) (fun _ _ _ _ h => h)) (pa_cons (pv 0) pa_nil)))
    (pss_one (ps_ret (pe_callTy call_list_of rfl ml (by decide +kernel) (pa_cons (pv 0) pa_nil)))))), ?_⟩
  rcases hh with ⟨hv, air⟩ | ⟨a, xs, rs, rfl, ha, hh⟩
  · refine ⟨_, rfl, v, false, rfl, hv, fun H1 s1 => ⟨_, rfl, iteT ⟨1, rfl, (by show 1 ≤ 1000; decide), fun a na => air_of (C := CF) (n := 1) (ws := [.int (-1)]) na rfl (air.same s1)⟩⟩⟩
  · refine ⟨_, rfl, .ref a, true, rfl, ha.lsv, fun H1 s1 => ⟨_, rfl, iteF ?_⟩⟩
    have ha1 := ha.same s1
    have len1 : ∀ {H2 : Hp}, SqH H2 a xs → (SqL K H2 a xs ∨ SqT K H2 a xs) := fun h => h.imp SqL.of SqT.of
    refine ⟨_, rfl, a, xs, rfl, len1 ha1, _, rfl, _, _, rfl, rfl, ?_⟩
    rcases hh with ⟨ho, air⟩ | ⟨l1, l2, hI, qf, q⟩
    · exact ⟨_, false, rfl, .no ho, fun z => Bool.noConfusion z, fun _ => air.same s1⟩
    · refine ⟨_, true, rfl, .yes l1 l2, fun _ => ?_, fun z => Bool.noConfusion z⟩
      refine ⟨_, rfl, a, xs, rs, rfl, ha1, hI.same s1, fun hb H2 s2 => ?_, fun k hk => (qf k hk).same s1⟩
      have ha2 := ha1.same s2
      exact ⟨_, rfl, a, xs, rfl, len1 ha2, fun b nb => q hb _ b ((s1.trans s2).trans (new_same nb _)) ((s1.trans s2).free nb) upd_same⟩
end
end Kx
end
section
set_option maxHeartbeats 4000000
namespace Kx
open PySem PySem.Spec PyProof.Rows L2 RZ
theorem KP.dp {K : PySem.W.Frag} {a : Addr} {x y : Int} (k : KP K a x y) (H : Hp) : Dp K H (.ref a) (.tuple [.int x, .int y]) := .tup (k.t H) (.cons (.int _) (.cons (.int _) .nil))
theorem cut_drop (xs : List V) (k : Nat) : cutV xs (some (k : Int)) none = xs.drop k := by
  unfold cutV
  rw [HT.sIx_nat, HT.sIx_none, List.take_of_length_le (by rw [List.length_drop]; omega)]
  by_cases c : k ≤ xs.length
  · rw [Nat.min_eq_left c]
  · rw [Nat.min_eq_right (by omega), List.drop_of_length_le (Nat.le_refl _), List.drop_of_length_le (by omega)]
theorem cut_take (xs : List V) (k : Nat) : cutV xs none (some (k : Int)) = xs.take k := by
  unfold cutV
  rw [HT.sIx_nat, HT.sIx_none, List.drop_zero, Nat.sub_zero]
  by_cases c : k ≤ xs.length
  · rw [Nat.min_eq_left c]
  · rw [Nat.min_eq_right (by omega), List.take_of_length_le (Nat.le_refl _), List.take_of_length_le (by omega)]
/-- the least place with a number that is not 0 -/
def hgtV (qs : List Rat) (f : Int) : V := match hgtN qs 0 with
  | none => .non
  | some k => .int (f + (k : Nat))
theorem hgtN_hit : ∀ (qs : List Rat) (i f : Nat) (q : Rat), (∀ r ∈ qs.take i, r = 0) → qs[i]? = some q → q ≠ 0 → hgtN qs f = some (f + i)
  | [], _, _, _, _, h, _ => by simp at h
  | r :: rs, 0, f, q, _, h, hq => by
    have e : r = q := Option.some.inj (show some r = some q from h)
    show (if r = 0 then hgtN rs (f + 1) else some f) = some f
    rw [if_neg (by rw [e]; exact hq)]
  | r :: rs, i + 1, f, q, h, e, hq => by
    have hr : r = 0 := h r (by simp)
    show (if r = 0 then hgtN rs (f + 1) else some f) = _
    rw [if_pos hr, hgtN_hit rs i (f + 1) q (fun x hx => h x (by simp [hx])) (by simpa using e) hq]
    congr 1
    omega
theorem hgtN_none (qs : List Rat) (f : Nat) (h : ∀ q ∈ qs, q = 0) : hgtN qs f = none := by
  have := hgtN_app_zero qs f [] h
  rw [List.append_nil] at this
  rw [this]
  rfl
def spIz (K : PySem.W.Frag) : Sp := fun vs H Q _ => ∃ (x : V) (qs : List Rat), vs = [x] ∧ Ls K H x qs ∧ qs.length ≤ 100 ∧ ∀ H', Same H H' → Q (.bl (qs.all fun q => decide (q = 0))) H'
def spLp (K : PySem.W.Frag) : Sp := fun vs H Q _ => ∃ (x : V) (qs : List Rat) (fi : Int), vs = [x, .int fi] ∧ Ls K H x qs ∧ ∀ H', Same H H' → Q (hgtV qs fi) H'
/-- the kind of a step -/
def kindS (qs : List Rat) : Str :=
  if qs.getD 0 0 = 0 then (if (qs.drop 1).all (fun q => decide (q = 0)) = true then "nothing" else "crush")
  else if qs.getD 0 0 = 1 then (if (qs.drop 1).all (fun q => decide (q = 0)) = true then "still" else "creep")
  else if qs.getD 0 0 = -1 then "flip" else "stretch"
def spKo (K : PySem.W.Frag) : Sp := fun vs H Q _ => ∃ (x : V) (qs : List Rat), vs = [x] ∧ Ls K H x qs ∧ 1 ≤ qs.length ∧ qs.length ≤ 100 ∧ ∀ H', Same H H' → Q (.str (kindS qs)) H'
abbrev nIz : List Str := ["numbers", "number"]
abbrev nLp : List Str := ["numbers", "first", "at", "number"]
abbrev nKo : List Str := ["numbers", "lead", "bent"]
theorem eqD_at {X : Cx} (K : PySem.W.Frag) (h : X.K = K) (hu : X.A.units + 64 < cLine) : OpR X (compareOp .Eq) (rEqD K) := by
  subst h
  exact op_eqD hu
section
variable {P : Program} {w : World} {K : PySem.W.Frag} {mg : Str → Option Value} {base : Heap} {f fI o1 o0 om : Addr} {fd : FuncData}
theorem scIz : FnScope nIz ["numbers"] (defScope F_is_zero) := ⟨rfl, rfl, rfl, by decide +kernel, rfl, by decide +kernel, by decide +kernel⟩
theorem ok_iszero (G : Fun K "is_zero" "is_zero" F_is_zero f fd) (k0 : KP K o0 0 1) (ma : mg "all" = none) (mZ : mg "ZERO" = some (.ref o0)) : FnOk P w K mg base CX0 1 f fd ["numbers"] (spIz K) := by
  refine G.ok scIz (fun vs H Q E h => ?_) (fun cdv A outer s H vs Q E hr h => ?_)
  · obtain ⟨x, qs, rfl, _⟩ := h
    rfl
  obtain ⟨x, qs, rfl, ⟨a, xs, rfl, ha, nx⟩, hn, q⟩ := h
  refine ⟨_, pss_one (ps_ret (pe_callB (cr_all rfl) rfl ma (by decide +kernel) (pa_cons (pe_lc (own := [("number", 1)]) (g := gName 1) (tt := tYes) rfl scIz.nd (pi_list (pv 0)) (blkOk_by (N := nIz) (sc := defScope F_is_zero) (by decide +kernel)) (fun _ _ _ _ _ => pg_name (i := 1) scIz.nd rfl (Or.inl rfl)) (fun _ _ _ _ _ => pts_nil)
        (fun _ _ _ _ _ => pe_cmpR (eqD_at K rfl hr.units) (pv 1) (C8.pe_gc (v := .ref o0) rfl ⟨_, mZ, rfl⟩) (nomark _))) pa_nil))), ?_⟩
  have lx : xs.length = qs.length := nx.1
  refine ⟨_, rfl, a, rfl, ⟨_, SqL.of ha⟩, fun D nD => ?_⟩
  refine lc_acc (walk_list (K := K) (a := a) (xs := xs)) (fun i _ y => ∀ r, qs[i]? = some r → y = .bl (decide (r = 0))) (fun i H H' y l h _ _ => h) nD (by omega) (fun H2 s => SqL.of (s _ _ ha)) ?_ ?_
  · rintro i x H2 H3 k hi s2 ⟨rfl, hx2⟩ hk
    obtain ⟨b, eb, nb⟩ := nx.get hx2
    refine ⟨rfl, _, rfl, tupQ b, tupQ 0, (nb.same s2).dp, k0.dp _, rfl, rfl, ?_⟩
    rw [eqv_num]
    exact hk _ _ (Same.refl _) fun r hr => by rw [eb] at hr; rw [← Option.some.inj hr]
  · intro H2 zs s2 hD hl hR
    have ez : zs = (qs.map fun q => decide (q = 0)).map V.bl := by
      apply List.ext_getElem?
      intro i
      rw [List.map_map, List.getElem?_map]
      by_cases c : i < qs.length
      · rw [List.getElem?_eq_getElem c]
        have e := List.getElem?_eq_getElem (l := zs) (i := i) (by omega)
        rw [e, hR i _ e _ (List.getElem?_eq_getElem c)]
        rfl
      · rw [List.getElem?_eq_none (by omega), List.getElem?_eq_none (by omega)]
        rfl
    refine ⟨D, _, rfl, SqL.of (by rw [hD, ez]), ?_⟩
    rw [List.all_map]
    exact q _ s2
theorem scLp : FnScope nLp ["numbers", "first"] (defScope F_least_place) := ⟨rfl, rfl, rfl, by decide +kernel, rfl, by decide +kernel, by decide +kernel⟩
theorem ok_least (G : Fun K "least_place" "least_place" F_least_place f fd) (k0 : KP K o0 0 1) (me : mg "enumerate" = none) (mZ : mg "ZERO" = some (.ref o0)) : FnOk P w K mg base CX0 1 f fd ["numbers", "first"] (spLp K) := by
  refine G.ok scLp (fun vs H Q E h => ?_) (fun cdv A outer s H vs Q E hr h => ?_)
  · obtain ⟨x, qs, fi, rfl, _⟩ := h
    rfl
  obtain ⟨x, qs, fi, rfl, ⟨a, xs, rfl, ha, nx⟩, q⟩ := h
  refine ⟨_, pss_cons (ps_for PassesOwn.never rfl (pi_enum rfl me (pa_cons (pv 0) pa_nil)) (pg_tup rfl (pgs_cons (pg_name (i := 2) scLp.nd rfl (Or.inl rfl)) (pgs_cons (pg_name (i := 3) scLp.nd rfl (Or.inl rfl)) pgs_nil)))
      (pss_one (ps_if (pt_cmpR (op_neD hr.units) (pv 3) (C8.pe_gc (v := .ref o0) rfl ⟨_, mZ, rfl⟩) (nomark _)) (pss_one (ps_ret (pe_op op_add (pv 1) (pv 2)))) pss_nil)))
    (pss_one (ps_ret pe_non)), ?_⟩
  refine ⟨_, rfl, a, _, rfl, SqL.of ha, ?_⟩
  refine for_it (walk_enum (K := K) (a := a) (xs := xs)) (fun i σ H' => Same H H' ∧ (∀ r ∈ qs.take i, r = 0) ∧ ∃ v v', σ = [some (.ref a), some (.int fi), v, v']) ⟨Same.refl H, by simp, none, none, rfl⟩ (fun i σ H' _ h => SqL.of (h.1 _ _ ha)) ?_ ?_
  · rintro i x σ H2 H3 hi ⟨s2, h2, v, v', rfl⟩ ⟨T, y, z, rfl, hT, rfl, hy, hz⟩
    refine ⟨T, [_, _], rfl, SqT.of upd_same, rfl, _, [_], rfl, _, [], rfl, rfl, ?_⟩
    have s3 := s2.trans (new_same hT (.tup [y, z]))
    obtain ⟨b, eb, nb⟩ := nx.get hz
    obtain rfl : y = .int ((i : Nat) : Int) := (Option.some.inj hy).symm
    refine ⟨_, rfl, tupQ b, tupQ 0, (nb.same s3).dp, k0.dp _, rfl, rfl, _, rfl, ?_⟩
    rw [eqv_num]
    by_cases c : b = 0
    · rw [decide_eq_true c]
      refine iteF ⟨s3, fun r hr => ?_, _, _, rfl⟩
      rw [List.take_add_one, eb] at hr
      rcases List.mem_append.mp hr with hr | hr
      · exact h2 r hr
      · rw [← c]
        simpa using hr
    · rw [decide_eq_false c]
      refine iteT ⟨_, rfl, _, rfl, fi, _, rfl, rfl, ?_⟩
      have := q _ s3
      unfold hgtV at this
      rw [hgtN_hit qs i 0 b h2 eb c, Nat.zero_add] at this
      exact this
  · rintro σ H2 ⟨s2, h2, v, v', rfl⟩
    rw [nx.1, List.take_length] at h2
    have := q _ s2
    unfold hgtV at this
    rw [hgtN_none qs 0 h2] at this
    exact this
theorem scKo : FnScope nKo ["numbers"] (defScope F_kind_of) := ⟨rfl, rfl, rfl, by decide +kernel, rfl, by decide +kernel, by decide +kernel⟩
theorem ok_kind (G : Fun K "kind_of" "kind_of" F_kind_of f fd) (k1 : KP K o1 1 1) (k0 : KP K o0 0 1) (km : KP K om (-1) 1) (mZ : mg "ZERO" = some (.ref o0)) (mO : mg "ONE" = some (.ref o1)) (mM : mg "MINUS_ONE" = some (.ref om))
    (UZ : Use P w K mg base CX0 1 "is_zero" ["numbers"] (spIz K) []) : FnOk P w K mg base CX0 2 f fd ["numbers"] (spKo K) := by
  refine G.ok scKo (fun vs H Q E h => ?_) (fun cdv A outer s H vs Q E hr h => ?_)
  · obtain ⟨x, qs, rfl, _⟩ := h
    rfl
  obtain ⟨x, qs, rfl, ⟨a, xs, rfl, ha, nx⟩, h1, hn, q⟩ := h
  refine ⟨_, pss_cons (ps_set (i := 1) scKo.nd rfl (Or.inl rfl) (pe_ix ix_list (pv 0) pe_int (fun _ _ => rfl)))
    (pss_cons (ps_set (i := 2) scKo.nd rfl (Or.inl rfl) (pe_not (pe_use UZ hr rfl pass0 (pa_cons (pe_slice sl_list (pv 0) (po_some pe_int) po_none) pa_nil))))
    (pss_cons (ps_if (pt_cmpR (op_eqD hr.units) (pv 1) (C8.pe_gc (v := .ref o0) rfl ⟨_, mZ, rfl⟩) (nomark _)) (pss_one (ps_ret (pe_ifExp (pt_val (pv 2)) pe_str pe_str))) pss_nil)
    (pss_cons (ps_if (pt_cmpR (op_eqD hr.units) (pv 1) (C8.pe_gc (v := .ref o1) rfl ⟨_, mO, rfl⟩) (nomark _)) (pss_one (ps_ret (pe_ifExp (pt_val (pv 2)) pe_str pe_str))) pss_nil)
    (pss_one (ps_ret (pe_ifExp (pt_cmpR (op_eqD hr.units) (pv 1) (C8.pe_gc (v := .ref om) rfl ⟨_, mM, rfl⟩) (nomark _)) pe_str pe_str)))))), ?_⟩
  obtain ⟨x0, e0, n0⟩ := nx.get' (i := 0) (by omega)
  have g0 : qs.getD 0 0 = qs[0] := by rw [List.getD_eq_getElem?_getD, List.getElem?_eq_getElem (by omega)]; rfl
  generalize hq0 : qs[0] = q0 at n0 g0
  refine ⟨_, rfl, a, _, 0, _, rfl, rfl, SqL.of ha, at_of (j := 0) rfl e0, _, rfl, 1, rfl, a, _, rfl, SqL.of ha, fun b nb => ?_⟩
  have ec : cutV xs (some 1) none = xs.drop 1 := cut_drop xs 1
  rw [ec]
  have s1 := new_same nb (.lst (xs.drop 1))
  refine ⟨.ref b, qs.drop 1, rfl, ⟨b, _, rfl, upd_same, (nx.drop 1).same s1⟩, by rw [List.length_drop]; omega, fun H2 s2 => ?_⟩
  have s2 := s1.trans s2
  have n2 := n0.same s2
  have dp2 : ∀ {H3}, H3 = H2 → Dp K H3 x0 (tupQ q0) := fun e => by rw [e]; exact n2.dp
  have e1 : tupQ 1 = .tuple [.int 1, .int 1] := rfl
  have em : tupQ (-1) = .tuple [.int (-1), .int 1] := rfl
  have eb : ∀ b : Bool, b = (qs.drop 1).all (fun q => decide (q = 0)) → (qs.drop 1).all (fun q => decide (q = 0)) = b := fun b h => h.symm
  generalize hz : (qs.drop 1).all (fun q => decide (q = 0)) = z
  refine ⟨_, rfl, _, rfl, tupQ q0, tupQ 0, n2.dp, k0.dp _, rfl, rfl, _, rfl, ?_⟩
  rw [eqv_num]
  by_cases c0 : q0 = 0
  · rw [decide_eq_true c0]
    have qk := q _ s2
    unfold kindS at qk
    rw [g0, if_pos c0, hz] at qk
    refine iteT ⟨_, rfl, _, rfl, ?_⟩
    cases z with
    | true => exact iteF qk
    | false => exact iteT qk
  rw [decide_eq_false c0]
  refine iteF ?_
  refine ⟨_, rfl, tupQ q0, tupQ 1, n2.dp, k1.dp _, rfl, rfl, _, rfl, ?_⟩
  rw [eqv_num]
  by_cases c1 : q0 = 1
  · rw [decide_eq_true c1]
    have qk := q _ s2
    unfold kindS at qk
    rw [g0, if_neg c0, if_pos c1, hz] at qk
    refine iteT ⟨_, rfl, _, rfl, ?_⟩
    cases z with
    | true => exact iteF qk
    | false => exact iteT qk
  rw [decide_eq_false c1]
  refine iteF ?_
  have qk := q _ s2
  unfold kindS at qk
  rw [g0, if_neg c0, if_neg c1] at qk
  refine ⟨_, rfl, tupQ q0, tupQ (-1), n2.dp, km.dp _, rfl, rfl, _, rfl, ?_⟩
  rw [eqv_num]
  by_cases cm : q0 = -1
  · rw [decide_eq_true cm]
    rw [if_pos cm] at qk
    exact iteT qk
  · rw [decide_eq_false cm]
    rw [if_neg cm] at qk
    exact iteF qk
end
end Kx
end
section
set_option maxHeartbeats 4000000
namespace Kx
open PySem PySem.Spec PyProof.Rows L2 RZ
def rwF (b : Addr) (n : Int) (hv : V) : List (Str × V) := [("_numbers", .ref b), ("order", .int n), ("height", hv)]
def stF (b : Addr) (n : Int) (x0 : V) (kd : Str) (hv fv sv : V) : List (Str × V) := [("_numbers", .ref b), ("order", .int n), ("lead", x0), ("kind", .str kd), ("height", hv), ("flat", fv), ("strength", sv)]
def rwN : List Str := ["_numbers", "order", "height"]
def stN : List Str := ["_numbers", "order", "lead", "kind", "height", "flat", "strength"]
/-- a row with these numbers -/
def RwAt (K : PySem.W.Frag) (C : Addr) (H : Hp) (v : V) (qs : List Rat) : Prop := ∃ (x dx b : Addr) (xs : List V), v = .ref x ∧ H x = some (.ins C dx (rwF b ((qs.length : Int) - 1) (hgtV qs 0))) ∧ H b = some (.lst xs) ∧ Nl K H xs qs ∧ 3 ≤ qs.length ∧ qs.length ≤ 25
theorem RwAt.same {K : PySem.W.Frag} {C : Addr} {H H' : Hp} {v : V} {qs : List Rat} (h : RwAt K C H v qs) (s : Same H H') : RwAt K C H' v qs := by
  obtain ⟨x, dx, b, xs, e, h1, h2, h3, h4⟩ := h
  exact ⟨x, dx, b, xs, e, s _ _ h1, s _ _ h2, h3.same s, h4⟩
/-- a step with these numbers -/
def StAt (K : PySem.W.Frag) (S : Addr) (H : Hp) (v : V) (qs : List Rat) : Prop := ∃ (x dx b : Addr) (xs : List V) (x0 fv sv : V), v = .ref x ∧ H x = some (.ins S dx (stF b (qs.length : Int) x0 (kindS qs) (hgtV qs 1) fv sv)) ∧ H b = some (.lst xs) ∧ Nl K H xs qs ∧ xs[0]? = some x0 ∧ 2 ≤ qs.length ∧ qs.length ≤ 24
theorem StAt.same {K : PySem.W.Frag} {S : Addr} {H H' : Hp} {v : V} {qs : List Rat} (h : StAt K S H v qs) (s : Same H H') : StAt K S H' v qs := by
  obtain ⟨x, dx, b, xs, x0, fv, sv, e, h1, h2, h3, h4⟩ := h
  exact ⟨x, dx, b, xs, x0, fv, sv, e, s _ _ h1, s _ _ h2, h3.same s, h4⟩
/-- what a constructor may be given: refused, or not -/
def Giv (K : PySem.W.Frag) (CF CO : Addr) (H : Hp) (v : V) (fu : Int) (E : XK) (good : List V → List Rat → Prop) : Prop :=
  (LsV K H v false ∧ Air H CF (fs1 "InvalidFraction" "at" [.int (-1)]) E) ∨
   ∃ (a : Addr) (xs : List V), v = .ref a ∧ SqH H a xs ∧
     (((xs.length : Int) + fu < 2 ∨ 24 < (xs.length : Int) + fu) ∧ Air H CO (fs1 "InvalidOrder" "value" [.int ((xs.length : Int) + fu)]) E ∨
      2 ≤ (xs.length : Int) + fu ∧ (xs.length : Int) + fu ≤ 24 ∧
        ((∃ (rs : List Bool) (k : Nat), Its K H xs rs ∧ badAt rs 0 = some k ∧ Air H CF (fs1 "InvalidFraction" "at" [.int (k : Nat)]) E) ∨ ∃ qs : List Rat, Nl K H xs qs ∧ good xs qs))
def spRI (K : PySem.W.Frag) (C CF CO : Addr) : Sp := fun vs H Q E => ∃ (x dx : Addr) (v : V), vs = [.ref x, v] ∧ v ≠ .ref x ∧ H x = some (.ins C dx []) ∧
  Giv K CF CO H v (-1) E fun xs qs => ∀ H' b, But x H H' → H b = none → H' x = some (.ins C dx (rwF b ((qs.length : Int) - 1) (hgtV qs 0))) → H' b = some (.lst xs) → Q .non H'
def spSI (K : PySem.W.Frag) (S CF CO : Addr) : Sp := fun vs H Q E => ∃ (x dx : Addr) (v : V), vs = [.ref x, v] ∧ v ≠ .ref x ∧ H x = some (.ins S dx []) ∧
  Giv K CF CO H v 0 E fun xs qs => ∀ H' b x0 fv sv, xs[0]? = some x0 → But x H H' → H b = none → H' x = some (.ins S dx (stF b (qs.length : Int) x0 (kindS qs) (hgtV qs 1) fv sv)) → H' b = some (.lst xs) → Q .non H'
abbrev nIn : List Str := ["self", "numbers"]
theorem but_put {x : Addr} {H : Hp} {o : HO} : But x H (upd H x o) := fun b u n h => by rw [upd_ne n]; exact h
theorem Nq.but {K : PySem.W.Frag} {H H' : Hp} {x C dx : Addr} {fs : List (Str × V)} {v : V} {q : Rat} (h : Nq K H v q) (hx : H x = some (.ins C dx fs)) (s : But x H H') : Nq K H' v q := by
  obtain ⟨a, e, h⟩ := h
  refine ⟨a, e, h.imp (fun h => s _ _ (fun z => ?_) h) id⟩
  rw [z, hx] at h
  cases h
theorem Nl.but {K : PySem.W.Frag} {H H' : Hp} {x C dx : Addr} {fs : List (Str × V)} {xs : List V} {qs : List Rat} (h : Nl K H xs qs) (hx : H x = some (.ins C dx fs)) (s : But x H H') : Nl K H' xs qs := ⟨h.1, fun i y q h1 h2 => (h.2 i y q h1 h2).but hx s⟩
section
variable {P : Program} {w : World} {K : PySem.W.Frag} {mg : Str → Option Value} {base : Heap} {f fI C S CF CO o1 o0 : Addr} {fd : FuncData}
/-- from Giv to the promise of checked_numbers -/
theorem Giv.cn {H : Hp} {v : V} {fu : Int} {E : XK} {Qx : Addr → Hp → Prop} {good : List V → List Rat → Prop} (h : Giv K CF CO H v fu E good)
    (q : ∀ a xs qs H' b, v = .ref a → SqH H a xs → Nl K H xs qs → good xs qs → 2 ≤ (xs.length : Int) + fu → (xs.length : Int) + fu ≤ 24 → Same H H' → H b = none → H' b = some (.lst xs) → Qx b H') :
  ((LsV K H v false ∧ Air H CF (fs1 "InvalidFraction" "at" [.int (-1)]) E) ∨
   ∃ (a : Addr) (xs : List V) (rs : List Bool), v = .ref a ∧ SqH H a xs ∧
     (((xs.length : Int) + fu < 2 ∨ 24 < (xs.length : Int) + fu) ∧ Air H CO (fs1 "InvalidOrder" "value" [.int ((xs.length : Int) + fu)]) E ∨
      2 ≤ (xs.length : Int) + fu ∧ (xs.length : Int) + fu ≤ 24 ∧ Its K H xs rs ∧ (∀ k : Nat, badAt rs 0 = some k → Air H CF (fs1 "InvalidFraction" "at" [.int (k : Nat)]) E) ∧
        (badAt rs 0 = none → ∀ H' b, Same H H' → H b = none → H' b = some (.lst xs) → Qx b H'))) := by
  rcases h with h | ⟨a, xs, rfl, ha, h⟩
  · exact .inl h
  · rcases h with ⟨ho, air⟩ | ⟨l1, l2, h⟩
    · exact .inr ⟨a, xs, [], rfl, ha, .inl ⟨ho, air⟩⟩
    · rcases h with ⟨rs, k, hI, hb, air⟩ | ⟨qs, nx, g⟩
      · refine .inr ⟨a, xs, rs, rfl, ha, .inr ⟨l1, l2, hI, fun k' hk => ?_, fun z => ?_⟩⟩
        · rw [hb] at hk
          rw [← Option.some.inj hk]
          exact air
        · rw [hb] at z; cases z
      · refine .inr ⟨a, xs, _, rfl, ha, .inr ⟨l1, l2, nx.its, fun k' hk => ?_, fun z H' b s n e => q a xs qs H' b rfl ha nx g l1 l2 s n e⟩⟩
        rw [bad_rep] at hk
        cases hk
theorem scRI : FnScope nIn ["self", "numbers"] (defScope C_Row_init) := ⟨rfl, rfl, rfl, by decide +kernel, rfl, by decide +kernel, by decide +kernel⟩
theorem ok_rwinit (G : Fun K "__init__" "Row.__init__" C_Row_init f fd) (c : Cls K C) (nA : ∀ n ∈ rwN, NoAttr K C n) (mn : mg "len" = none)
    (UN : Use P w K mg base (L2.CX P w) 5 "checked_numbers" ["numbers", "further"] (spCn K CF CO) []) (UL : Use P w K mg base CX0 1 "least_place" ["numbers", "first"] (spLp K) []) :
    FnOk P w K mg base (L2.CX P w) 6 f fd ["self", "numbers"] (spRI K C CF CO) := by
  refine G.okX scRI (fun vs H Q E h => ?_) (fun cdv A outer s H vs Q E hr h => ?_)
  · obtain ⟨x, dx, v, rfl, _⟩ := h
    rfl
  obtain ⟨x, dx, v, rfl, nv, hx, hg⟩ := h
  have hr1 := hr.mono (show 1 ≤ 5 by decide)
  have n1 := nA "_numbers" (by simp [rwN])
  have n2 := nA "order" (by simp [rwN])
  have n3 := nA "height" (by simp [rwN])
  refine ⟨_, pss_cons (ps_fld (pv 0) (pe_use (E := E) UN hr rfl (passes_call (takes_of rfl rfl rfl rfl) (fun _ _ _ _ h => h)) (pa_cons (pv 1) (pa_cons (pe_un un_neg pe_int) pa_nil))) rfl)
    (pss_cons (ps_fld (pv 0) (pe_op op_sub (pe_callB call_len_seq rfl mn PySem.boot_len (pa_cons (pv 1) pa_nil)) pe_int) rfl)
    (pss_one (ps_fld (pv 0) (pe_use UL hr1 rfl pass0 (pa_cons (pe_fld (pv 0) rfl) (pa_cons pe_int pa_nil))) rfl))), ?_⟩
  refine ⟨_, rfl, 1, rfl, v, -1, rfl, ?_⟩
  refine hg.cn fun a xs qs H1 b ev ha nx g l1 l2 s1 nb hb => ?_
  subst ev
  have hx1 := s1 _ _ hx
  have xb : b ≠ x := fun e => by rw [e, hx] at nb; cases nb
  have xa : a ≠ x := fun e => nv (by rw [e])
  have lq : xs.length = qs.length := nx.1
  refine ⟨_, rfl, x, C, dx, _, rfl, hx1, c, n1, by decide, ?_⟩
  have ha2 : SqH (upd H1 x (.ins C dx (putF "_numbers" (.ref b) []))) a xs := by
    unfold SqH
    rw [upd_ne xa]
    exact ha.same s1
  have nx2 : Nl K (upd H1 x (.ins C dx (putF "_numbers" (.ref b) []))) xs qs := (nx.same s1).but hx1 but_put
  have hb2 : (upd H1 x (.ins C dx (putF "_numbers" (.ref b) []))) b = some (.lst xs) := by rw [upd_ne xb]; exact hb
  have u2 : But x H (upd H1 x (.ins C dx (putF "_numbers" (.ref b) []))) := (But.same s1).trans but_put
  have hx2 : (upd H1 x (.ins C dx (putF "_numbers" (.ref b) []))) x = some (.ins C dx (putF "_numbers" (.ref b) [])) := upd_same
  generalize upd H1 x (.ins C dx (putF "_numbers" (.ref b) [])) = H2 at ha2 nx2 hb2 u2 hx2
  refine ⟨_, rfl, a, _, rfl, ha2.imp SqL.of SqT.of, _, 1, rfl, rfl, _, rfl, x, C, dx, _, rfl, hx2, c, n2, (by show 1 < 1000; decide), ?_⟩
  have nx3 : Nl K (upd H2 x (.ins C dx (putF "order" (.int ((xs.length : Nat) - 1)) (putF "_numbers" (.ref b) [])))) xs qs := nx2.but hx2 but_put
  have hb3 : (upd H2 x (.ins C dx (putF "order" (.int ((xs.length : Nat) - 1)) (putF "_numbers" (.ref b) [])))) b = some (.lst xs) := by rw [upd_ne xb]; exact hb2
  have u3 : But x H (upd H2 x (.ins C dx (putF "order" (.int ((xs.length : Nat) - 1)) (putF "_numbers" (.ref b) [])))) := u2.trans but_put
  refine ⟨_, rfl, x, C, dx, _, _, rfl, upd_same, c, n1, rfl, .ref b, qs, 0, rfl, ⟨b, xs, rfl, hb3, nx3⟩, fun H4 s4 => ?_⟩
  have hx4 := s4 _ _ (show upd H2 x (.ins C dx (putF "order" (.int ((xs.length : Nat) - 1)) (putF "_numbers" (.ref b) []))) x = _ from upd_same)
  refine ⟨_, rfl, x, C, dx, _, rfl, hx4, c, n3, (by show 2 < 1000; decide), ?_⟩
  rw [← lq] at g
  exact g _ b ((u3.trans (But.same s4)).trans but_put) nb upd_same (by rw [upd_ne xb]; exact s4 _ _ hb3)
end
end Kx
end
section
set_option maxHeartbeats 4000000
namespace Kx
open PySem PySem.Spec PyProof.Rows L2 RZ
theorem hgtN_ex : ∀ (qs : List Rat) (f : Nat), (∃ q ∈ qs, q ≠ 0) → ∃ k, k < qs.length ∧ hgtN qs f = some (f + k)
  | [], _, h => by obtain ⟨q, hq, _⟩ := h; cases hq
  | q :: qs, f, h => by
    by_cases c : q = 0
    · obtain ⟨r, hr, nr⟩ := h
      have hr' : r ∈ qs := by
        rcases List.mem_cons.mp hr with e | e
        · exact absurd (by rw [e]; exact c) nr
        · exact e
      obtain ⟨k, hk, e⟩ := hgtN_ex qs (f + 1) ⟨r, hr', nr⟩
      refine ⟨k + 1, by rw [List.length_cons]; omega, ?_⟩
      show (if q = 0 then hgtN qs (f + 1) else some f) = _
      rw [if_pos c, e]
      congr 1
      omega
    · refine ⟨0, by rw [List.length_cons]; omega, ?_⟩
      show (if q = 0 then hgtN qs (f + 1) else some f) = _
      rw [if_neg c]
      rfl
theorem not_zero {qs : List Rat} (h : ¬ (qs.all (fun q => decide (q = 0)) = true)) : ∃ q ∈ qs, q ≠ 0 := by
  rw [List.all_eq_true] at h
  exact Classical.byContradiction fun z => h fun q hq => decide_eq_true (Classical.byContradiction fun n => z ⟨q, hq, n⟩)
theorem kind_creep {qs : List Rat} (h : kindS qs = "creep") : ∃ q ∈ qs.drop 1, q ≠ 0 := by
  unfold kindS at h
  split at h
  · split at h <;> exact absurd h (by decide)
  · split at h
    · split at h
      · exact absurd h (by decide)
      · exact not_zero (by assumption)
    · split at h <;> exact absurd h (by decide)
theorem kind_crush {qs : List Rat} (h : kindS qs = "crush") : ∃ q ∈ qs, q ≠ 0 := by
  have z : ∃ q ∈ qs.drop 1, q ≠ 0 := by
    unfold kindS at h
    split at h
    · split at h
      · exact absurd h (by decide)
      · exact not_zero (by assumption)
    · split at h
      · split at h <;> exact absurd h (by decide)
      · split at h <;> exact absurd h (by decide)
  obtain ⟨q, hq, n⟩ := z
  exact ⟨q, List.mem_of_mem_drop hq, n⟩
/-- how far an __init__ has come -/
structure Stg (K : PySem.W.Frag) (H Hk : Hp) (x S dx : Addr) (fs : List (Str × V)) (b : Addr) (xs : List V) (qs : List Rat) : Prop where
  u : But x H Hk
  hx : Hk x = some (.ins S dx fs)
  hb : Hk b = some (.lst xs)
  nx : Nl K Hk xs qs
  xb : b ≠ x
theorem Stg.put {K : PySem.W.Frag} {H Hk : Hp} {x S dx : Addr} {fs : List (Str × V)} {b : Addr} {xs : List V} {qs : List Rat} (h : Stg K H Hk x S dx fs b xs qs) (fs' : List (Str × V)) : Stg K H (upd Hk x (.ins S dx fs')) x S dx fs' b xs qs :=
  ⟨h.u.trans but_put, upd_same, by rw [upd_ne h.xb]; exact h.hb, h.nx.but h.hx but_put, h.xb⟩
theorem Stg.go {K : PySem.W.Frag} {H Hk H' : Hp} {x S dx : Addr} {fs : List (Str × V)} {b : Addr} {xs : List V} {qs : List Rat} (h : Stg K H Hk x S dx fs b xs qs) (s : Same Hk H') : Stg K H H' x S dx fs b xs qs :=
  ⟨h.u.trans (But.same s), s _ _ h.hx, s _ _ h.hb, h.nx.same s, h.xb⟩
section
variable {P : Program} {w : World} {K : PySem.W.Frag} {mg : Str → Option Value} {base : Heap} {f fI C S CF CO o1 o0 : Addr} {fd : FuncData}
theorem scSI : FnScope nIn ["self", "numbers"] (defScope C_Step_init) := ⟨rfl, rfl, rfl, by decide +kernel, rfl, by decide +kernel, by decide +kernel⟩
theorem ok_stinit (G : Fun K "__init__" "Step.__init__" C_Step_init f fd) (c : Cls K S) (nA : ∀ n ∈ stN, NoAttr K S n) (mn : mg "len" = none)
    (UN : Use P w K mg base (L2.CX P w) 5 "checked_numbers" ["numbers", "further"] (spCn K CF CO) []) (UD : Use P w K mg base CX0 2 "kind_of" ["numbers"] (spKo K) []) (UL : Use P w K mg base CX0 1 "least_place" ["numbers", "first"] (spLp K) []) :
    FnOk P w K mg base (L2.CX P w) 6 f fd ["self", "numbers"] (spSI K S CF CO) := by
  refine G.okX scSI (fun vs H Q E h => ?_) (fun cdv A outer s H vs Q E hr h => ?_)
  · obtain ⟨x, dx, v, rfl, _⟩ := h
    rfl
  obtain ⟨x, dx, v, rfl, nv, hx, hg⟩ := h
  have hr1 := hr.mono (show 1 ≤ 5 by decide)
  have hr2 := hr.mono (show 2 ≤ 5 by decide)
  have n1 := nA "_numbers" (by simp [stN])
  have n2 := nA "order" (by simp [stN])
  have n3 := nA "lead" (by simp [stN])
  have n4 := nA "kind" (by simp [stN])
  have n5 := nA "height" (by simp [stN])
  have n6 := nA "flat" (by simp [stN])
  have n7 := nA "strength" (by simp [stN])
  refine ⟨_, pss_cons (ps_fld (pv 0) (pe_use (E := E) UN hr rfl (passes_call (takes_of rfl rfl rfl rfl) (fun _ _ _ _ h => h)) (pa_cons (pv 1) (pa_cons pe_int pa_nil))) rfl)
    (pss_cons (ps_fld (pv 0) (pe_callB call_len_seq rfl mn PySem.boot_len (pa_cons (pv 1) pa_nil)) rfl)
    (pss_cons (ps_fld (pv 0) (pe_ix ix_list (pe_fld (pv 0) rfl) pe_int (fun _ _ => rfl)) rfl)
    (pss_cons (ps_fld (pv 0) (pe_use UD hr2 rfl pass0 (pa_cons (pe_fld (pv 0) rfl) pa_nil)) rfl)
    (pss_cons (ps_fld (pv 0) (pe_use UL hr1 rfl pass0 (pa_cons (pe_fld (pv 0) rfl) (pa_cons pe_int pa_nil))) rfl)
    (pss_cons (ps_fld (pv 0) pe_non rfl)
    (pss_cons (ps_fld (pv 0) pe_non rfl)
    (C8.pss_cut (ps_if (pt_cmpR op_eq (pe_fld (pv 0) rfl) pe_str (nomark _)) (pss_cons (ps_fld (pv 0) (pe_use UL hr1 rfl pass0 (pa_cons (pe_slice sl_list (pe_fld (pv 0) rfl) (po_some pe_int) po_none) (pa_cons pe_int pa_nil))) rfl)
        (pss_one (ps_fld (pv 0) (pe_ix ix_list (pe_fld (pv 0) rfl) (pe_fld (pv 0) rfl) (fun _ _ => rfl)) rfl))) pss_nil)
    (pss_one (ps_if (pt_cmpR op_eq (pe_fld (pv 0) rfl) pe_str (nomark _)) (pss_one (ps_fld (pv 0) (pe_ix ix_list (pe_fld (pv 0) rfl) (pe_op op_sub (pe_fld (pv 0) rfl) pe_int) (fun _ _ => rfl)) rfl)) pss_nil))))))))), ?_⟩
  refine ⟨_, rfl, v, 0, rfl, ?_⟩
  refine hg.cn fun a xs qs H1 b ev ha nx g l1 l2 s1 nb hb => ?_
  subst ev
  have xb : b ≠ x := fun e => by rw [e, hx] at nb; cases nb
  have xa : a ≠ x := fun e => nv (by rw [e])
  have lq : xs.length = qs.length := nx.1
  have g1 : Stg K H H1 x S dx [] b xs qs := ⟨But.same s1, s1 _ _ hx, hb, nx.same s1, xb⟩
  have ha1 := ha.same s1
  refine ⟨_, rfl, x, S, dx, _, rfl, g1.hx, c, n1, by decide, ?_⟩
  have g2 := g1.put (putF "_numbers" (.ref b) [])
  have ha2 : SqH (upd H1 x (.ins S dx (putF "_numbers" (.ref b) []))) a xs := by
    unfold SqH
    rw [upd_ne xa]
    exact ha1
  generalize upd H1 x (.ins S dx (putF "_numbers" (.ref b) [])) = H2 at g2 ha2
  refine ⟨_, rfl, a, _, rfl, ha2.imp SqL.of SqT.of, _, rfl, x, S, dx, _, rfl, g2.hx, c, n2, (by show 1 < 1000; decide), ?_⟩
  have g3 := g2.put (putF "order" (.int ((xs.length : Nat) : Int)) (putF "_numbers" (.ref b) []))
  generalize upd H2 x (.ins S dx (putF "order" (.int ((xs.length : Nat) : Int)) (putF "_numbers" (.ref b) []))) = H3 at g3
  obtain ⟨x0, e0, m0⟩ := g3.nx.get' (i := 0) (by omega)
  refine ⟨_, rfl, x, S, dx, _, _, rfl, g3.hx, c, n1, rfl, b, xs, 0, x0, rfl, rfl, SqL.of g3.hb, at_of (j := 0) rfl e0, _, rfl, x, S, dx, _, rfl, g3.hx, c, n3, (by show 2 < 1000; decide), ?_⟩
  rw [lq] at g3 ⊢
  generalize hln : (((qs.length : Nat)) : Int) = ln at g3
  have g4 := g3.put (putF "lead" x0 (putF "order" (.int ln) (putF "_numbers" (.ref b) [])))
  generalize upd H3 x (.ins S dx (putF "lead" x0 (putF "order" (.int ln) (putF "_numbers" (.ref b) [])))) = H4 at g4
  refine ⟨_, rfl, x, S, dx, _, _, rfl, g4.hx, c, n1, rfl, .ref b, qs, rfl, ⟨b, xs, rfl, g4.hb, g4.nx⟩, by omega, by omega, fun H5 s5 => ?_⟩
  have g5 := g4.go s5
  refine ⟨_, rfl, x, S, dx, _, rfl, g5.hx, c, n4, (by show 3 < 1000; decide), ?_⟩
  generalize hkd : kindS qs = kd
  have g6 := g5.put (putF "kind" (.str kd) (putF "lead" x0 (putF "order" (.int ln) (putF "_numbers" (.ref b) []))))
  generalize upd H5 x (.ins S dx (putF "kind" (.str kd) (putF "lead" x0 (putF "order" (.int ln) (putF "_numbers" (.ref b) []))))) = H6 at g6
  refine ⟨_, rfl, x, S, dx, _, _, rfl, g6.hx, c, n1, rfl, .ref b, qs, 1, rfl, ⟨b, xs, rfl, g6.hb, g6.nx⟩, fun H7 s7 => ?_⟩
  have g7 := g6.go s7
  refine ⟨_, rfl, x, S, dx, _, rfl, g7.hx, c, n5, (by show 4 < 1000; decide), ?_⟩
  generalize hhv : hgtV qs 1 = hv
  have g8 := g7.put (putF "height" hv (putF "kind" (.str kd) (putF "lead" x0 (putF "order" (.int ln) (putF "_numbers" (.ref b) [])))))
  generalize upd H7 x (.ins S dx (putF "height" hv (putF "kind" (.str kd) (putF "lead" x0 (putF "order" (.int ln) (putF "_numbers" (.ref b) [])))))) = H8 at g8
  refine ⟨_, rfl, x, S, dx, _, rfl, g8.hx, c, n6, (by show 5 < 1000; decide), ?_⟩
  have g9 := g8.put (putF "flat" .non (putF "height" hv (putF "kind" (.str kd) (putF "lead" x0 (putF "order" (.int ln) (putF "_numbers" (.ref b) []))))))
  generalize upd H8 x (.ins S dx (putF "flat" .non (putF "height" hv (putF "kind" (.str kd) (putF "lead" x0 (putF "order" (.int ln) (putF "_numbers" (.ref b) []))))))) = H9 at g9
  refine ⟨_, rfl, x, S, dx, _, rfl, g9.hx, c, n7, (by show 6 < 1000; decide), ?_⟩
  have g10 : Stg K H (upd H9 x (.ins S dx (stF b ln x0 kd hv .non .non))) x S dx (stF b ln x0 kd hv .non .non) b xs qs := g9.put _
  refine ⟨fun σ H' => σ = [some (.ref x), some (.ref a)] ∧ ∃ fv sv, Stg K H H' x S dx (stF b ln x0 kd hv fv sv) b xs qs, ?_, ?_⟩
  · change Stg K H (upd H9 x (.ins S dx (putF "strength" .non (putF "flat" .non (putF "height" hv (putF "kind" (.str kd) (putF "lead" x0 (putF "order" (.int ln) (putF "_numbers" (.ref b) [])))))))))  x S dx (stF b ln x0 kd hv .non .non) b xs qs at g10
    generalize upd H9 x (.ins S dx (putF "strength" .non (putF "flat" .non (putF "height" hv (putF "kind" (.str kd) (putF "lead" x0 (putF "order" (.int ln) (putF "_numbers" (.ref b) [])))))))) = H10 at g10
    refine ⟨_, rfl, x, S, dx, _, _, rfl, g10.hx, c, n4, rfl, rfl, _, rfl, ite2 (fun e => ?_) (fun _ => ⟨rfl, _, _, g10⟩)⟩
    have ek : kindS qs = "creep" := by rw [hkd]; exact V.str.inj (of_decide_eq_true e)
    obtain ⟨k, hk, ek2⟩ := hgtN_ex (qs.drop 1) 0 (kind_creep ek)
    rw [List.length_drop] at hk
    refine ⟨_, rfl, x, S, dx, _, _, rfl, g10.hx, c, n1, rfl, 1, rfl, b, _, rfl, SqL.of g10.hb, fun p np => ?_⟩
    have ec : cutV xs (some 1) none = xs.drop 1 := cut_drop xs 1
    rw [ec]
    have s11 := new_same np (.lst (xs.drop 1))
    have g11 := g10.go s11
    refine ⟨.ref p, qs.drop 1, 1, rfl, ⟨p, _, rfl, upd_same, g11.nx.drop 1⟩, fun H12 s12 => ?_⟩
    have g12 := g11.go s12
    have ev : hgtV (qs.drop 1) 1 = .int (1 + (k : Nat)) := by
      unfold hgtV
      rw [ek2, Nat.zero_add]
    rw [ev]
    refine ⟨_, rfl, x, S, dx, _, rfl, g12.hx, c, n6, (by show 7 < 1000; decide), ?_⟩
    have g13 : Stg K H (upd H12 x (.ins S dx (putF "flat" (.int (1 + (k : Nat))) (stF b ln x0 kd hv .non .non)))) x S dx (stF b ln x0 kd hv (.int (1 + (k : Nat))) .non) b xs qs := g12.put _
    generalize upd H12 x (.ins S dx (putF "flat" (.int (1 + (k : Nat))) (stF b ln x0 kd hv .non .non))) = H13 at g13
    have e3 := List.getElem?_eq_getElem (l := xs) (i := 1 + k) (by omega)
    refine ⟨_, rfl, x, S, dx, _, _, rfl, g13.hx, c, n1, rfl, _, rfl, x, S, dx, _, _, rfl, g13.hx, c, n6, rfl, b, xs, _, _, rfl, rfl, SqL.of g13.hb, at_of (j := 1 + k) (by omega) e3, _, rfl, x, S, dx, _, rfl, g13.hx, c, n7, (by show 7 < 1000; decide), ?_⟩
    exact ⟨rfl, _, _, g13.put _⟩
  · rintro σ H10 ⟨rfl, fv, sv, g10⟩
    have fin : ∀ H' fv sv, Stg K H H' x S dx (stF b ln x0 kd hv fv sv) b xs qs → Q .non H' := fun H' fv sv z => by
      refine g H' b x0 fv sv e0 z.u nb ?_ z.hb
      rw [hln, hkd, hhv]
      exact z.hx
    refine ⟨_, rfl, x, S, dx, _, _, rfl, g10.hx, c, n4, rfl, rfl, _, rfl, ite2 (fun e => ?_) (fun _ => fin _ _ _ g10)⟩
    have ek : kindS qs = "crush" := by rw [hkd]; exact V.str.inj (of_decide_eq_true e)
    obtain ⟨k, hk, ek2⟩ := hgtN_ex qs 0 (kind_crush ek)
    have ev : hv = .int (1 + (k : Nat)) := by
      rw [← hhv]
      unfold hgtV
      rw [ek2, Nat.zero_add]
    have e3 := List.getElem?_eq_getElem (l := xs) (i := k) (by omega)
    refine ⟨_, rfl, x, S, dx, _, _, rfl, g10.hx, c, n1, rfl, _, rfl, x, S, dx, _, _, rfl, g10.hx, c, n5, rfl, 1 + (k : Nat), 1, ev, rfl, b, xs, _, _, rfl, rfl, SqL.of g10.hb, at_of (j := k) (by omega) e3, _, rfl, x, S, dx, _, rfl, g10.hx, c, n7, (by show 7 < 1000; decide), ?_⟩
    exact fin _ fv _ (g10.put _)
end
end Kx
end
section
set_option maxHeartbeats 4000000
namespace Kx
open PySem PySem.Spec PyProof.Rows L2
/-! ### operators of own classes -/
theorem ep_cmp {X : Cx} {pins : List (Addr × Obj)} {σ : L2.St} {Q : VK} {u : Value} {s' : Shared} (h : EP X pins σ Q u s') : PySem.W.CmpBack (EP X pins σ Q) u s' := by
  obtain ⟨v, H', I, r, q⟩ := h
  have key : u ≠ .notImplemented := by
    rintro rfl
    cases v <;> first | (obtain ⟨_, z⟩ := r; cases z) | cases r
  have fin : EP X pins σ Q u s' := ⟨v, H', I, r, q⟩
  cases u <;> first | exact fin | exact absurd rfl key
/-- an operator's method of a class -/
structure OpM (P : Program) (w : World) (K : PySem.W.Frag) (mg : Str → Option Value) (base : Heap) (CX : CXT) (k : Nat) (C : Addr) (nm : Str) (sp : Sp) : Prop where
  ex : ∃ (g : Addr) (fd : FuncData) (ps : List Str), PySem.W.findIn K (.ref C) nm = some (some (.ref g)) ∧ PySem.W.isFn K (.ref g) = true ∧ FnOk P w K mg base CX k g fd ps sp ∧ Binds K fd ps []
  sf : PySem.W.selfFirst K C = true
def rBin (C : Addr) (sp : Sp) (E : XK) : R2 := fun x y H Q => ∃ (a b dx dy : Addr) (fs gs : List (Str × V)), x = .ref a ∧ y = .ref b ∧ H a = some (.ins C dx fs) ∧ H b = some (.ins C dy gs) ∧ sp [x, y] H Q E
section
variable {X : Cx} {CX : CXT} {k : Nat} {C : Addr} {sp : Sp} {E : XK}
theorem op_bin {op : Operator} {nm : Str} (O : OpM X.prog X.w X.K X.mg X.base CX k C nm sp) (hn : PySem.dunder op.info.2 = nm) (hr : Room k X.A) (hx : Passes CX X E) : OpR X (binaryOp op) (rBin C sp E) := by
  intro pins s σ H x y v u Q I rx ry h
  obtain ⟨a, b, dx, dy, fs, gs, rfl, rfl, ha, hb', hsp⟩ := h
  obtain ⟨g, fd, ps, h1, h2, F, hb⟩ := O.ex
  cases rx
  cases ry
  obtain ⟨mA, J, _⟩ := ins_get I.hok ha
  obtain ⟨mB, J', _⟩ := ins_get I.hok hb'
  obtain ⟨od, J, _⟩ := J.look
  obtain ⟨od', J', _⟩ := J'.look
  obtain ⟨m, hF⟩ := I.fr
  refine PySem.W.binop_K (op := op) hF I.ok.mod.kin J J'.type O.sf (by rw [hn]; exact h1) h2 ?_
  exact wpAny_mono (run_fn (us := [.ref a, .ref b]) (vs := [.ref a, .ref b]) F hr hb .nil hx I (.cons rfl (.cons rfl .nil)) (by rw [List.append_nil]; exact hsp)) (fun r s' hq => ep_cmp hq) fun _ _ z => z
def rUnO (C : Addr) (sp : Sp) (E : XK) : V → Hp → VK → Prop := fun x H Q => ∃ (a dx : Addr) (fs : List (Str × V)), x = .ref a ∧ H a = some (.ins C dx fs) ∧ sp [x] H Q E
theorem un_own (O : OpM X.prog X.w X.K X.mg X.base CX k C "__neg__" sp) (hr : Room k X.A) (hx : Passes CX X E) : UnR X (unaryOp .USub) (rUnO C sp E) := by
  intro pins s σ H x v Q I rx h
  obtain ⟨a, dx, fs, rfl, ha, hsp⟩ := h
  obtain ⟨g, fd, ps, h1, h2, F, hb⟩ := O.ex
  cases rx
  obtain ⟨mA, J, _⟩ := ins_get I.hok ha
  obtain ⟨od, J, _⟩ := J.look
  obtain ⟨m, hF⟩ := I.fr
  refine PySem.W.ksp_neg hF I.ok.mod.kin J h1 h2 ?_
  exact run_fn (us := [.ref a]) (vs := [.ref a]) F hr hb .nil hx I (.cons rfl .nil) (by rw [List.append_nil]; exact hsp)
/-- ==, the left one of the class -/
def rEqO (K : PySem.W.Frag) (C : Addr) (sp : Sp) (E : XK) : R2 := fun x y H Q => ∃ (a dx : Addr) (fs : List (Str × V)) (t : Value), x = .ref a ∧ H a = some (.ins C dx fs) ∧ TyX K H y t ∧ PySem.W.notFirst K C t = true ∧ sp [x, y] H Q E
theorem op_eqO (O : OpM X.prog X.w X.K X.mg X.base CX k C "__eq__" sp) (hr : Room k X.A) (hx : Passes CX X E) : OpR X (compareOp .Eq) (rEqO X.K C sp E) := by
  intro pins s σ H x y v u Q I rx ry h
  obtain ⟨a, dx, fs, t, rfl, ha, ty, nf, hsp⟩ := h
  obtain ⟨g, fd, ps, h1, h2, F, hb⟩ := O.ex
  cases rx
  obtain ⟨mA, J, _⟩ := ins_get I.hok ha
  obtain ⟨od, J, _⟩ := J.look
  obtain ⟨m, hF⟩ := I.fr
  obtain ⟨Pp, Z, pp, _⟩ := kit_of I ry ty
  show wpAny (model X.prog X.w) X.A (richCompare .Eq (.ref a) u) (EP X pins σ Q) X.xe s
  refine PySem.W.cmp_K (op := .Eq) (tb := t) hr.units0 hF I.ok.mod.kin J (Z.ty _ _ I.kIn pp) nf h1 h2 ?_
  exact wpAny_mono (run_fn (us := [.ref a, u]) (vs := [.ref a, y]) F hr hb .nil hx I (.cons rfl (.cons ry .nil)) (by rw [List.append_nil]; exact hsp)) (fun r s' hq => ep_cmp hq) fun _ _ z => z
/-- len(x), x of the class -/
def rLenO (C : Addr) (sp : Sp) (E : XK) : List V → Hp → VK → Prop := fun xs H Q => ∃ (a dx : Addr) (fs : List (Str × V)), xs = [.ref a] ∧ H a = some (.ins C dx fs) ∧ sp [.ref a] H (fun v H' => ∃ n : Nat, v = .int (n : Nat) ∧ n < 2 ^ 62 ∧ Q (.int (n : Nat)) H') E
theorem call_lenO (O : OpM X.prog X.w X.K X.mg X.base CX k C "__len__" sp) (hr : Room (k + 1) X.A) (hx : Passes CX X E) : CallR X (.builtin "len") (rLenO C sp E) := by
  intro pins s σ H xs us Q I r h
  obtain ⟨a, dx, fs, rfl, ha, hsp⟩ := h
  obtain ⟨g, fd, ps, h1, h2, F, hb⟩ := O.ex
  obtain rfl : us = [.ref a] := Vals.ref1 r
  obtain ⟨mA, J, _⟩ := ins_get I.hok ha
  obtain ⟨od, J, _⟩ := J.look
  obtain ⟨m, hF⟩ := I.fr
  refine PySem.W.len_K hF I.ok.mod.kin J h1 h2 ?_
  have hl := F.len _ _ _ _ hsp
  refine wpAny_call (codeAny_mono (F.run X.A.in1 X.stack s H ⟨[.ref a], []⟩ [.ref a] [.ref a] _ E hr.in1 I.env0.in1 (by
    have := hb s [.ref a] I.kIn (by simpa using hl)
    simpa using this) (.cons rfl .nil) hsp) fun r s' hq => ?_)
  cases r with
  | error e => exact hx pins σ H s e s' I hq
  | ok fl =>
    cases fl with
    | ret w =>
      obtain ⟨z, H', I', rz, n, ez, nb, q⟩ := I.after hq
      subst ez
      obtain ⟨t, rfl⟩ := rz
      exact ⟨⟨by omega, by omega⟩, .int _, H', I'.tok _, ⟨_, rfl⟩, q⟩
    | next => exact False.elim hq
    | brk => exact False.elim hq
    | cont => exact False.elim hq
end
/-! ### methods as they are used -/
structure MUse (P : Program) (w : World) (K : PySem.W.Frag) (mg : Str → Option Value) (base : Heap) (CX : CXT) (k : Nat) (C : Addr) (m : Str) (ps : List Str) (sp : Sp) (kws : List (List Str)) : Prop where
  ex : ∃ (g : Addr) (fd : FuncData), Meth K C m g ∧ FnOk P w K mg base CX k g fd ps sp ∧ Binds K fd ps [] ∧ ∀ ks ∈ kws, KBn K fd ps 1 ks appB appA
  c : Cls K C
section
variable {X : Cx} {CX : CXT} {k : Nat} {C : Addr} {m : Str} {ps ks : List Str} {sp : Sp} {E : XK} {kl : List (List Str)} {o e : Expr} {es : List Expr} {ta : TE} {t tk : TA} {apos pos : Pos} {kws : List Keyword} {pl : Sem Bool}
theorem pe_mu (U : MUse X.prog X.w X.K X.mg X.base CX k C m ps sp kl) (he : PE X o ta) (hr : Room k X.A) (hx : Passes CX X E) (ha : PA X (e :: es) t)
    (hst : starEach (e :: es) X.env = (false, eval e X.env) :: starEach es X.env := by rfl) (hpl : (backTo pos (starEach es X.env)).any (·.1) = false := by rfl)
    (ht : eval (.Call (.Attribute o m apos) (e :: es) [] pos) X.env = (do
      let ov ← eval o X.env
      standAt apos.atName
      let (f, first) ← holding [ov] (getMethod ov m pl)
      callWith pos f first (backTo pos (starEach (e :: es) X.env)) (backToKw pos (keywordEach [] X.env))) := by rfl) :
    PE X (.Call (.Attribute o m apos) (e :: es) [] pos) (tMeth C m sp [] E ta t) := by
  obtain ⟨g, fd, hm, F, hb, _⟩ := U.ex
  exact pe_meth (pl := pl) he U.c hm F hr hb .nil hx ha hst hpl ht
theorem pe_mu0 (U : MUse X.prog X.w X.K X.mg X.base CX k C m ps sp kl) (he : PE X o ta) (hr : Room k X.A) (hx : Passes CX X E)
    (ht : eval (.Call (.Attribute o m apos) [] [] pos) X.env = (do
      let ov ← eval o X.env
      standAt apos.atName
      let (f, first) ← holding [ov] (getMethod ov m pl)
      callWith pos f first (backTo pos (starEach [] X.env)) (backToKw pos (keywordEach [] X.env))) := by rfl) :
    PE X (.Call (.Attribute o m apos) [] [] pos) (tMeth C m sp [] E ta tNil) := by
  obtain ⟨g, fd, hm, F, hb, _⟩ := U.ex
  exact pe_meth0 (pl := pl) he U.c hm F hr hb .nil hx ht
/-- o.m(k = v, ..), keywords alone -/
def tMethR (C : Addr) (m : Str) (n : Nat) (sp : Sp) (E : XK) (ta : TE) (tk : TA) : TE := fun σ H Q => ta σ H fun x H1 => ∃ a dx fs, x = .ref a ∧ H1 a = some (.ins C dx fs) ∧ fs.lookup m = none ∧ tk σ H1 fun zs H2 => zs.length = n ∧ sp (x :: zs) H2 Q E
theorem pe_muR (U : MUse X.prog X.w X.K X.mg X.base CX k C m ps sp kl) (he : PE X o ta) (hr : Room k X.A) (hx : Passes CX X E) (hkw : PK X kws tk) (hin : ks ∈ kl)
    (hall : (backToKw pos (keywordEach kws X.env)).all (·.1.isSome) = true := by rfl) (hks : (backToKw pos (keywordEach kws X.env)).filterMap (·.1) = ks := by rfl)
    (hpl : ((backTo pos (starEach [] X.env)).any (·.1) || (backToKw pos (keywordEach kws X.env)).any (·.1.isNone)) = false := by rfl)
    (ht : eval (.Call (.Attribute o m apos) [] kws pos) X.env = (do
      let ov ← eval o X.env
      standAt apos.atName
      let (f, first) ← holding [ov] (getMethod ov m pl)
      callWith pos f first (backTo pos (starEach [] X.env)) (backToKw pos (keywordEach kws X.env))) := by rfl) :
    PE X (.Call (.Attribute o m apos) [] kws pos) (tMethR C m ks.length sp E ta tk) := by
  obtain ⟨g, fd, hm, F, _, hK⟩ := U.ex
  have hb := hK ks hin
  refine ⟨fun pins s σ H Q I h => ?_⟩
  refine PySem.W.methodCall_KW (pl := pl) (thn (he.run pins s σ H _ I h) fun u s1 ⟨x, H1, I1, rx, a, dx, fs, ex, ea, l, q⟩ => ?_) ht
  subst ex
  obtain rfl : u = Value.ref a := rx
  refine getmeth_ok I1 ea U.c hm l ?_
  refine PySem.W.callWith_KW0 (first := [.ref a]) (h₀ := X.base) I.ok.mod.kin hm.kp hall ?_ hpl
  refine thn (hkw.run pos pins s1 σ H1 _ I1 q) fun ws s2 ⟨zs, H2, I2, rz, l2, q2⟩ => ⟨I2.kIn, ?_⟩
  rw [hks]
  exact run_fnN (us := [.ref a]) (vs := [.ref a]) F hr hb hx I2 (.cons rfl .nil) rz rfl l2 q2
end
structure CSta (K : PySem.W.Frag) (C : Addr) (mc : Value) (m : Str) (p g : Addr) : Prop where
  at_ : PySem.W.findCls K (.ref C) mc m = some (.get (.builtin "staticmethod.__get__") (.ref p) .none (.ref C))
  rc : ∃ rest, PySem.W.recIn K p "staticmethod" = some (.ref g :: rest)
  kp : PySem.W.keepIn K (.ref g) = true
def tStat (C : Addr) (sp : Sp) (E : XK) (ta : TE) (t : TA) : TE := fun σ H Q => ta σ H fun x H1 => x = .ref C ∧ t σ H1 fun vs H2 => sp vs H2 Q E
section
variable {X : Cx} {CX : CXT} {k : Nat} {C p g : Addr} {mc : Value} {fd : FuncData} {ps : List Str} {sp : Sp} {E : XK} {o e : Expr} {es : List Expr} {m : Str} {pos apos : Pos} {ta : TE} {t : TA} {pl : Sem Bool}
theorem pe_static (he : PE X o ta) (r : ClX.CRead X.K C mc) (c : CSta X.K C mc m p g) (F : FnOk X.prog X.w X.K X.mg X.base CX k g fd ps sp) (hr : Room k X.A) (hb : Binds X.K fd ps []) (hx : Passes CX X E) (ha : PA X (e :: es) t)
    (hst : starEach (e :: es) X.env = (false, eval e X.env) :: starEach es X.env := by rfl) (hpl : (backTo pos (starEach es X.env)).any (·.1) = false := by rfl)
    (ht : eval (.Call (.Attribute o m apos) (e :: es) [] pos) X.env = (do
      let ov ← eval o X.env
      standAt apos.atName
      let (f, first) ← holding [ov] (getMethod ov m pl)
      callWith pos f first (backTo pos (starEach (e :: es) X.env)) (backToKw pos (keywordEach [] X.env))) := by rfl) :
    PE X (.Call (.Attribute o m apos) (e :: es) [] pos) (tStat C sp E ta t) := by
  refine ⟨fun pins s σ H Q I h => ?_⟩
  refine PySem.W.methodCall_KW (pl := pl) (thn (he.run pins s σ H _ I h) fun u s1 ⟨x, H1, I1, rx, ex, q⟩ => ?_) ht
  subst ex
  obtain rfl : u = Value.ref C := rx
  obtain ⟨rest, hp⟩ := c.rc
  refine PySem.W.method_cls I1.kIn r.ga (PySem.W.cls_bind I1.kIn r.rd c.at_ (wpAny_call (PySem.W.sm_get (s := { s1 with toks := s1.toks + 1 }) I1.kIn hp (PySem.W.handed_on rfl ?_))))
  have I2 : Inv X pins σ H1 { s1 with toks := s1.toks + 1 } := I1.tok _
  refine PySem.W.callWith_K (h₀ := X.base) I2.ok.mod.kin c.kp (thn (ha.run pos pins _ σ H1 _ I2 q) fun us s3 ⟨vs, H2, I3, rv, q2⟩ => ⟨I3.kIn, ?_⟩) hst hpl
  exact run_fn F hr hb .nil hx I3 rv (by rw [List.append_nil]; exact q2)
end
/-- C.m(k = v, ..) of a staticmethod, keywords alone -/
def tStatR (C : Addr) (n : Nat) (sp : Sp) (E : XK) (ta : TE) (t : TA) : TE := fun σ H Q => ta σ H fun x H1 => x = .ref C ∧ t σ H1 fun zs H2 => zs.length = n ∧ sp zs.reverse H2 Q E
section
variable {X : Cx} {CX : CXT} {k : Nat} {C p g : Addr} {mc : Value} {fd : FuncData} {ps ks : List Str} {sp : Sp} {E : XK} {o : Expr} {m : Str} {pos apos : Pos} {ta : TE} {tk : TA} {pl : Sem Bool} {kws : List Keyword}
theorem pe_staticR (he : PE X o ta) (r : ClX.CRead X.K C mc) (c : CSta X.K C mc m p g) (F : FnOk X.prog X.w X.K X.mg X.base CX k g fd ps sp) (hr : Room k X.A) (hb : KBn X.K fd ps 0 ks revB revA) (hx : Passes CX X E) (hkw : PK X kws tk)
    (hall : (backToKw pos (keywordEach kws X.env)).all (·.1.isSome) = true := by rfl) (hks : (backToKw pos (keywordEach kws X.env)).filterMap (·.1) = ks := by rfl)
    (hpl : ((backTo pos (starEach [] X.env)).any (·.1) || (backToKw pos (keywordEach kws X.env)).any (·.1.isNone)) = false := by rfl)
    (ht : eval (.Call (.Attribute o m apos) [] kws pos) X.env = (do
      let ov ← eval o X.env
      standAt apos.atName
      let (f, first) ← holding [ov] (getMethod ov m pl)
      callWith pos f first (backTo pos (starEach [] X.env)) (backToKw pos (keywordEach kws X.env))) := by rfl) :
    PE X (.Call (.Attribute o m apos) [] kws pos) (tStatR C ks.length sp E ta tk) := by
  refine ⟨fun pins s σ H Q I h => ?_⟩
  refine PySem.W.methodCall_KW (pl := pl) (thn (he.run pins s σ H _ I h) fun u s1 ⟨x, H1, I1, rx, ex, q⟩ => ?_) ht
  subst ex
  obtain rfl : u = Value.ref C := rx
  obtain ⟨rest, hp⟩ := c.rc
  refine PySem.W.method_cls I1.kIn r.ga (PySem.W.cls_bind I1.kIn r.rd c.at_ (wpAny_call (PySem.W.sm_get (s := { s1 with toks := s1.toks + 1 }) I1.kIn hp (PySem.W.handed_on rfl ?_))))
  have I2 : Inv X pins σ H1 { s1 with toks := s1.toks + 1 } := I1.tok _
  refine PySem.W.callWith_KW0 (h₀ := X.base) I2.ok.mod.kin c.kp hall ?_ hpl
  refine thn (hkw.run pos pins _ σ H1 _ I2 q) fun ws s3 ⟨zs, H2, I3, rz, l2, q2⟩ => ⟨I3.kIn, ?_⟩
  rw [hks]
  exact run_fnN (us := []) (vs := []) F hr hb hx I3 .nil rz rfl l2 q2
end
end Kx
end
section
set_option maxHeartbeats 4000000
namespace Kx
open PySem PySem.Spec PyProof.Rows L2 RZ
/-! ### lists of numbers as data -/
def datL (qs : List Rat) : PyData := .list (qs.map tupQ)
theorem dpAll : ∀ {K : PySem.W.Frag} {H : Hp} {xs : List V} {qs : List Rat}, Nl K H xs qs → DpAll K H xs (qs.map tupQ)
  | _, _, [], [], _ => .nil
  | _, _, [], _ :: _, h => by cases h.1
  | _, _, _ :: _, [], h => by cases h.1
  | _, _, x :: xs, q :: qs, h => .cons (h.2 0 x q rfl rfl).dp (dpAll h.tail)
theorem Nl.dp {K : PySem.W.Frag} {H : Hp} {b : Addr} {xs : List V} {qs : List Rat} (h : Nl K H xs qs) (e : H b = some (.lst xs)) : Dp K H (.ref b) (datL qs) := .lst (SqL.of e) (dpAll h)
theorem eqvA_num : ∀ qs rs : List Rat, PyData.eqvAll (qs.map tupQ) (rs.map tupQ) = decide (qs = rs)
  | [], [] => rfl
  | [], _ :: _ => by simp [PyData.eqvAll]
  | _ :: _, [] => by simp [PyData.eqvAll]
  | q :: qs, r :: rs => by
    show (PyData.eqv (tupQ q) (tupQ r) && PyData.eqvAll (qs.map tupQ) (rs.map tupQ)) = _
    rw [eqv_num, eqvA_num qs rs]
    by_cases c : q = r
    · by_cases d : qs = rs
      · simp [c, d]
      · simp [c, d]
    · simp [c]
theorem eqv_list (qs rs : List Rat) : PyData.eqv (datL qs) (datL rs) = decide (qs = rs) := by
  show PyData.eqvAll _ _ = _
  exact eqvA_num qs rs
theorem lay_num : ∀ qs : List Rat, PyData.canLayAll0 (qs.map tupQ) = true ∧ PyData.depthAll (qs.map tupQ) ≤ 1
  | [] => ⟨rfl, by decide⟩
  | q :: qs => by
    obtain ⟨h1, h2⟩ := lay_num qs
    constructor
    · show (PyData.canLay0 (tupQ q) && PyData.canLayAll0 (qs.map tupQ)) = true
      rw [h1]
      rfl
    · show max (PyData.depth (tupQ q)) (PyData.depthAll (qs.map tupQ)) ≤ 1
      have : PyData.depth (tupQ q) = 1 := rfl
      omega
theorem shaped_list (qs : List Rat) : SeqAt.shaped (datL qs) = true := by
  obtain ⟨h1, h2⟩ := lay_num qs
  unfold SeqAt.shaped
  rw [Bool.and_eq_true]
  refine ⟨h1, decide_eq_true ?_⟩
  show PyData.depthAll (qs.map tupQ) + 1 ≤ 64
  omega
/-! ### the methods of rows -/
section
variable (K : PySem.W.Frag) (C S : Addr)
/-- a new row comes back -/
def GivesR (H : Hp) (Q : VK) (rs : List Rat) : Prop := ∀ H' y, Same H H' → RwAt K C H' y rs → Q y H'
def spNu : Sp := fun vs H Q _ => ∃ (x : V) (qs : List Rat), vs = [x] ∧ RwAt K C H x qs ∧ GivesL K H Q qs
def spNm (CP : Addr) : Sp := fun vs H Q E => ∃ (x v : V) (qs : List Rat) (r : Bool), vs = [x, v] ∧ RwAt K C H x qs ∧ InR K H v 0 ((qs.length : Int) - 1) r ∧ (r = false → Air H CP (fs1 "InvalidPlace" "value" [v]) E) ∧
  (r = true → ∀ (j : Nat) (y : V) (q : Rat), v = .int (j : Nat) → qs[j]? = some q → Nq K H y q → Q y H)
def spSc (CN : Addr) : Sp := fun vs H Q E => ∃ (x v : V) (qs : List Rat) (r : Bool), vs = [x, v] ∧ RwAt K C H x qs ∧ IsG K H v r ∧ (r = false → Air H CN (fs1 "InvalidNumber" "value" [v]) E) ∧
  (r = true → ∃ t, Nq K H v t ∧ AllB 4000 qs ∧ Bq 4000 t ∧ GivesR K C H Q (qs.map (· * t)))
def spCu (CO CL : Addr) : Sp := fun vs H Q E => ∃ (x v : V) (qs : List Rat) (r : Bool), vs = [x, v] ∧ RwAt K C H x qs ∧ InR K H v 2 24 r ∧ (r = false → Air H CO (fs1 "InvalidOrder" "value" [v]) E) ∧
  (r = true → ∀ i : Int, v = .int i → ((qs.length : Int) - 1 < i → Air H CL (fs2 "OrderTooLow" "have" "wanted" [.int ((qs.length : Int) - 1), .int i]) E) ∧ (i ≤ (qs.length : Int) - 1 → GivesR K C H Q (qs.take (i.toNat + 1))))
def spCt (CN CO : Addr) : Sp := fun vs H Q E => ∃ (v u : V) (r1 r2 : Bool), vs = [v, u] ∧ IsG K H v r1 ∧ InR K H u 2 24 r2 ∧ (r1 = false → Air H CN (fs1 "InvalidNumber" "value" [v]) E) ∧ (r1 = true → r2 = false → Air H CO (fs1 "InvalidOrder" "value" [u]) E) ∧
  (r1 = true → r2 = true → ∃ (q : Rat) (n : Nat), Nq K H v q ∧ u = .int (n : Nat) ∧ 2 ≤ n ∧ n ≤ 24 ∧ GivesR K C H Q (q :: List.replicate n 0))
def spOp (CU : Addr) (n : Nat) (op : List Rat → List Rat → List Rat) : Sp := fun vs H Q E => ∃ (x y : V) (qs rs : List Rat), vs = [x, y] ∧ RwAt K C H x qs ∧ RwAt K C H y rs ∧ (qs.length ≠ rs.length → Air H CU (fs2 "UnlikeOrders" "one" "other" [.int ((qs.length : Int) - 1), .int ((rs.length : Int) - 1)]) E) ∧
  (qs.length = rs.length → AllB n qs ∧ AllB n rs ∧ GivesR K C H Q (op qs rs))
def spNe : Sp := fun vs H Q _ => ∃ (x : V) (qs : List Rat), vs = [x] ∧ RwAt K C H x qs ∧ GivesR K C H Q (qs.map (- ·))
def spEqR : Sp := fun vs H Q _ => ∃ (x y : V) (qs : List Rat), vs = [x, y] ∧ RwAt K C H x qs ∧ ((∃ rs, RwAt K C H y rs ∧ Q (.bl (decide (qs = rs))) H) ∨ (∃ T, TyX K H y T ∧ PySem.W.kitOne K T (.ref C) = some false ∧ Q (.bl false) H))
def spLe : Sp := fun vs H Q _ => ∃ (x : V) (qs : List Rat), vs = [x] ∧ RwAt K C H x qs ∧ Q (.int (qs.length : Nat)) H
end
/-- what stands of the class of the rows -/
structure RowK (P : Program) (w : World) (K : PySem.W.Frag) (mg : Str → Option Value) (base : Heap) (C CF CO : Addr) : Prop where
  c : Cls K C
  nA : ∀ n ∈ rwN, NoAttr K C n
  m : mg "Row" = some (.ref C)
  ini : ∃ (fI : Addr) (fd : FuncData), Mk K C fI ∧ FnOk P w K mg base (L2.CX P w) 6 fI fd ["self", "numbers"] (spRI K C CF CO) ∧ Binds K fd ["self", "numbers"] [] ∧ KBn K fd ["self", "numbers"] 1 ["numbers"] appB appA
  ty : ∀ H a dx fs, H a = some (.ins C dx fs) → TyX K H (.ref a) (.ref C)
  kit : PySem.W.kitOne K (.ref C) (.ref C) = some true
section
variable {P : Program} {w : World} {K : PySem.W.Frag} {mg : Str → Option Value} {base : Heap} {f C S CF CO CN CP CL CU o0 : Addr} {fd : FuncData}
theorem RwAt.num {H : Hp} {v : V} {qs : List Rat} (h : RwAt K C H v qs) (k : RowK P w K mg base C CF CO) : ∃ (x dx b : Addr) (xs : List V) (fs : List (Str × V)), v = .ref x ∧ H x = some (.ins C dx fs) ∧ H b = some (.lst xs) ∧ Nl K H xs qs ∧ fs.lookup ("_numbers" : Str) = some (.ref b) ∧ fs.lookup ("order" : Str) = some (.int ((qs.length : Int) - 1)) ∧ fs.lookup ("height" : Str) = some (hgtV qs 0) ∧ fs.lookup ("numbers" : Str) = none ∧ 3 ≤ qs.length ∧ qs.length ≤ 25 := by
  obtain ⟨x, dx, b, xs, e, h1, h2, h3, h4, h5⟩ := h
  exact ⟨x, dx, b, xs, _, e, h1, h2, h3, rfl, rfl, rfl, rfl, h4, h5⟩
theorem RwAt.ord {H : Hp} {v : V} {qs : List Rat} (h : RwAt K C H v qs) (k : RowK P w K mg base C CF CO) : At K H v "order" (.int ((qs.length : Int) - 1)) := by
  obtain ⟨x, dx, b, xs, e, h1, _⟩ := h
  exact ⟨x, C, dx, _, e, h1, k.c, k.nA _ (by simp [rwN]), rfl⟩
/-- Row(v): from the numbers that v holds -/
theorem mk_row {H : Hp} {v : V} {E : XK} {Q : VK} (h : Giv K CF CO H v (-1) E fun xs qs => ∀ H' y, Same H H' → RwAt K C H' y qs → Q y H') (hv : ∀ a, v = .ref a → H a ≠ none) :
    ∀ x dx, H x = none → H dx = none → dx ≠ x → spRI K C CF CO [.ref x, v] (upd (upd H dx (.own x)) x (.ins C dx [])) (fun z H2 => z = .non ∧ Q (.ref x) H2) E := by
  intro x dx nx ndx ne
  have hx2 : upd (upd H dx (.own x)) x (.ins C dx []) x = some (.ins C dx []) := upd_same
  have sm : Same H (upd (upd H dx (.own x)) x (.ins C dx [])) := (new_same ndx _).trans (new_same (by rw [upd_ne (Ne.symm ne)]; exact nx) _)
  refine ⟨x, dx, v, rfl, fun e => hv x e nx, hx2, ?_⟩
  rcases h with ⟨h1, h2⟩ | ⟨a, xs, ev, ha, h⟩
  · exact .inl ⟨h1.same sm, h2.same sm⟩
  refine .inr ⟨a, xs, ev, ha.same sm, ?_⟩
  rcases h with ⟨ho, air⟩ | ⟨l1, l2, h⟩
  · exact .inl ⟨ho, air.same sm⟩
  refine .inr ⟨l1, l2, ?_⟩
  rcases h with ⟨rs, k, hI, hb, air⟩ | ⟨qs, hn, q⟩
  · exact .inl ⟨rs, k, hI.same sm, hb, air.same sm⟩
  refine .inr ⟨qs, hn.same sm, fun H' b u nb hx hb => ⟨rfl, ?_⟩⟩
  have lq : xs.length = qs.length := hn.1
  have s' : Same H H' := fun e o he => u e o (fun z => by rw [z, nx] at he; cases he) (sm e o he)
  exact q H' _ s' ⟨x, dx, b, xs, rfl, hx, hb, hn.same s', by omega, by omega⟩
/-- a list of numbers that is long enough is taken -/
theorem giv_ok {H : Hp} {a : Addr} {xs : List V} {qs : List Rat} {fu : Int} {E : XK} {good : List V → List Rat → Prop} (ha : SqH H a xs) (hn : Nl K H xs qs) (l1 : 2 ≤ (qs.length : Int) + fu) (l2 : (qs.length : Int) + fu ≤ 24) (g : good xs qs) :
    Giv K CF CO H (.ref a) fu E good := .inr ⟨a, xs, rfl, ha, .inr ⟨by rw [hn.1]; exact l1, by rw [hn.1]; exact l2, .inr ⟨qs, hn, g⟩⟩⟩
theorem row_new {H H1 : Hp} {a : Addr} {xs : List V} {qs : List Rat} {E : XK} {Q : VK} (s : Same H H1) (ha : SqH H1 a xs) (hn : Nl K H1 xs qs) (l1 : 3 ≤ qs.length) (l2 : qs.length ≤ 25) (g : GivesR K C H Q qs) :
    ∀ x dx, H1 x = none → H1 dx = none → dx ≠ x → spRI K C CF CO [.ref x, .ref a] (upd (upd H1 dx (.own x)) x (.ins C dx [])) (fun z H2 => z = .non ∧ Q (.ref x) H2) E :=
  mk_row (giv_ok ha hn (by omega) (by omega) fun H' y s' r => g H' y (s.trans s') r) fun b e z => by
    obtain rfl : a = b := V.ref.inj e
    rcases ha with h | h <;> rw [h] at z <;> cases z
end
end Kx
end
section
set_option maxHeartbeats 4000000
namespace Kx
open PySem PySem.Spec PyProof.Rows L2 RZ
def spOpM (K : PySem.W.Frag) (C CU : Addr) : Sp := fun vs H Q E => ∃ (x y : V) (qs rs : List Rat), vs = [x, y] ∧ RwAt K C H x qs ∧ RwAt K C H y rs ∧ (qs.length ≠ rs.length → Air H CU (fs2 "UnlikeOrders" "one" "other" [.int ((qs.length : Int) - 1), .int ((rs.length : Int) - 1)]) E) ∧
  (qs.length = rs.length → ∃ (b : Bs) (e g : Nat), b.m * (e + g) ≤ 6000 ∧ AllZ b e qs ∧ AllZ b g rs ∧ GivesR K C H Q (mulL qs rs))
section
variable {P : Program} {w : World} {K : PySem.W.Frag} {mg : Str → Option Value} {base : Heap} {f C S CF CO CN CP CL CU o0 : Addr} {fd : FuncData}
theorem scNu : FnScope ["self"] ["self"] (defScope C_Row_numbers) := ⟨rfl, rfl, rfl, by decide +kernel, rfl, by decide +kernel, by decide +kernel⟩
theorem ok_numbers (G : Fun K "numbers" "Row.numbers" C_Row_numbers f fd) (k : RowK P w K mg base C CF CO) (ml : mg "list" = none) : FnOk P w K mg base CX0 1 f fd ["self"] (spNu K C) := by
  refine G.ok scNu (fun vs H Q E h => ?_) (fun cdv A outer s H vs Q E hr h => ?_)
  · obtain ⟨x, qs, rfl, _⟩ := h
    rfl
  obtain ⟨v, qs, rfl, hR, q⟩ := h
  obtain ⟨x, dx, b, xs, fs, rfl, hx, hb, nx, f1, f2, f3, f4, _⟩ := hR.num k
  refine ⟨_, pss_one (ps_ret (pe_callTy call_list_of rfl ml (by decide +kernel) (pa_cons (pe_fld (pv 0) rfl) pa_nil))), ?_⟩
  exact ⟨_, rfl, x, C, dx, _, _, rfl, hx, k.c, k.nA _ (by simp [rwN]), f1, b, xs, rfl, .inl (SqL.of hb), fun l nl => q l _ xs (new_same nl _) nl upd_same (nx.same (new_same nl _))⟩
theorem scNm : FnScope ["self", "place"] ["self", "place"] (defScope C_Row_number) := ⟨rfl, rfl, rfl, by decide +kernel, rfl, by decide +kernel, by decide +kernel⟩
theorem ok_number (G : Fun K "number" "Row.number" C_Row_number f fd) (k : RowK P w K mg base C CF CO) (UP : Use P w K mg base (L2.CX P w) 3 "check_place" ["place", "first", "last"] (spCp K CP) []) : FnOk P w K mg base (L2.CX P w) 4 f fd ["self", "place"] (spNm K C CP) := by
  refine G.okX scNm (fun vs H Q E h => ?_) (fun cdv A outer s H vs Q E hr h => ?_)
  · obtain ⟨x, v, qs, r, rfl, _⟩ := h
    rfl
  obtain ⟨y, v, qs, r, rfl, hR, hin, h1, h2⟩ := h
  obtain ⟨x, dx, b, xs, fs, rfl, hx, hb, nx, f1, f2, f3, f4, _⟩ := hR.num k
  refine ⟨_, pss_cons (ps_expr (pe_use (E := E) UP hr rfl (passes_call (takes_of rfl rfl rfl rfl) (fun _ _ _ _ h => h)) (pa_cons (pv 1) (pa_cons pe_int (pa_cons (pe_fld (pv 0) rfl) pa_nil)))))
    (pss_one (ps_ret (pe_ix ix_list (pe_fld (pv 0) rfl) (pv 1) (fun _ _ => rfl)))), ?_⟩
  refine ⟨_, rfl, _, rfl, x, C, dx, _, _, rfl, hx, k.c, k.nA _ (by simp [rwN]), f2, v, 0, (qs.length : Int) - 1, r, rfl, hin, fun hr' => ?_, h1⟩
  obtain ⟨b0, hw, hh⟩ := hin
  rcases hh with ⟨_, e⟩ | ⟨i, _, rfl, e⟩
  · rw [hr'] at e; cases e
  rw [hr'] at e
  have e2 := e.symm
  rw [Bool.and_eq_true, decide_eq_true_eq, decide_eq_true_eq] at e2
  obtain ⟨i0, i1⟩ := e2
  have hj : i.toNat < qs.length := by omega
  obtain ⟨y, ey, ny⟩ := nx.get' hj
  have ei : i = ((i.toNat : Nat) : Int) := by omega
  exact ⟨_, rfl, x, C, dx, _, _, rfl, hx, k.c, k.nA _ (by simp [rwN]), f1, _, rfl, b, xs, i, y, rfl, rfl, SqL.of hb, at_of (j := i.toNat) ei ey, h2 hr' i.toNat y _ (congrArg V.int ei) (List.getElem?_eq_getElem hj) ny⟩
theorem scNe : FnScope ["self", "number"] ["self"] (defScope C_Row_neg) := ⟨rfl, rfl, rfl, by decide +kernel, rfl, by decide +kernel, by decide +kernel⟩
theorem ok_rneg (G : Fun K "__neg__" "Row.__neg__" C_Row_neg f fd) (k : RowK P w K mg base C CF CO) (UN : Use P w K mg base CX0 1 "negative_of" ["value"] (spNegQ K) []) : FnOk P w K mg base (L2.CX P w) 8 f fd ["self"] (spNe K C) := by
  refine G.okX scNe (fun vs H Q E h => ?_) (fun cdv A outer s H vs Q E hr h => ?_)
  · obtain ⟨x, qs, rfl, _⟩ := h
    rfl
  obtain ⟨y, qs, rfl, hR, g⟩ := h
  obtain ⟨x, dx, b, xs, fs, rfl, hx, hb, nx, f1, f2, f3, f4, l3, l25⟩ := hR.num k
  obtain ⟨fI, fdI, M, FI, bI, _⟩ := k.ini
  have hr1 := hr.mono (show 1 ≤ 7 by decide)
  refine ⟨_, pss_one (ps_ret (pe_make (E := E) M FI hr rfl k.m bI .nil (passes_call (takes_of rfl rfl rfl rfl) (fun _ _ _ _ h => h)) (pa_cons (pe_lc (own := [("number", 1)]) (g := gName 1) (tt := tYes) rfl scNe.nd (pi_list (pe_fld (pv 0) rfl)) (blkOk_by (N := ["self", "number"]) (sc := defScope C_Row_neg) (by decide +kernel))
      (fun _ _ _ _ _ => pg_name (i := 1) scNe.nd rfl (Or.inl rfl)) (fun _ _ _ _ _ => pts_nil) (fun _ _ _ _ _ => pe_use UN hr1 rfl pass0 (pa_cons (pv 1) pa_nil))) pa_nil))), ?_⟩
  refine ⟨_, rfl, x, C, dx, _, _, rfl, hx, k.c, k.nA _ (by simp [rwN]), f1, b, rfl, ⟨_, SqL.of hb⟩, fun D nD => ?_⟩
  have lx : xs.length = qs.length := nx.1
  refine lc_nums (K := K) (walk_list (K := K) (a := b) (xs := xs)) (qs.map (- ·)) (by rw [List.length_map]; omega) nD (by omega) (fun H' s => SqL.of (s _ _ hb)) ?_ (fun H' zs s h n => ?_)
  · rintro i r x H2 H3 k hq s2 ⟨rfl, hx2⟩ hk
    rw [List.getElem?_map] at hq
    obtain ⟨a, ea, rfl⟩ := Option.map_eq_some_iff.mp hq
    exact ⟨rfl, _, rfl, _, a, rfl, (nx.2 i x a hx2 ea).same s2, fun t' H4 s4 n4 h4 => hk _ _ s4 (.at h4)⟩
  · exact row_new s (.inl h) n (by rw [List.length_map]; exact l3) (by rw [List.length_map]; exact l25) g
theorem scRL : FnScope ["self"] ["self"] (defScope C_Row_len) := ⟨rfl, rfl, rfl, by decide +kernel, rfl, by decide +kernel, by decide +kernel⟩
theorem ok_rlen (G : Fun K "__len__" "Row.__len__" C_Row_len f fd) (k : RowK P w K mg base C CF CO) (mn : mg "len" = none) : FnOk P w K mg base CX0 1 f fd ["self"] (spLe K C) := by
  refine G.ok scRL (fun vs H Q E h => ?_) (fun cdv A outer s H vs Q E hr h => ?_)
  · obtain ⟨x, qs, rfl, _⟩ := h
    rfl
  obtain ⟨v, qs, rfl, hR, q⟩ := h
  obtain ⟨x, dx, b, xs, fs, rfl, hx, hb, nx, f1, f2, f3, f4, _⟩ := hR.num k
  refine ⟨_, pss_one (ps_ret (pe_callB call_len_seq rfl mn PySem.boot_len (pa_cons (pe_fld (pv 0) rfl) pa_nil))), ?_⟩
  refine ⟨_, rfl, x, C, dx, _, _, rfl, hx, k.c, k.nA _ (by simp [rwN]), f1, b, xs, rfl, .inl (SqL.of hb), ?_⟩
  rw [nx.1]
  exact q
theorem scRE : FnScope ["self", "other"] ["self", "other"] (defScope C_Row_eq) := ⟨rfl, rfl, rfl, by decide +kernel, rfl, by decide +kernel, by decide +kernel⟩
theorem ok_req (G : Fun K "__eq__" "Row.__eq__" C_Row_eq f fd) (k : RowK P w K mg base C CF CO) (mI : mg "isinstance" = none) : FnOk P w K mg base CX0 1 f fd ["self", "other"] (spEqR K C) := by
  refine G.ok scRE (fun vs H Q E h => ?_) (fun cdv A outer s H vs Q E hr h => ?_)
  · obtain ⟨x, y, qs, rfl, _⟩ := h
    rfl
  obtain ⟨v, u, qs, rfl, hR, hh⟩ := h
  obtain ⟨x, dx, b, xs, fs, rfl, hx, hb, nx, f1, f2, f3, f4, _⟩ := hR.num k
  refine ⟨_, pss_one (ps_ret (pe_and (pe_callB call_isi rfl mI (by decide +kernel) (pa_cons (pv 1) (pa_cons (C8.pe_gc (v := .ref C) rfl ⟨_, k.m, rfl⟩) pa_nil))) (pe_one (pe_cmpR (op_eqD hr.units) (pe_fld (pv 0) rfl) (pe_fld (pv 1) rfl) (nomark _))))), ?_⟩
  rcases hh with ⟨rs, hS, q⟩ | ⟨T, ty, kt, q⟩
  · obtain ⟨y, dy, c, ys, gs, rfl, hy, hc, ny, g1, _⟩ := hS.num k
    refine ⟨_, rfl, .ref y, .ref C, .ref C, .ref C, true, rfl, .own C, k.ty _ _ _ _ hy, k.kit, _, rfl, iteT ?_⟩
    refine ⟨_, rfl, x, C, dx, _, _, rfl, hx, k.c, k.nA _ (by simp [rwN]), f1, _, rfl, y, C, dy, _, _, rfl, hy, k.c, k.nA _ (by simp [rwN]), g1, datL qs, datL rs, nx.dp hb, ny.dp hc, shaped_list _, shaped_list _, ?_⟩
    rw [eqv_list]
    exact q
  · exact ⟨_, rfl, u, .ref C, T, .ref C, false, rfl, .own C, ty, kt, _, rfl, iteF q⟩
theorem scOp8 : FnScope ["self", "other"] ["self", "other"] (defScope C_Row_add) := ⟨rfl, rfl, rfl, by decide +kernel, rfl, by decide +kernel, by decide +kernel⟩
theorem scOp9 : FnScope ["self", "other"] ["self", "other"] (defScope C_Row_sub) := ⟨rfl, rfl, rfl, by decide +kernel, rfl, by decide +kernel, by decide +kernel⟩
theorem scOpM : FnScope ["self", "other"] ["self", "other"] (defScope C_Row_mul) := ⟨rfl, rfl, rfl, by decide +kernel, rfl, by decide +kernel, by decide +kernel⟩
theorem ok_radd (G : Fun K "__add__" "Row.__add__" C_Row_add f fd) (k : RowK P w K mg base C CF CO) (UO : Use P w K mg base (L2.CX P w) 3 "check_orders" ["one", "other"] (spCor K CU) []) (UT : Use P w K mg base CX0 2 "sums_of" ["one", "other"] (spTwoL K (· + ·)) []) (UN : MUse P w K mg base CX0 1 C "numbers" ["self"] (spNu K C) []) :
    FnOk P w K mg base (L2.CX P w) 8 f fd ["self", "other"] (spOp K C CU 4000 (List.zipWith (· + ·))) := by
  refine G.okX scOp8 (fun vs H Q E h => ?_) (fun cdv A outer s H vs Q E hr h => ?_)
  · obtain ⟨x, y, qs, rs, rfl, _⟩ := h
    rfl
  obtain ⟨v, u, qs, rs, rfl, hR, hS, h1, h2⟩ := h
  obtain ⟨x, dx, b, xs, fs, ev, hx, hb, nx, f1, f2, f3, f4, l3, l25⟩ := hR.num k
  obtain ⟨y, dy, c, ys, gs, eu, hy, hc, ny, g1, g2, g3, g4, m3, m25⟩ := hS.num k
  obtain ⟨fI, fdI, M, FI, bI, _⟩ := k.ini
  refine ⟨_, pss_cons (ps_expr (pe_use (E := E) UO (hr.mono (by decide)) rfl (passes_call (takes_of rfl rfl rfl rfl) (fun _ _ _ _ h => h)) (pa_cons (pv 0) (pa_cons (pv 1) pa_nil))))
    (pss_one (ps_ret (pe_make (E := E) M FI hr rfl k.m bI .nil (passes_call (takes_of rfl rfl rfl rfl) (fun _ _ _ _ h => h)) (pa_cons (pe_use UT (hr.mono (by decide)) rfl pass0 (pa_cons (pe_fld (pv 0) rfl) (pa_cons (pe_mu0 UN (pv 1) (hr.mono (by decide)) pass0) pa_nil))) pa_nil)))), ?_⟩
  refine ⟨_, rfl, _, rfl, v, u, (qs.length : Int) - 1, (rs.length : Int) - 1, rfl, hR.ord k, hS.ord k, fun e => ?_, fun e => h1 (fun z => e (by rw [z]))⟩
  have le : qs.length = rs.length := by omega
  obtain ⟨bq, br, g⟩ := h2 le
  subst ev
  subst eu
  refine ⟨_, rfl, x, C, dx, _, _, rfl, hx, k.c, k.nA _ (by simp [rwN]), f1, _, rfl, y, dy, _, rfl, hy, g4, .ref y, rs, rfl, hS, fun d H1 zs s1 n1 e1 m1 => ?_⟩
  refine ⟨_, _, qs, rs, rfl, ⟨b, xs, rfl, s1 _ _ hb, nx.same s1⟩, ⟨d, zs, rfl, e1, m1⟩, le, by omega, bq, br, fun d2 H2 ws s2 n2 e2 m2 => ?_⟩
  exact row_new (s1.trans s2) (.inl e2) m2 (by rw [List.length_zipWith]; omega) (by rw [List.length_zipWith]; omega) g
theorem ok_rsub (G : Fun K "__sub__" "Row.__sub__" C_Row_sub f fd) (k : RowK P w K mg base C CF CO) (UO : Use P w K mg base (L2.CX P w) 3 "check_orders" ["one", "other"] (spCor K CU) []) (UT : Use P w K mg base CX0 2 "differences_of" ["one", "other"] (spTwoL K (· - ·)) []) (UN : MUse P w K mg base CX0 1 C "numbers" ["self"] (spNu K C) []) :
    FnOk P w K mg base (L2.CX P w) 8 f fd ["self", "other"] (spOp K C CU 4000 (List.zipWith (· - ·))) := by
  refine G.okX scOp9 (fun vs H Q E h => ?_) (fun cdv A outer s H vs Q E hr h => ?_)
  · obtain ⟨x, y, qs, rs, rfl, _⟩ := h
    rfl
  obtain ⟨v, u, qs, rs, rfl, hR, hS, h1, h2⟩ := h
  obtain ⟨x, dx, b, xs, fs, ev, hx, hb, nx, f1, f2, f3, f4, l3, l25⟩ := hR.num k
  obtain ⟨y, dy, c, ys, gs, eu, hy, hc, ny, g1, g2, g3, g4, m3, m25⟩ := hS.num k
  obtain ⟨fI, fdI, M, FI, bI, _⟩ := k.ini
  refine ⟨_, pss_cons (ps_expr (pe_use (E := E) UO (hr.mono (by decide)) rfl (passes_call (takes_of rfl rfl rfl rfl) (fun _ _ _ _ h => h)) (pa_cons (pv 0) (pa_cons (pv 1) pa_nil))))
    (pss_one (ps_ret (pe_make (E := E) M FI hr rfl k.m bI .nil (passes_call (takes_of rfl rfl rfl rfl) (fun _ _ _ _ h => h)) (pa_cons (pe_use UT (hr.mono (by decide)) rfl pass0 (pa_cons (pe_fld (pv 0) rfl) (pa_cons (pe_mu0 UN (pv 1) (hr.mono (by decide)) pass0) pa_nil))) pa_nil)))), ?_⟩
  refine ⟨_, rfl, _, rfl, v, u, (qs.length : Int) - 1, (rs.length : Int) - 1, rfl, hR.ord k, hS.ord k, fun e => ?_, fun e => h1 (fun z => e (by rw [z]))⟩
  have le : qs.length = rs.length := by omega
  obtain ⟨bq, br, g⟩ := h2 le
  subst ev
  subst eu
  refine ⟨_, rfl, x, C, dx, _, _, rfl, hx, k.c, k.nA _ (by simp [rwN]), f1, _, rfl, y, dy, _, rfl, hy, g4, .ref y, rs, rfl, hS, fun d H1 zs s1 n1 e1 m1 => ?_⟩
  refine ⟨_, _, qs, rs, rfl, ⟨b, xs, rfl, s1 _ _ hb, nx.same s1⟩, ⟨d, zs, rfl, e1, m1⟩, le, by omega, bq, br, fun d2 H2 ws s2 n2 e2 m2 => ?_⟩
  exact row_new (s1.trans s2) (.inl e2) m2 (by rw [List.length_zipWith]; omega) (by rw [List.length_zipWith]; omega) g
theorem ok_rmul (G : Fun K "__mul__" "Row.__mul__" C_Row_mul f fd) (k : RowK P w K mg base C CF CO) (UO : Use P w K mg base (L2.CX P w) 3 "check_orders" ["one", "other"] (spCor K CU) []) (UT : Use P w K mg base CX0 2 "multiplied" ["one", "other"] (spMulL K) []) (UN : MUse P w K mg base CX0 1 C "numbers" ["self"] (spNu K C) []) :
    FnOk P w K mg base (L2.CX P w) 8 f fd ["self", "other"] (spOpM K C CU) := by
  refine G.okX scOpM (fun vs H Q E h => ?_) (fun cdv A outer s H vs Q E hr h => ?_)
  · obtain ⟨x, y, qs, rs, rfl, _⟩ := h
    rfl
  obtain ⟨v, u, qs, rs, rfl, hR, hS, h1, h2⟩ := h
  obtain ⟨x, dx, b, xs, fs, ev, hx, hb, nx, f1, f2, f3, f4, l3, l25⟩ := hR.num k
  obtain ⟨y, dy, c, ys, gs, eu, hy, hc, ny, g1, g2, g3, g4, m3, m25⟩ := hS.num k
  obtain ⟨fI, fdI, M, FI, bI, _⟩ := k.ini
  refine ⟨_, pss_cons (ps_expr (pe_use (E := E) UO (hr.mono (by decide)) rfl (passes_call (takes_of rfl rfl rfl rfl) (fun _ _ _ _ h => h)) (pa_cons (pv 0) (pa_cons (pv 1) pa_nil))))
    (pss_one (ps_ret (pe_make (E := E) M FI hr rfl k.m bI .nil (passes_call (takes_of rfl rfl rfl rfl) (fun _ _ _ _ h => h)) (pa_cons (pe_use UT (hr.mono (by decide)) rfl pass0 (pa_cons (pe_fld (pv 0) rfl) (pa_cons (pe_mu0 UN (pv 1) (hr.mono (by decide)) pass0) pa_nil))) pa_nil)))), ?_⟩
  refine ⟨_, rfl, _, rfl, v, u, (qs.length : Int) - 1, (rs.length : Int) - 1, rfl, hR.ord k, hS.ord k, fun e => ?_, fun e => h1 (fun z => e (by rw [z]))⟩
  have le : qs.length = rs.length := by omega
  obtain ⟨bb, e, e', c1, bq, br, g⟩ := h2 le
  subst ev
  subst eu
  refine ⟨_, rfl, x, C, dx, _, _, rfl, hx, k.c, k.nA _ (by simp [rwN]), f1, _, rfl, y, dy, _, rfl, hy, g4, .ref y, rs, rfl, hS, fun d H1 zs s1 n1 e1 m1 => ?_⟩
  refine ⟨_, _, qs, rs, bb, e, e', rfl, ⟨b, xs, rfl, s1 _ _ hb, nx.same s1⟩, ⟨d, zs, rfl, e1, m1⟩, le, by omega, c1, bq, br, fun d2 H2 ws s2 n2 e2 m2 => ?_⟩
  exact row_new (s1.trans s2) (.inl e2) m2 (by unfold mulL; rw [List.length_map, List.length_range]; omega) (by unfold mulL; rw [List.length_map, List.length_range]; omega) g
end
end Kx
end
section
set_option maxHeartbeats 4000000
namespace Kx
open PySem PySem.Spec PyProof.Rows L2
/-! ### the law's own lists -/
/-- weights by place -/
def GL (b : Bs) (s c : Nat) (us : List Rat) : Prop := ∀ j, j < us.length → Zq b (s * j + c) (us.getD j 0)
theorem Zq.b4 {b : Bs} {e : Nat} {q : Rat} (h : Zq b e q) (l : b.m * e ≤ 3900) : Bq 4000 q := h.bqn (by omega)
theorem cvT_gz {b : Bs} {s c d : Nat} {us ws : List Rat} (h : GL b s c us) (h' : GL b s d ws) (l : us.length = ws.length) (k : Nat) (hk : k < us.length) : ∀ m, m ≤ k + 1 → Zw b (s * k + (c + d)) m 1024 (cvT us ws k m)
  | 0, _ => Zw.zero
  | m + 1, hm => by
    refine (cvT_gz h h' l k hk m (by omega)).add ?_
    have := (h m (by omega)).mul (h' (k - m) (by omega))
    have e : s * m + c + (s * (k - m) + d) = s * k + (c + d) := by
      have : s * m + s * (k - m) = s * k := by rw [← Nat.mul_add, show m + (k - m) = k by omega]
      omega
    rw [e] at this
    exact this
def spTimes (K : PySem.W.Frag) : Sp := fun vs H Q _ => ∃ (x y : V) (qs rs : List Rat) (b : Bs) (s c d : Nat), vs = [x, y] ∧ Ls K H x qs ∧ Ls K H y rs ∧ qs.length = rs.length ∧ qs.length ≤ 25 ∧ b.m * (s * (qs.length - 1) + (c + d)) ≤ 3900 ∧ GL b s c qs ∧ GL b s d rs ∧ GivesL K H Q (mulL qs rs)
def spPlus (K : PySem.W.Frag) : Sp := fun vs H Q _ => ∃ (x y : V) (qs rs : List Rat), vs = [x, y] ∧ Ls K H x qs ∧ Ls K H y rs ∧ qs.length = rs.length ∧ qs.length ≤ 100 ∧ AllB 4000 qs ∧ AllB 4000 rs ∧ GivesL K H Q (qs.zipWith (· + ·) rs)
def spScale (K : PySem.W.Frag) : Sp := fun vs H Q _ => ∃ (x y : V) (qs : List Rat) (t : Rat), vs = [x, y] ∧ Ls K H x qs ∧ Nq K H y t ∧ qs.length ≤ 100 ∧ AllB 4000 qs ∧ Bq 4000 t ∧ GivesL K H Q (qs.map (· * t))
abbrev nTi : List Str := ["_law_u", "_law_w", "_law_some", "_law_k", "_law_total", "_law_j"]
abbrev nPl : List Str := ["_law_u", "_law_w", "_law_a", "_law_b"]
abbrev nSl : List Str := ["_law_u", "_law_c", "_law_a"]
theorem getD_at {qs : List Rat} {j : Nat} (h : j < qs.length) : qs.getD j 0 = qs[j] := by rw [List.getD_eq_getElem?_getD, List.getElem?_eq_getElem h]; rfl
section
variable {P : Program} {w : World} {K : PySem.W.Frag} {mg : Str → Option Value} {base : Heap} {f o0 : Addr} {fd : FuncData}
theorem scTi : FnScope nTi ["_law_u", "_law_w"] (defScope L_times) := ⟨rfl, rfl, rfl, by decide +kernel, rfl, by decide +kernel, by decide +kernel⟩
theorem ok_times (G : Fun K "_law_times" "_law_times" L_times f fd) (mn : mg "len" = none) (mr : mg "range" = none) (UA : Use P w K mg base CX0 2 "_law_add" ["_law_a", "_law_b"] (spAddQ K) []) (UM : Use P w K mg base CX0 2 "_law_mul" ["_law_a", "_law_b"] (spMulQ K) []) :
    FnOk P w K mg base CX0 3 f fd ["_law_u", "_law_w"] (spTimes K) := by
  refine G.ok scTi (fun vs H Q E h => ?_) (fun cdv A outer s H vs Q E hr h => ?_)
  · obtain ⟨x, y, qs, rs, bb, g, c1, c2, rfl, _⟩ := h
    rfl
  obtain ⟨x, y, qs, rs, bb, g, c1, c2, rfl, ⟨xa, xs, rfl, hx, nx⟩, ⟨ya, ys, rfl, hy, ny⟩, le, l1, eg, bq, br, q⟩ := h
  refine ⟨_, pss_cons (ps_set (i := 2) scTi.nd rfl (Or.inl rfl) (pe_lst pa_nil))
    (pss_cons (ps_for PassesOwn.never rfl (pi_range1 rfl mr (pa_cons (pe_callB call_len_seq rfl mn PySem.boot_len (pa_cons (pv 0) pa_nil)) pa_nil)) (pg_name (i := 3) scTi.nd rfl (Or.inl rfl))
      (pss_cons (ps_set (i := 4) scTi.nd rfl (Or.inl rfl) (pe_tup (pa_cons pe_int (pa_cons pe_int pa_nil))))
      (C8.pss_cut (ps_for PassesOwn.never rfl (pi_range1 rfl mr (pa_cons (pe_op op_add (pv 3) pe_int) pa_nil)) (pg_name (i := 5) scTi.nd rfl (Or.inl rfl))
        (pss_one (ps_if (PW.pt (pw_and (pt_cmpR op_ne (pe_ix ix_tup (pe_ix ix_list (pv 0) (pv 5) (fun _ _ => rfl)) pe_int (fun _ _ => rfl)) pe_int (nomark _)) (pw_and1 (pt_cmpR op_ne (pe_ix ix_tup (pe_ix ix_list (pv 1) (pe_op op_sub (pv 3) (pv 5)) (fun _ _ => rfl)) pe_int (fun _ _ => rfl)) pe_int (nomark _)))))
          (pss_one (ps_set (i := 4) scTi.nd rfl (Or.inl rfl) (pe_use UA hr rfl pass0 (pa_cons (pv 4) (pa_cons (pe_use UM hr rfl pass0 (pa_cons (pe_ix ix_list (pv 0) (pv 5) (fun _ _ => rfl)) (pa_cons (pe_ix ix_list (pv 1) (pe_op op_sub (pv 3) (pv 5)) (fun _ _ => rfl)) pa_nil))) pa_nil))))) pss_nil)))
      (pss_one (ps_expr (pe_bm PySem.F.plainAttrs_list PySem.F.slot_list_append PySem.F.type_list_append mt_append (pv 2) (pa_cons (pv 4) pa_nil)))))))
    (pss_one (ps_ret (pv 2)))), ?_⟩
  have lx : xs.length = qs.length := nx.1
  have ly : ys.length = rs.length := ny.1
  refine ⟨(by show 0 ≤ sizeLine; decide), fun fb nf => ?_⟩
  have sf := new_same nf (HO.lst [])
  refine ⟨_, rfl, xa, xs, rfl, .inl (SqL.of (sf _ _ hx)), ?_⟩
  refine ⟨_, rfl, by omega, by omega, for_range (lo := 0) (n := (((xs.length : Nat) : Int)).toNat) (fun i σ H' => Same H H' ∧ (∃ v3 v4 v5, σ = [some (.ref xa), some (.ref ya), some (.ref fb), v3, v4, v5]) ∧ ∃ zs, H' fb = some (.lst zs) ∧ Nl K H' zs ((List.range i).map (cnv qs rs))) ⟨sf, ⟨none, none, none, rfl⟩, [], upd_same, Nl.nil⟩ ?_ ?_⟩
  · rintro i σ H3 hi ⟨s3, ⟨v3, v4, v5, rfl⟩, zs, hz, nz⟩
    rw [Int.toNat_natCast] at hi
    have zl : zs.length = i := by rw [nz.1, List.length_map, List.length_range]
    refine ⟨(by show 2 ≤ sizeLine; decide), fun t nt => ?_⟩
    have s4 := new_same nt (HO.tup [.int 0, .int 1])
    have n0 : Nq K (upd H3 t (HO.tup [.int 0, .int 1])) (.ref t) 0 := .at upd_same
    generalize upd H3 t (HO.tup [.int 0, .int 1]) = H4 at s4 n0
    refine ⟨fun σ H' => Same H4 H' ∧ ∃ tv v5, σ = [some (.ref xa), some (.ref ya), some (.ref fb), some (.int (0 + (i : Int))), some tv, v5] ∧ Nq K H' tv (cnv qs rs i), ?_, ?_⟩
    · refine ⟨_, rfl, (0 + (i : Int)), 1, rfl, rfl, _, rfl, by omega, by omega, for_range (lo := 0) (n := (0 + (i : Int) + 1).toNat) (fun j σ H' => Same H4 H' ∧ ∃ tv v5, σ = [some (.ref xa), some (.ref ya), some (.ref fb), some (.int (0 + (i : Int))), some tv, v5] ∧ Nq K H' tv (cvT qs rs i j)) ⟨Same.refl _, _, _, rfl, n0⟩ ?_ ?_⟩
      · rintro j σ H5 hj ⟨s5, tv, v5, rfl, nt5⟩
        have hj' : j < i + 1 := by omega
        have s35 := s3.trans (s4.trans s5)
        obtain ⟨a, ea, na⟩ := nx.get' (i := j) (by omega)
        obtain ⟨b, eb, nb⟩ := ny.get' (i := i - j) (by omega)
        have na5 := na.same s35
        have nb5 := nb.same s35
        obtain ⟨aa, rfl, sa, _⟩ := na5.sq
        obtain ⟨ba, rfl, sb, _⟩ := nb5.sq
        have gx := getD_at (qs := qs) (j := j) (by omega)
        have gy := getD_at (qs := rs) (j := i - j) (by omega)
        have Ba := bq j (by omega)
        have Bb := br (i - j) (by omega)
        rw [gx] at Ba
        rw [gy] at Bb
        have up : ∀ k, k ≤ g * i + (c1 + c2) → bb.m * k ≤ 3900 := fun k hk => Nat.le_trans (Nat.mul_le_mul_left _ (Nat.le_trans hk (Nat.add_le_add_right (Nat.mul_le_mul_left g (by omega)) _))) eg
        have gs : g * j + g * (i - j) = g * i := by rw [← Nat.mul_add, show j + (i - j) = i by omega]
        have gj := up (g * j + c1) (by omega)
        have gk := up (g * (i - j) + c2) (by omega)
        have gi := up (g * i + (c1 + c2)) (by omega)
        have Bc := Ba.mulq Bb
        rw [show g * j + c1 + (g * (i - j) + c2) = g * i + (c1 + c2) by omega] at Bc
        have nxt : cvT qs rs i (j + 1) = cvT qs rs i j + qs[j] * rs[i - j] := by
          show _ + _ * _ = _
          rw [gx, gy]
        generalize qs[j] = qa at *
        generalize rs[i - j] = rb at *
        have hx5 := s35 _ _ hx
        have hy5 := s35 _ _ hy
        refine ⟨_, rfl, _, rfl, xa, xs, _, _, rfl, rfl, SqL.of hx5, at_of (j := j) (by omega) ea, aa, _, 0, _, rfl, rfl, sa, rfl, rfl, _, rfl, ?_⟩
        by_cases ca : qa.num = 0
        · have z : qa = 0 := Rat.num_eq_zero.mp ca
          rw [decide_eq_true (congrArg V.int ca)]
          refine iteF (iteF ⟨s5, tv, _, rfl, ?_⟩)
          rw [nxt, z, Rat.zero_mul, Rat.add_zero]
          exact nt5
        rw [decide_eq_false (fun e => ca (V.int.inj e))]
        refine iteT ⟨_, rfl, _, rfl, _, rfl, (0 + (i : Int)), (0 + (j : Int)), rfl, rfl, ya, ys, _, _, rfl, rfl, SqL.of hy5, at_of (j := i - j) (by omega) eb, ba, _, 0, _, rfl, rfl, sb, rfl, rfl, _, rfl, ?_⟩
        by_cases cb : rb.num = 0
        · have z : rb = 0 := Rat.num_eq_zero.mp cb
          rw [decide_eq_true (congrArg V.int cb)]
          refine iteF ⟨s5, tv, _, rfl, ?_⟩
          rw [nxt, z, Rat.mul_zero, Rat.add_zero]
          exact nt5
        rw [decide_eq_false (fun e => cb (V.int.inj e))]
        refine iteT ⟨_, rfl, _, rfl, _, rfl, xa, xs, _, _, rfl, rfl, SqL.of hx5, at_of (j := j) (by omega) ea, _, rfl, _, rfl, _, rfl, (0 + (i : Int)), (0 + (j : Int)), rfl, rfl, ya, ys, _, _, rfl, rfl, SqL.of hy5, at_of (j := i - j) (by omega) eb, ?_⟩
        refine ⟨.ref aa, .ref ba, qa, rb, rfl, na5, nb5, Ba.b4 gj, Bb.b4 gk, fun p H6 s6 n6 e6 => ?_⟩
        have bt := ((cvT_gz bq br le i (by omega) j (by omega)).red (by omega)).b4 gi
        refine ⟨tv, .ref p, cvT qs rs i j, qa * rb, rfl, nt5.same s6, .at e6, bt, Bc.b4 gi, fun p2 H7 s7 n7 e7 => ⟨s5.trans (s6.trans s7), .ref p2, _, rfl, ?_⟩⟩
        rw [nxt]
        exact .at e7
      · rintro σ H5 ⟨s5, tv, v5, rfl, nt5⟩
        rw [show (0 + (i : Int) + 1).toNat = i + 1 by omega] at nt5
        exact ⟨s5, tv, _, rfl, nt5⟩
    · rintro σ H5 ⟨s5, tv, v5', rfl, nt5⟩
      have hz5 := s5 _ _ (s4 _ _ hz)
      refine ⟨_, rfl, .inl ⟨rfl, _, SqL.of hz5⟩, _, rfl, fb, zs, _, rfl, rfl, hz5, small1000 (by omega), ?_, ⟨_, _, _, rfl⟩, zs ++ [tv], upd_same, ?_⟩
      · intro b o hb
        have nb : b ≠ fb := fun z => by rw [z, nf] at hb; cases hb
        rw [upd_ne nb]
        exact s5 _ _ (s4 _ _ (s3 _ _ hb))
      · have nb : Nl K H5 (zs ++ [tv]) ((List.range (i + 1)).map (cnv qs rs)) := by
          rw [List.range_succ, List.map_append]
          exact ((nz.same s4).same s5).snoc nt5
        exact ⟨nb.1, fun j x r h1 h2 => (nb.2 j x r h1 h2).butL hz5 (fun b o n h => by rw [upd_ne n]; exact h)⟩
  · rintro σ H3 ⟨s3, ⟨v3, v4, v5, rfl⟩, zs, hz, nz⟩
    rw [Int.toNat_natCast, lx] at nz
    exact ⟨_, rfl, q fb H3 zs s3 nf hz nz⟩
theorem scSl : FnScope nSl ["_law_u", "_law_c"] (defScope L_scale) := ⟨rfl, rfl, rfl, by decide +kernel, rfl, by decide +kernel, by decide +kernel⟩
theorem ok_scale (G : Fun K "_law_scale" "_law_scale" L_scale f fd) (UM : Use P w K mg base CX0 2 "_law_mul" ["_law_a", "_law_b"] (spMulQ K) []) : FnOk P w K mg base CX0 3 f fd ["_law_u", "_law_c"] (spScale K) := by
  refine G.ok scSl (fun vs H Q E h => ?_) (fun cdv A outer s H vs Q E hr h => ?_)
  · obtain ⟨x, y, qs, t, rfl, _⟩ := h
    rfl
  obtain ⟨x, y, qs, t, rfl, ⟨xa, xs, rfl, hx, nx⟩, ht, l1, bq, bt, q⟩ := h
  refine ⟨_, pss_one (ps_ret (pe_lc (own := [("_law_a", 2)]) (g := gName 2) (tt := tYes) rfl scSl.nd (pi_list (pv 0)) (blkOk_by (N := nSl) (sc := defScope L_scale) (by decide +kernel))
      (fun _ _ _ _ _ => pg_name (i := 2) scSl.nd rfl (Or.inl rfl)) (fun _ _ _ _ _ => pts_nil) (fun _ _ _ _ _ => pe_use UM hr rfl pass0 (pa_cons (pv 2) (pa_cons (pv 1) pa_nil))))), ?_⟩
  refine ⟨_, rfl, xa, rfl, ⟨_, SqL.of hx⟩, fun D nD => ?_⟩
  have lx : xs.length = qs.length := nx.1
  refine lc_nums (K := K) (walk_list (K := K) (a := xa) (xs := xs)) (qs.map (· * t)) (by rw [List.length_map]; omega) nD (by omega) (fun H' s => SqL.of (s _ _ hx)) ?_ (fun H' zs s h n => q D H' zs s nD h n)
  rintro i r x H2 H3 k hq s2 ⟨rfl, hx2⟩ hk
  rw [List.getElem?_map] at hq
  obtain ⟨a, ea, rfl⟩ := Option.map_eq_some_iff.mp hq
  exact ⟨rfl, _, rfl, _, rfl, _, _, a, t, rfl, (nx.2 i x a hx2 ea).same s2, ht.same s2, bq a (List.mem_of_getElem? ea), bt, fun t' H4 s4 n4 h4 => hk _ _ s4 (.at h4)⟩
end
end Kx
end
section
set_option maxHeartbeats 4000000
namespace Kx
open PySem PySem.Spec PyProof.Rows L2
theorem But.free {B p a : Addr} {H H' : Hp} (u : But B H H') (b : Bag H' B p) (h : H' a = none) : H a = none := by
  obtain ⟨_, _, _, _, _, h1, _⟩ := b.ex
  cases e : H a with
  | none => rfl
  | some o =>
    have z := u a o (fun y => by rw [y, h1] at h; cases h) e
    rw [h] at z
    cases z
theorem Bag.put {H : Hp} {B p a : Addr} {o : HO} (b : Bag H B p) (h : H a = none) : Bag (upd H a o) B p := b.same (new_same h o)
theorem Bag.at {H : Hp} {B p : Addr} (b : Bag H B p) {a : Addr} (h : H a = none) : a ≠ B ∧ a ≠ p := by
  obtain ⟨_, _, _, _, _, h1, h2, _⟩ := b.ex
  refine ⟨fun e => ?_, fun e => ?_⟩
  · rw [e, h1] at h
    cases h
  · rw [e, h2] at h
    cases h
/-- all but the bag and the tables stand -/
def Go (B : Addr) (H H' : Hp) : Prop := ∀ b o, b ≠ B → (∀ ps, o ≠ .tbl ps) → H b = some o → H' b = some o
theorem Go.of {B : Addr} {H H' : Hp} (h : But B H H') : Go B H H' := fun b o n _ e => h b o n e
theorem Go.ext {B : Addr} {H H' : Hp} (h : LamX.ExtN H H') : Go B H H' := fun b o _ t e => h b o e t
theorem Go.trans {B : Addr} {H H1 H2 : Hp} (a : Go B H H1) (b : Go B H1 H2) : Go B H H2 := fun x o n t h => b x o n t (a x o n t h)
theorem Bag.ext {H H' : Hp} {B p : Addr} (b : Bag H B p) (h : LamX.ExtN H H') : Bag H' B p := by
  obtain ⟨ns, i, r, sd, c, h1, h2, h3⟩ := b.ex
  exact ⟨ns, i, r, sd, c, h _ _ h1 (fun ps z => by cases z), h _ _ h2 (fun ps z => by cases z), h3⟩
theorem tabs_but {T : List (Addr × Str)} {H H' : Hp} {B p : Addr} (t : LamX.Tabs T H) (b : Bag H B p) (u : But B H H') : LamX.Tabs T H' := by
  obtain ⟨ns, i, r, sd, c, h1, _⟩ := b.ex
  intro q hq
  obtain ⟨ps, e1, e2, e3⟩ := t q hq
  refine ⟨ps, u _ _ (fun z => ?_) e1, e2, fun pos cv hc => ?_⟩
  · rw [z, h1] at e1
    cases e1
  · obtain ⟨c0, z1, z2⟩ := e3 pos cv hc
    refine ⟨c0, z1, u _ _ (fun z => ?_) z2⟩
    rw [z, h1] at z2
    cases z2
theorem Go.same {B : Addr} {H H' : Hp} (h : Same H H') : Go B H H' := Go.of (But.same h)
theorem Go.refl {B : Addr} {H : Hp} : Go B H H := fun _ _ _ _ h => h
section
variable {K : PySem.W.Frag} {H H' : Hp} {B p : Addr}
theorem Nq.go {v : V} {q : Rat} (h : Nq K H v q) (b : Bag H B p) (s : Go B H H') : Nq K H' v q := by
  obtain ⟨a, e, h⟩ := h
  obtain ⟨ns, i, r, sd, c, hb, _⟩ := b.ex
  refine ⟨a, e, h.imp (fun h => s _ _ (fun z => ?_) (fun ps z => by cases z) h) id⟩
  rw [z, hb] at h
  cases h
theorem Nl.go {xs : List V} {qs : List Rat} (h : Nl K H xs qs) (b : Bag H B p) (s : Go B H H') : Nl K H' xs qs := ⟨h.1, fun i x q h1 h2 => (h.2 i x q h1 h2).go b s⟩
/-- a list of numbers is not the bag -/
theorem Nl.ne {xs : List V} {qs : List Rat} {a : Addr} (h : Nl K H xs qs) (l : 2 ≤ qs.length) (ha : H a = some (.lst xs)) (b : Bag H B p) : a ≠ B := by
  rintro rfl
  obtain ⟨ns, i, r, sd, c, hb, _⟩ := b.ex
  rw [ha] at hb
  have e : xs = bagL p i r sd c := by
    have := Option.some.inj hb
    exact HO.lst.inj this
  obtain ⟨x, ex, n⟩ := h.get' (i := 1) (by omega)
  rw [e] at ex
  have e2 : V.int i = x := Option.some.inj (show some (V.int i) = some x from ex)
  obtain ⟨a', e3, _⟩ := n
  rw [← e2] at e3
  cases e3
theorem Ls.go {v : V} {qs : List Rat} (h : Ls K H v qs) (l : 2 ≤ qs.length) (b : Bag H B p) (s : Go B H H') : Ls K H' v qs := by
  obtain ⟨a, xs, e, h1, h2⟩ := h
  exact ⟨a, xs, e, s _ _ (h2.ne l h1 b) (fun ps z => by cases z) h1, h2.go b s⟩
theorem ins_go {x C dx : Addr} {fs : List (Str × V)} (h : H x = some (.ins C dx fs)) (b : Bag H B p) (s : Go B H H') : H' x = some (.ins C dx fs) := by
  obtain ⟨ns, i, r, sd, c, hb, _⟩ := b.ex
  refine s _ _ (fun z => ?_) (fun ps z => by cases z) h
  rw [z, hb] at h
  cases h
theorem tup_go {x : Addr} {xs : List V} (h : H x = some (.tup xs)) (b : Bag H B p) (s : Go B H H') : H' x = some (.tup xs) := by
  obtain ⟨ns, i, r, sd, c, hb, _⟩ := b.ex
  refine s _ _ (fun z => ?_) (fun ps z => by cases z) h
  rw [z, hb] at h
  cases h
theorem lst_go {x : Addr} {xs : List V} (h : H x = some (.lst xs)) (n : xs.length ≠ 5) (b : Bag H B p) (s : Go B H H') : H' x = some (.lst xs) := by
  obtain ⟨ns, i, r, sd, c, hb, _⟩ := b.ex
  refine s _ _ (fun z => ?_) (fun ps z => by cases z) h
  rw [z, hb] at h
  have e := HO.lst.inj (Option.some.inj h)
  rw [← e] at n
  exact n rfl
theorem RwAt.go {C : Addr} {v : V} {qs : List Rat} (h : RwAt K C H v qs) (b : Bag H B p) (s : Go B H H') : RwAt K C H' v qs := by
  obtain ⟨x, dx, c, xs, e, h1, h2, h3, h4, h5⟩ := h
  exact ⟨x, dx, c, xs, e, ins_go h1 b s, s _ _ (h3.ne (by omega) h2 b) (fun ps z => by cases z) h2, h3.go b s, h4, h5⟩
theorem StAt.go {S : Addr} {v : V} {qs : List Rat} (h : StAt K S H v qs) (b : Bag H B p) (s : Go B H H') : StAt K S H' v qs := by
  obtain ⟨x, dx, c, xs, x0, fv, sv, e, h1, h2, h3, h4, h5, h6⟩ := h
  exact ⟨x, dx, c, xs, x0, fv, sv, e, ins_go h1 b s, s _ _ (h3.ne (by omega) h2 b) (fun ps z => by cases z) h2, h3.go b s, h4, h5, h6⟩
theorem RwAt.ext {C : Addr} {v : V} {qs : List Rat} (h : RwAt K C H v qs) (s : LamX.ExtN H H') : RwAt K C H' v qs := by
  obtain ⟨x, dx, c, xs, e, h1, h2, h3, h4⟩ := h
  have nq : ∀ {w : V} {q : Rat}, Nq K H w q → Nq K H' w q := fun n => by
    obtain ⟨a, e, n⟩ := n
    exact ⟨a, e, n.imp (fun n => s _ _ n (fun ps z => by cases z)) id⟩
  exact ⟨x, dx, c, xs, e, s _ _ h1 (fun ps z => by cases z), s _ _ h2 (fun ps z => by cases z), ⟨h3.1, fun i y q a b => nq (h3.2 i y q a b)⟩, h4⟩
theorem Nq.ext {v : V} {q : Rat} (h : Nq K H v q) (s : LamX.ExtN H H') : Nq K H' v q := by
  obtain ⟨a, e, n⟩ := h
  exact ⟨a, e, n.imp (fun n => s _ _ n (fun ps z => by cases z)) id⟩
theorem Nl.ext {xs : List V} {qs : List Rat} (h : Nl K H xs qs) (s : LamX.ExtN H H') : Nl K H' xs qs := ⟨h.1, fun i y q a b => (h.2 i y q a b).ext s⟩
theorem Ls.ext {v : V} {qs : List Rat} (h : Ls K H v qs) (s : LamX.ExtN H H') : Ls K H' v qs := by
  obtain ⟨a, xs, e, h1, h2⟩ := h
  exact ⟨a, xs, e, s _ _ h1 (fun ps z => by cases z), h2.ext s⟩
end
/-! ### drawn numbers -/
def spNum (K : PySem.W.Frag) : Sp := fun vs H Q _ => ∃ B p : Addr, vs = [.ref B] ∧ Bag H B p ∧ ∀ H' v q, Bag H' B p → But B H H' → Nq K H' v q → Zq b6 1 q → Q v H'
def spBent (K : PySem.W.Frag) : Sp := fun vs H Q _ => ∃ (B p : Addr) (v : V) (q : Rat), vs = [.ref B, v] ∧ Bag H B p ∧ Nq K H v q ∧ Zq b6 1 q ∧ ∀ H' u r, Bag H' B p → But B H H' → Nq K H' u r → Bq 43 r → Q u H'
abbrev nNum : List Str := ["_law_bag_here", "_law_pick", "_law_p"]
section
variable {P : Program} {w : World} {K : PySem.W.Frag} {mg : Str → Option Value} {base : Heap} {f fD fO fL fB : Addr} {fd fdD fdO fdL fdB : FuncData}
theorem scNum : FnScope nNum ["_law_bag_here"] (defScope L_number) := ⟨rfl, rfl, rfl, by decide +kernel, rfl, by decide +kernel, by decide +kernel⟩
section
variable (UD : Use P w K mg base CX0 1 "_law_draw" ["_law_bag_here", "_law_limit"] spDraw []) (UO : Use P w K mg base CX0 2 "_law_of" ["_law_bag_here", "_law_things"] spOfL []) (UL : Use P w K mg base CX0 1 "_law_low" ["_law_p", "_law_q"] spLowQ [])
include UD UO UL
theorem ok_num (F : Fun K "_law_number" "_law_number" L_number f fd) : FnOk P w K mg base CX0 3 f fd ["_law_bag_here"] (spNum K) := by
  refine F.ok scNum (fun vs H Q E h => ?_) (fun cdv A outer s H vs Q E hr h => ?_)
  · obtain ⟨B, p, rfl, _⟩ := h
    rfl
  obtain ⟨B, p, rfl, hb, q⟩ := h
  have hr1 := hr.mono (show 1 ≤ 2 by decide)
  refine ⟨_, pss_cons (ps_set (i := 1) scNum.nd rfl (Or.inl rfl) (pe_use UD hr1 rfl pass0 (pa_cons (pv 0) (pa_cons pe_int pa_nil))))
    (pss_cons (ps_if (pt_cmpR op_lt (pv 1) pe_int (nomark _)) (pss_one (ps_ret (pe_tup (pa_cons pe_int (pa_cons pe_int pa_nil))))) pss_nil)
    (pss_cons (ps_if (pt_cmpR op_lt (pv 1) pe_int (nomark _)) (pss_one (ps_ret (pe_tup (pa_cons pe_int (pa_cons pe_int pa_nil))))) pss_nil)
    (pss_cons (ps_set (i := 2) scNum.nd rfl (Or.inl rfl) (pe_op op_add pe_int (pe_use UD hr1 rfl pass0 (pa_cons (pv 0) (pa_cons pe_int pa_nil)))))
    (C8.pss_cut (ps_if (pt_cmpR op_eq (pv 1) pe_int (nomark _)) (pss_one (ps_set (i := 2) scNum.nd rfl (Or.inl rfl) (pe_op op_add (pv 2) (pe_use UD hr1 rfl pass0 (pa_cons (pv 0) (pa_cons (pe_use UO hr rfl pass0 (pa_cons (pv 0) (pa_cons (pe_lst (pa_cons pe_int (pa_cons pe_int (pa_cons pe_int pa_nil)))) pa_nil))) pa_nil)))))) pss_nil)
    (C8.pss_cut (ps_if (pt_cmpR op_eq (pe_use UD hr1 rfl pass0 (pa_cons (pv 0) (pa_cons pe_int pa_nil))) pe_int (nomark _)) (pss_one (ps_set (i := 2) scNum.nd rfl (Or.inl rfl) (pe_un un_neg (pv 2)))) pss_nil)
    (pss_one (ps_ret (pe_use UL hr1 rfl pass0 (pa_cons (pv 2) (pa_cons (pe_use UO hr rfl pass0 (pa_cons (pv 0) (pa_cons (pe_lst (pa_cons pe_int (pa_cons pe_int (pa_cons pe_int (pa_cons pe_int (pa_cons pe_int (pa_cons pe_int pa_nil))))))) pa_nil))) pa_nil)))))))))), ?_⟩
  refine ⟨_, rfl, B, p, 18, rfl, by decide, by decide, hb, fun H1 k b1 u1 k0 k1 => ?_⟩
  refine ⟨_, rfl, k, 6, rfl, rfl, _, rfl, ite2 (fun _ => ?_) (fun _ => ?_)⟩
  · exact ⟨(by show 2 ≤ sizeLine; decide), fun t nt => q _ _ 0 (b1.put nt) (u1.trans (But.new nt)) (.at upd_same) (Zq.num ⟨by decide, by decide⟩ (by decide))⟩
  refine ⟨_, rfl, k, 8, rfl, rfl, _, rfl, ite2 (fun _ => ?_) (fun _ => ?_)⟩
  · exact ⟨(by show 2 ≤ sizeLine; decide), fun t nt => q _ _ 1 (b1.put nt) (u1.trans (But.new nt)) (.at upd_same) (Zq.num ⟨by decide, by decide⟩ (by decide))⟩
  refine ⟨_, rfl, B, p, 9, rfl, by decide, by decide, b1, fun H2 d b2 u2 d0 d1 => ⟨1, d, rfl, rfl, ?_⟩⟩
  have u2 := u1.trans u2
  refine ⟨fun σ' H' => ∃ n : Int, σ' = [some (.ref B), some (.int k), some (.int n)] ∧ Bag H' B p ∧ But B H H' ∧ 0 ≤ n ∧ n < 1100000, ?_, ?_⟩
  · refine ⟨_, rfl, rfl, _, rfl, ite2 (fun _ => ?_) (fun _ => ⟨_, rfl, b2, u2, by omega, by omega⟩)⟩
    refine ⟨_, rfl, _, rfl, _, rfl, (by show 3 ≤ sizeLine; decide), fun a na => ⟨B, p, a, _, rfl, upd_same, (b2.at na).1, (by show 0 < 3; decide), (by show 3 ≤ 1000; decide), b2.put na, fun H3 x b3 u3 hx => ?_⟩⟩
    have u3 : But B H H3 := u2.trans ((But.new na).trans u3)
    obtain ⟨L, rfl, L0, L1⟩ : ∃ L : Int, x = .int L ∧ 0 < L ∧ L ≤ 1000000 := by
      simp only [List.mem_cons, List.not_mem_nil, or_false] at hx
      rcases hx with rfl | rfl | rfl <;> exact ⟨_, rfl, by decide, by decide⟩
    exact ⟨B, p, L, rfl, L0, by omega, b3, fun H4 e b4 u4 e0 e1 => ⟨_, _, rfl, rfl, _, rfl, b4, u3.trans u4, by omega, by omega⟩⟩
  rintro σ' H3 ⟨n, rfl, b3, u3, n0, n1⟩
  refine ⟨fun σ' H' => ∃ n : Int, σ' = [some (.ref B), some (.int k), some (.int n)] ∧ Bag H' B p ∧ But B H H' ∧ n.natAbs < 1100000, ?_, ?_⟩
  · refine ⟨_, rfl, B, p, 2, rfl, by decide, by decide, b3, fun H4 c b4 u4 c0 c1 => ⟨rfl, _, rfl, ite2 (fun _ => ?_) (fun _ => ⟨_, rfl, b4, u3.trans u4, by omega⟩)⟩⟩
    exact ⟨_, rfl, _, rfl, _, rfl, b4, u3.trans u4, by omega⟩
  rintro σ' H4 ⟨n, rfl, b4, u4, nn⟩
  refine ⟨_, rfl, _, rfl, (by show 6 ≤ sizeLine; decide), fun a na => ⟨B, p, a, _, rfl, upd_same, (b4.at na).1, (by show 0 < 6; decide), (by show 6 ≤ 1000; decide), b4.put na, fun H5 x b5 u5 hx => ?_⟩⟩
  have u5 : But B H H5 := u4.trans ((But.new na).trans u5)
  obtain ⟨L, rfl, L0, L1⟩ : ∃ L : Int, x = .int L ∧ 0 < L ∧ L ≤ 3 := by
    simp only [List.mem_cons, List.not_mem_nil, or_false] at hx
    rcases hx with rfl | rfl | rfl | rfl | rfl | rfl <;> exact ⟨_, rfl, by decide, by decide⟩
  have Ln : L ≠ 0 := by omega
  have dv : (Rat.divInt n L).den ∣ 6 := by
    rw [Rat.den_divInt, if_neg Ln]
    refine Nat.dvd_trans (Nat.div_dvd_of_dvd (Nat.gcd_dvd_left _ _)) ?_
    rcases (show L = 1 ∨ L = 2 ∨ L = 3 by omega) with rfl | rfl | rfl <;> decide
  have bd := div_bd (p := n) (n := 21) (m := 21) Ln (by show _ < 2097152; omega) (by show _ < 2097152; omega)
  exact ⟨n, L, rfl, Ln, Nat.lt_trans (log_bd (x := L) (n := 21) (by show _ < 2097152; omega) (by decide)) (by decide), fun t H6 s6 n6 e6 => q _ _ _ (b5.same s6) (u5.trans (But.same s6)) (.at e6) (Zq.num bd dv)⟩
end
end
end Kx
end
section
set_option maxHeartbeats 4000000
namespace Kx
open PySem PySem.Spec PyProof.Rows L2
def spSpoilt (K : PySem.W.Frag) : Sp := fun vs H Q _ => ∃ (B p : Addr) (v : V) (qs : List Rat), vs = [.ref B, v] ∧ Bag H B p ∧ Ls K H v qs ∧ 2 ≤ qs.length ∧ qs.length ≤ 25 ∧ AllB 21 qs ∧
  ∀ H' u rs, Bag H' B p → But B H H' → Ls K H' u rs → rs.length = qs.length → AllB 43 rs → Q u H'
def spSize : Sp := fun vs H Q _ => ∃ B p : Addr, vs = [.ref B] ∧ Bag H B p ∧ ∀ H' (n : Nat), Bag H' B p → But B H H' → 2 ≤ n → n ≤ 24 → Q (.int (n : Nat)) H'
def spRow (K : PySem.W.Frag) : Sp := fun vs H Q _ => ∃ (B p : Addr) (n : Nat), vs = [.ref B, .int (n : Nat)] ∧ Bag H B p ∧ 2 ≤ n ∧ n ≤ 24 ∧
  ∀ H' u rs, Bag H' B p → But B H H' → Ls K H' u rs → rs.length = n + 1 → AllB 21 rs → Q u H'
theorem AllB.mono {n m : Nat} {qs : List Rat} (h : AllB n qs) (k : n ≤ m) : AllB m qs := fun q hq => (h q hq).mono k
abbrev nSpo : List Str := ["_law_bag_here", "_law_a", "_law_spot"]
abbrev nRow : List Str := ["_law_bag_here", "_law_size", "_law_gap", "_law_k"]
theorem yesT {σ : L2.St} {H : Hp} {t e : Hp → Prop} (h : t H) : tYes σ H (fun b H3 => if b = true then t H3 else e H3) := by
  show (if true = true then t H else e H)
  rw [if_pos rfl]
  exact h
theorem zeros {K : PySem.W.Frag} {H : Hp} {v : V} (h : Nq K H v 0) (n : Nat) : Nl K H (List.replicate n v) (List.replicate n 0) := by
  refine ⟨by rw [List.length_replicate, List.length_replicate], fun i x q h1 h2 => ?_⟩
  rw [List.getElem?_replicate] at h1 h2
  split at h1
  · rw [if_pos (by assumption)] at h2
    rw [← Option.some.inj h1, ← Option.some.inj h2]
    exact h
  · cases h1
section
variable {P : Program} {w : World} {K : PySem.W.Frag} {mg : Str → Option Value} {base : Heap} {f : Addr} {fd : FuncData}
end
end Kx
end
section
set_option maxHeartbeats 4000000
namespace Kx
open PySem PySem.Spec PyProof.Rows L2 RZ
/-- where nothing is raised -/
theorem calm {P : Program} {w : World} {K : PySem.W.Frag} {mg : Str → Option Value} {base : Heap} {k : Nat} {f : Addr} {fd : FuncData} {ps : List Str} {sp sp0 : Sp} (F : FnOk P w K mg base (L2.CX P w) k f fd ps sp) (h : ∀ vs H Q E, sp0 vs H Q E → sp vs H Q (fun _ _ _ => False)) :
    FnOk P w K mg base CX0 k f fd ps sp0 := by
  refine ⟨fun vs H Q E q => F.len vs H Q _ (h _ _ _ _ q), fun A outer s H args us vs Q E hr he hb hv hs => codeAny_mono (F.run A outer s H args us vs Q _ hr he hb hv (h _ _ _ _ hs)) fun r s' hq => ?_⟩
  cases r with
  | error e =>
    obtain ⟨_, _, _, _, _, _, _, _, _, _, _, _, z⟩ := hq
    exact z.elim
  | ok fl =>
    cases fl with
    | ret u => exact hq
    | next => exact False.elim hq
    | brk => exact False.elim hq
    | cont => exact False.elim hq
/-- what stands of the class of the steps -/
structure StepK (P : Program) (w : World) (K : PySem.W.Frag) (mg : Str → Option Value) (base : Heap) (C S CF CO : Addr) : Prop where
  c : Cls K S
  nA : ∀ n ∈ stN, NoAttr K S n
  m : mg "Step" = some (.ref S)
  ini : ∃ (fI : Addr) (fd : FuncData), Mk K S fI ∧ FnOk P w K mg base (L2.CX P w) 6 fI fd ["self", "numbers"] (spSI K S CF CO) ∧ Binds K fd ["self", "numbers"] []
  ty : ∀ H a dx fs, H a = some (.ins S dx fs) → TyX K H (.ref a) (.ref S)
  kit : PySem.W.kitOne K (.ref S) (.ref S) = some true
  kB : ∀ n ∈ ["int", "bool", "str", "tuple", "list"], PySem.W.kitOne K (.ref S) (.type n) = some false
  kR : PySem.W.kitOne K (.ref S) (.ref C) = some false
section
variable {P : Program} {w : World} {K : PySem.W.Frag} {mg : Str → Option Value} {base : Heap} {f C S CF CO CN CP CL CU o1 o0 : Addr} {fd : FuncData}
/-- Step(v): from the numbers that v holds -/
theorem mk_step {H : Hp} {v : V} {E : XK} {Q : VK} (h : Giv K CF CO H v 0 E fun xs qs => ∀ H' y, Same H H' → StAt K S H' y qs → Q y H') (hv : ∀ a, v = .ref a → H a ≠ none) :
    ∀ x dx, H x = none → H dx = none → dx ≠ x → spSI K S CF CO [.ref x, v] (upd (upd H dx (.own x)) x (.ins S dx [])) (fun z H2 => z = .non ∧ Q (.ref x) H2) E := by
  intro x dx nx ndx ne
  have hx2 : upd (upd H dx (.own x)) x (.ins S dx []) x = some (.ins S dx []) := upd_same
  have sm : Same H (upd (upd H dx (.own x)) x (.ins S dx [])) := (new_same ndx _).trans (new_same (by rw [upd_ne (Ne.symm ne)]; exact nx) _)
  refine ⟨x, dx, v, rfl, fun e => hv x e nx, hx2, ?_⟩
  rcases h with ⟨h1, h2⟩ | ⟨a, xs, ev, ha, h⟩
  · exact .inl ⟨h1.same sm, h2.same sm⟩
  refine .inr ⟨a, xs, ev, ha.same sm, ?_⟩
  rcases h with ⟨ho, air⟩ | ⟨l1, l2, h⟩
  · exact .inl ⟨ho, air.same sm⟩
  refine .inr ⟨l1, l2, ?_⟩
  rcases h with ⟨rs, k, hI, hb, air⟩ | ⟨qs, hn, q⟩
  · exact .inl ⟨rs, k, hI.same sm, hb, air.same sm⟩
  refine .inr ⟨qs, hn.same sm, fun H' b x0 fv sv e0 u nb hx hb => ⟨rfl, ?_⟩⟩
  have lq : xs.length = qs.length := hn.1
  have s' : Same H H' := fun e o he => u e o (fun z => by rw [z, nx] at he; cases he) (sm e o he)
  exact q H' _ s' ⟨x, dx, b, xs, x0, fv, sv, rfl, hx, hb, hn.same s', e0, by omega, by omega⟩
theorem step_new {H H1 : Hp} {a : Addr} {xs : List V} {qs : List Rat} {E : XK} {Q : VK} (s : Same H H1) (ha : SqH H1 a xs) (hn : Nl K H1 xs qs) (l1 : 2 ≤ qs.length) (l2 : qs.length ≤ 24) (g : ∀ H' y, Same H H' → StAt K S H' y qs → Q y H') :
    ∀ x dx, H1 x = none → H1 dx = none → dx ≠ x → spSI K S CF CO [.ref x, .ref a] (upd (upd H1 dx (.own x)) x (.ins S dx [])) (fun z H2 => z = .non ∧ Q (.ref x) H2) E :=
  mk_step (giv_ok ha hn (by omega) (by omega) fun H' y s' r => g H' y (s.trans s') r) fun b e z => by
    obtain rfl : a = b := V.ref.inj e
    rcases ha with h | h <;> rw [h] at z <;> cases z
def spSn (K : PySem.W.Frag) : Sp := fun vs H Q _ => ∃ n : Nat, vs = [.int (n : Nat)] ∧ 2 ≤ n ∧ n ≤ 24 ∧ GivesL K H Q (1 :: List.replicate (n - 1) 0)
def spStil (K : PySem.W.Frag) (S : Addr) : Sp := fun vs H Q _ => ∃ n : Nat, vs = [.int (n : Nat)] ∧ 2 ≤ n ∧ n ≤ 24 ∧ ∀ H' y, Same H H' → StAt K S H' y (1 :: List.replicate (n - 1) 0) → Q y H'
theorem scSn : FnScope ["order"] ["order"] (defScope F_still_numbers) := ⟨rfl, rfl, rfl, by decide +kernel, rfl, by decide +kernel, by decide +kernel⟩
theorem ok_stilln (G : Fun K "still_numbers" "still_numbers" F_still_numbers f fd) (k1 : KP K o1 1 1) (k0 : KP K o0 0 1) (mZ : mg "ZERO" = some (.ref o0)) (mO : mg "ONE" = some (.ref o1)) : FnOk P w K mg base CX0 1 f fd ["order"] (spSn K) := by
  refine G.ok scSn (fun vs H Q E h => ?_) (fun cdv A outer s H vs Q E hr h => ?_)
  · obtain ⟨n, rfl, _⟩ := h
    rfl
  obtain ⟨n, rfl, h2, h24, q⟩ := h
  refine ⟨_, pss_one (ps_ret (pe_op op_cat (pe_lst (pa_cons (C8.pe_gc (v := .ref o1) rfl ⟨_, mO, rfl⟩) pa_nil)) (pe_op op_rep (pe_lst (pa_cons (C8.pe_gc (v := .ref o0) rfl ⟨_, mZ, rfl⟩) pa_nil)) (pe_op op_sub (pv 0) pe_int)))), ?_⟩
  refine ⟨(by show 1 ≤ sizeLine; decide), fun a na => ⟨(by show 1 ≤ sizeLine; decide), fun b nb => ⟨_, rfl, (n : Int), 1, rfl, rfl, b, ((n : Int) - 1), [.ref o0], rfl, rfl, upd_same, by omega, by omega, (by show 1 * _ ≤ sizeLine; exact Nat.le_of_lt (small1000 (by omega))), fun c nc => ?_⟩⟩⟩
  have rep : (List.replicate ((n : Int) - 1).toNat [V.ref o0]).flatten = List.replicate (n - 1) (.ref o0) := by
    rw [List.flatten_replicate_singleton]
    congr 1
    omega
  rw [rep]
  refine ⟨a, c, _, _, rfl, rfl, new_same nc _ _ _ (new_same nb _ _ _ upd_same), upd_same, Nat.le_of_lt (small1000 (by rw [List.length_replicate]; show 1 + _ ≤ _; omega)), fun d nd => ?_⟩
  refine q d _ _ ((new_same na _).trans ((new_same nb _).trans ((new_same nc _).trans (new_same nd _)))) ?_ upd_same ?_
  · exact (new_same na (.lst [V.ref o1])).free ((new_same nb _).free ((new_same nc _).free nd))
  · exact Nl.cons ⟨o1, rfl, .inr k1⟩ (zeros ⟨o0, rfl, .inr k0⟩ _)
theorem scStl : FnScope ["order"] ["order"] (defScope C_Step_still) := ⟨rfl, rfl, rfl, by decide +kernel, rfl, by decide +kernel, by decide +kernel⟩
theorem ok_still (G : Fun K "still" "Step.still" C_Step_still f fd) (k : StepK P w K mg base C S CF CO) (UC : Use P w K mg base (L2.CX P w) 3 "check_order" ["order"] (spCo K CO) []) (UN : Use P w K mg base CX0 1 "still_numbers" ["order"] (spSn K) []) :
    FnOk P w K mg base (L2.CX P w) 8 f fd ["order"] (spStil K S) := by
  refine G.okX scStl (fun vs H Q E h => ?_) (fun cdv A outer s H vs Q E hr h => ?_)
  · obtain ⟨n, rfl, _⟩ := h
    rfl
  obtain ⟨n, rfl, h2, h24, q⟩ := h
  obtain ⟨fI, fdI, M, FI, bI⟩ := k.ini
  refine ⟨_, pss_cons (ps_expr (pe_use (E := E) UC (hr.mono (by decide)) rfl (passes_call (takes_of rfl rfl rfl rfl) (fun _ _ _ _ h => h)) (pa_cons (pv 0) pa_nil)))
    (pss_one (ps_ret (pe_make (E := E) M FI hr rfl k.m bI .nil (passes_call (takes_of rfl rfl rfl rfl) (fun _ _ _ _ h => h)) (pa_cons (pe_use UN (hr.mono (by decide)) rfl pass0 (pa_cons (pv 0) pa_nil)) pa_nil)))), ?_⟩
  refine ⟨_, rfl, .int (n : Nat), true, rfl, .yes (by omega) (by omega), fun _ => ?_, fun z => Bool.noConfusion z⟩
  refine ⟨_, rfl, n, rfl, h2, h24, fun d H1 xs s1 n1 e1 m1 => ?_⟩
  exact step_new s1 (.inl e1) m1 (by rw [List.length_cons, List.length_replicate]; omega) (by rw [List.length_cons, List.length_replicate]; omega) q
end
/-! ### any value -/
def V2 (H : Hp) (x : V) : Prop := flatV x = true ∨ ∃ a ys, x = .ref a ∧ H a = some (.tup ys) ∧ ys.length ≤ 60 ∧ ∀ y ∈ ys, flatV y = true
inductive Vx (K : PySem.W.Frag) (S : Addr) (H : Hp) : V → Prop where
  | flat {v : V} (h : flatV v = true) : Vx K S H v
  | lst {a : Addr} {xs : List V} (h : H a = some (.lst xs)) (n : xs.length ≠ 5) (l : xs.length ≤ 60) (i : ∀ x ∈ xs, V2 H x) : Vx K S H (.ref a)
  | tup {a : Addr} {xs : List V} (h : H a = some (.tup xs)) (l : xs.length ≤ 60) (i : ∀ x ∈ xs, V2 H x) : Vx K S H (.ref a)
  | st {v : V} {qs : List Rat} (h : StAt K S H v qs) : Vx K S H v
/-- no int, seen at once -/
def NI (H : Hp) (x : V) : Prop := x = .non ∨ (∃ b, x = .bl b) ∨ (∃ s, x = .str s) ∨ ∃ a ys, x = .ref a ∧ H a = some (.tup ys)
/-- no fraction, seen at once -/
inductive NF (K : PySem.W.Frag) (S : Addr) (H : Hp) : V → Prop where
  | flat {v : V} (h : flatV v = true) : NF K S H v
  | lst {a : Addr} {xs : List V} (h : H a = some (.lst xs)) (n : xs.length ≠ 5) : NF K S H (.ref a)
  | len {a : Addr} {xs : List V} (h : H a = some (.tup xs)) (n : xs.length ≠ 2) : NF K S H (.ref a)
  | one {a : Addr} {x y : V} (h : H a = some (.tup [x, y])) (n : NI H x) (m : NI H y ∨ ∃ i, y = .int i) : NF K S H (.ref a)
  | two {a : Addr} {x y : V} (h : H a = some (.tup [x, y])) (n : ∃ i, x = .int i) (m : NI H y) : NF K S H (.ref a)
  | bad {a : Addr} {u l : Int} (h : H a = some (.tup [.int u, .int l])) (n : (decide (1 ≤ l) && decide (Nat.gcd u.natAbs l.natAbs = 1)) = false) (m : l.natAbs < 100) : NF K S H (.ref a)
  | st {v : V} {qs : List Rat} (h : StAt K S H v qs) : NF K S H v
section
variable {K : PySem.W.Frag} {S : Addr} {H H' : Hp} {B p : Addr}
theorem V2.go {x : V} (h : V2 H x) (b : Bag H B p) (s : Go B H H') : V2 H' x := h.imp id fun ⟨a, ys, e, h1, h2⟩ => ⟨a, ys, e, tup_go h1 b s, h2⟩
theorem V2.same {x : V} (h : V2 H x) (s : Same H H') : V2 H' x := h.imp id fun ⟨a, ys, e, h1, h2⟩ => ⟨a, ys, e, s _ _ h1, h2⟩
theorem NI.go {x : V} (h : NI H x) (b : Bag H B p) (s : Go B H H') : NI H' x := h.imp id (Or.imp id (Or.imp id fun ⟨a, ys, e, h1⟩ => ⟨a, ys, e, tup_go h1 b s⟩))
theorem NI.same {x : V} (h : NI H x) (s : Same H H') : NI H' x := h.imp id (Or.imp id (Or.imp id fun ⟨a, ys, e, h1⟩ => ⟨a, ys, e, s _ _ h1⟩))
theorem Vx.go {v : V} (h : Vx K S H v) (b : Bag H B p) (s : Go B H H') : Vx K S H' v := by
  cases h with
  | flat h => exact .flat h
  | lst h n l i => exact .lst (lst_go h n b s) n l fun x hx => (i x hx).go b s
  | tup h l i => exact .tup (tup_go h b s) l fun x hx => (i x hx).go b s
  | st h => exact .st (h.go b s)
theorem Vx.same {v : V} (h : Vx K S H v) (s : Same H H') : Vx K S H' v := by
  cases h with
  | flat h => exact .flat h
  | lst h n l i => exact .lst (s _ _ h) n l fun x hx => (i x hx).same s
  | tup h l i => exact .tup (s _ _ h) l fun x hx => (i x hx).same s
  | st h => exact .st (h.same s)
theorem NF.go {v : V} (h : NF K S H v) (b : Bag H B p) (s : Go B H H') : NF K S H' v := by
  cases h with
  | flat h => exact .flat h
  | lst h n => exact .lst (lst_go h n b s) n
  | len h n => exact .len (tup_go h b s) n
  | one h n m => exact .one (tup_go h b s) (n.go b s) (m.imp (fun m => m.go b s) id)
  | two h n m => exact .two (tup_go h b s) n (m.go b s)
  | bad h n m => exact .bad (tup_go h b s) n m
  | st h => exact .st (h.go b s)
theorem NF.same {v : V} (h : NF K S H v) (s : Same H H') : NF K S H' v := by
  cases h with
  | flat h => exact .flat h
  | lst h n => exact .lst (s _ _ h) n
  | len h n => exact .len (s _ _ h) n
  | one h n m => exact .one (s _ _ h) (n.same s) (m.imp (fun m => m.same s) id)
  | two h n m => exact .two (s _ _ h) n (m.same s)
  | bad h n m => exact .bad (s _ _ h) n m
  | st h => exact .st (h.same s)
theorem kb_w : kitB "NoneType" "int" = some false ∧ kitB "NoneType" "bool" = some false ∧ kitB "bool" "int" = some true ∧ kitB "bool" "bool" = some true ∧ kitB "str" "int" = some false ∧ kitB "str" "bool" = some false ∧ kitB "tuple" "int" = some false ∧ kitB "tuple" "bool" = some false ∧ kitB "list" "int" = some false ∧ kitB "list" "bool" = some false := by decide +kernel
theorem kb_t : kitB "NoneType" "tuple" = some false ∧ kitB "bool" "tuple" = some false ∧ kitB "int" "tuple" = some false ∧ kitB "str" "tuple" = some false ∧ kitB "NoneType" "list" = some false ∧ kitB "bool" "list" = some false ∧ kitB "int" "list" = some false ∧ kitB "str" "list" = some false := by decide +kernel
theorem NI.wh {x : V} (h : NI H x) : WhV K H x false := fun H' s => by
  rcases h.same s with rfl | ⟨b, rfl⟩ | ⟨t, rfl⟩ | ⟨a, ys, rfl, h1⟩
  · exact ⟨_, _, _, .base .non, kit_ty kb_w.1, kit_ty kb_w.2.1, rfl⟩
  · exact ⟨_, _, _, .base (.bl b), kit_ty kb_w.2.2.1, kit_ty kb_w.2.2.2.1, rfl⟩
  · exact ⟨_, _, _, .base (.str t), kit_ty kb_w.2.2.2.2.1, kit_ty kb_w.2.2.2.2.2.1, rfl⟩
  · exact ⟨_, _, _, .base (.tup h1), kit_ty kb_w.2.2.2.2.2.2.1, kit_ty kb_w.2.2.2.2.2.2.2.1, rfl⟩
theorem flat_ty {v : V} (h : flatV v = true) : (∃ T, TyX K H v T ∧ PySem.W.kitOne K T (.type "tuple") = some false ∧ PySem.W.kitAny K T [.type "list", .type "tuple"] = some false) := by
  cases v with
  | non => exact ⟨_, .base .non, kit_ty kb_t.1, kit2 kb_t.2.2.2.2.1 kb_t.1 rfl⟩
  | bl b => exact ⟨_, .base (.bl b), kit_ty kb_t.2.1, kit2 kb_t.2.2.2.2.2.1 kb_t.2.1 rfl⟩
  | int i => exact ⟨_, .base (.int i), kit_ty kb_t.2.2.1, kit2 kb_t.2.2.2.2.2.2.1 kb_t.2.2.1 rfl⟩
  | str t => exact ⟨_, .base (.str t), kit_ty kb_t.2.2.2.1, kit2 kb_t.2.2.2.2.2.2.2 kb_t.2.2.2.1 rfl⟩
  | _ => cases h
end
section
variable {P : Program} {w : World} {K : PySem.W.Frag} {mg : Str → Option Value} {base : Heap} {C S CF CO : Addr} {H : Hp}
theorem StAt.ty {v : V} {qs : List Rat} (h : StAt K S H v qs) (k : StepK P w K mg base C S CF CO) : TyX K H v (.ref S) := by
  obtain ⟨x, dx, b, xs, x0, fv, sv, rfl, h1, _⟩ := h
  exact k.ty _ _ _ _ h1
theorem NF.isG {v : V} (h : NF K S H v) (k : StepK P w K mg base C S CF CO) : IsGs K H v false := fun H' s => by
  have z := h.same s
  clear h
  cases z with
  | flat h =>
    obtain ⟨T, t, k1, _⟩ := flat_ty (K := K) (H := H') h
    exact .inl ⟨T, t, k1, rfl⟩
  | lst h n => exact .inl ⟨_, .base (.lst h), kit_ty kb_l.2.1, rfl⟩
  | len h n => exact .inr (.inl ⟨_, _, rfl, SqT.of h, .base (.tup h), n, rfl⟩)
  | one h n m =>
    rcases m with m | ⟨i, rfl⟩
    · exact .inr (.inr ⟨_, _, _, false, false, rfl, SqT.of h, .base (.tup h), n.wh, m.wh, .inl ⟨rfl, rfl⟩⟩)
    · exact .inr (.inr ⟨_, _, _, false, true, rfl, SqT.of h, .base (.tup h), n.wh, wh_int i, .inl ⟨rfl, rfl⟩⟩)
  | two h n m =>
    obtain ⟨i, rfl⟩ := n
    exact .inr (.inr ⟨_, _, _, true, false, rfl, SqT.of h, .base (.tup h), wh_int i, m.wh, .inl ⟨rfl, rfl⟩⟩)
  | bad h n _ => exact .inr (.inr ⟨_, _, _, true, true, rfl, SqT.of h, .base (.tup h), wh_int _, wh_int _, .inr ⟨_, _, rfl, rfl, rfl, rfl, n.symm⟩⟩)
  | st h => exact .inl ⟨_, h.ty k, k.kB _ (by simp), rfl⟩
/-- no list, no tuple -/
theorem flat_lsv {v : V} (h : flatV v = true) : LsV K H v false := fun H' s => by
  obtain ⟨T, t, _, k⟩ := flat_ty (K := K) (H := H') h
  exact ⟨T, t, k⟩
theorem StAt.lsv {v : V} {qs : List Rat} (h : StAt K S H v qs) (k : StepK P w K mg base C S CF CO) : LsV K H v false := fun H' s =>
  ⟨_, (h.same s).ty k, kitAny_cons (k.kB "list" (by simp)) (fun _ => kitAny_cons (k.kB "tuple" (by simp)) (fun _ => kitAny_nil) (fun z => Bool.noConfusion z)) (fun z => Bool.noConfusion z)⟩
/-- an int from lo to hi it is not -/
theorem Vx.inR {v : V} {lo hi : Int} (h : Vx K S H v) (k : StepK P w K mg base C S CF CO) (n : ∀ i : Int, v = .int i → i < lo ∨ hi < i) : InR K H v lo hi false := by
  have no : WhV K H v false → InR K H v lo hi false := fun w => ⟨false, w, .inl ⟨rfl, rfl⟩⟩
  have ni : NI H v → InR K H v lo hi false := fun z => no z.wh
  cases h with
  | flat h =>
    cases v with
    | non => exact ni (.inl rfl)
    | bl b => exact ni (.inr (.inl ⟨b, rfl⟩))
    | int i => exact .no (n i rfl)
    | str t => exact ni (.inr (.inr (.inl ⟨t, rfl⟩)))
    | _ => cases h
  | lst h _ _ _ => exact no fun H' s => ⟨_, _, _, .base (.lst (s _ _ h)), kit_ty kb_w.2.2.2.2.2.2.2.2.1, kit_ty kb_w.2.2.2.2.2.2.2.2.2, rfl⟩
  | tup h _ _ => exact ni (.inr (.inr (.inr ⟨_, _, rfl, h⟩)))
  | st h => exact no fun H' s => ⟨_, _, _, (h.same s).ty k, k.kB "int" (by simp), k.kB "bool" (by simp), rfl⟩
end
end Kx
end
section
set_option maxHeartbeats 4000000
namespace Kx
open PySem PySem.Spec PyProof.Rows L2
def Od (K : PySem.W.Frag) (S : Addr) (H : Hp) (v : V) : Prop := Vx K S H v ∧ NF K S H v
theorem Od.same {K : PySem.W.Frag} {S : Addr} {H H' : Hp} {v : V} (h : Od K S H v) (s : Same H H') : Od K S H' v := ⟨h.1.same s, h.2.same s⟩
theorem Od.go {K : PySem.W.Frag} {S : Addr} {H H' : Hp} {B p : Addr} {v : V} (h : Od K S H v) (b : Bag H B p) (s : Go B H H') : Od K S H' v := ⟨h.1.go b s, h.2.go b s⟩
def spOdd (K : PySem.W.Frag) (S : Addr) : Sp := fun vs H Q _ => ∃ B p : Addr, vs = [.ref B] ∧ Bag H B p ∧ ∀ H' v, Bag H' B p → But B H H' → Od K S H' v → Q v H'
section
variable {P : Program} {w : World} {K : PySem.W.Frag} {mg : Str → Option Value} {base : Heap} {f C S CF CO pS gS : Addr} {mc : Value} {fd fdS : FuncData}
end
end Kx
end
section
set_option maxHeartbeats 4000000
namespace Kx
open PySem PySem.Spec PyProof.Rows L2 RZ
/-! ### no order -/
def spNo (K : PySem.W.Frag) (S : Addr) : Sp := fun vs H Q _ => ∃ B p : Addr, vs = [.ref B] ∧ Bag H B p ∧ ∀ H' v, Bag H' B p → But B H H' → Vx K S H' v → (∀ i : Int, v = .int i → i < 2 ∨ 24 < i) → Q v H'
section
variable {P : Program} {w : World} {K : PySem.W.Frag} {mg : Str → Option Value} {base : Heap} {f C S CF CO : Addr} {fd : FuncData}
end
/-! ### like -/
structure KT (K : PySem.W.Frag) (a : Addr) (xs : List V) : Prop where
  ex : ∃ (o : Obj) (its : Array Value) (n : Nat), K.lookup a = some o ∧ o.cls = .type "tuple" ∧ o.data = .seq its n ∧ its.size ≤ sizeLine ∧ Vals xs its.toList
def TupAt (K : PySem.W.Frag) (H : Hp) (a : Addr) (xs : List V) : Prop := H a = some (.tup xs) ∨ KT K a xs
theorem TupAt.t {K : PySem.W.Frag} {H : Hp} {a : Addr} {xs : List V} (h : TupAt K H a xs) : SqT K H a xs := h.elim SqT.of fun k => .inr k.ex
theorem TupAt.ty {K : PySem.W.Frag} {H : Hp} {a : Addr} {xs : List V} (h : TupAt K H a xs) : TyX K H (.ref a) (.type "tuple") := h.elim (fun h => .base (.tup h)) fun k => by
  obtain ⟨o, its, n, h1, h2, _⟩ := k.ex
  exact .kTuple h1 h2
theorem TupAt.same {K : PySem.W.Frag} {H H' : Hp} {a : Addr} {xs : List V} (h : TupAt K H a xs) (s : Same H H') : TupAt K H' a xs := h.imp (s _ _) id
def Lk (K : PySem.W.Frag) (S : Addr) : Nat → Hp → V → V → Prop
  | 0, H, v, u => u = v ∧ (flatV v = true ∨ ∃ qs, StAt K S H v qs)
  | n + 1, H, v, u => (u = v ∧ (flatV v = true ∨ ∃ qs, StAt K S H v qs)) ∨ ∃ (a b : Addr) (xs ys : List V), v = .ref a ∧ u = .ref b ∧ xs.length ≤ 60 ∧ Paired (Lk K S n H) xs ys ∧
      ((H a = some (.lst xs) ∧ H b = some (.lst ys)) ∨ (TupAt K H a xs ∧ TupAt K H b ys))
section
variable {K : PySem.W.Frag} {S : Addr} {H H' : Hp}
theorem Lk.same (s : Same H H') : ∀ {n : Nat} {v u : V}, Lk K S n H v u → Lk K S n H' v u
  | 0, _, _, h => ⟨h.1, h.2.imp id fun ⟨qs, z⟩ => ⟨qs, z.same s⟩⟩
  | n + 1, v, u, h => by
    rcases h with ⟨h1, h2⟩ | ⟨a, b, xs, ys, e1, e2, l, p, q⟩
    · exact .inl ⟨h1, h2.imp id fun ⟨qs, z⟩ => ⟨qs, z.same s⟩⟩
    · exact .inr ⟨a, b, xs, ys, e1, e2, l, L2.Paired.mapP p fun _ _ z => Lk.same s z, q.imp (fun q => ⟨s _ _ q.1, s _ _ q.2⟩) fun q => ⟨q.1.same s, q.2.same s⟩⟩
theorem Lk.flat {v : V} (h : flatV v = true) : ∀ {n : Nat}, Lk K S n H v v
  | 0 => ⟨rfl, .inl h⟩
  | _ + 1 => .inl ⟨rfl, .inl h⟩
theorem Lk.st {v : V} {qs : List Rat} (h : StAt K S H v qs) : ∀ {n : Nat}, Lk K S n H v v
  | 0 => ⟨rfl, .inr ⟨qs, h⟩⟩
  | _ + 1 => .inl ⟨rfl, .inr ⟨qs, h⟩⟩
theorem Lk.succ : ∀ {n : Nat} {v u : V}, Lk K S n H v u → Lk K S (n + 1) H v u
  | 0, _, _, h => .inl h
  | n + 1, _, _, h => by
    rcases h with h | ⟨a, b, xs, ys, e1, e2, l, p, q⟩
    · exact .inl h
    · exact .inr ⟨a, b, xs, ys, e1, e2, l, L2.Paired.mapP p fun _ _ z => Lk.succ z, q⟩
theorem Lk.lst {n : Nat} {a b : Addr} {xs ys : List V} (h1 : H a = some (.lst xs)) (h2 : H b = some (.lst ys)) (l : xs.length ≤ 60) (p : Paired (Lk K S n H) xs ys) : Lk K S (n + 1) H (.ref a) (.ref b) := .inr ⟨a, b, xs, ys, rfl, rfl, l, p, .inl ⟨h1, h2⟩⟩
theorem paired_flat {n : Nat} : ∀ {xs : List V}, (∀ x ∈ xs, flatV x = true) → Paired (Lk K S n H) xs xs
  | [], _ => .nil
  | x :: xs, h => .cons (Lk.flat (h x List.mem_cons_self)) (paired_flat fun y hy => h y (List.mem_cons_of_mem _ hy))
theorem V2.lk {n : Nat} {x : V} (h : V2 H x) : Lk K S (n + 1) H x x := by
  rcases h with h | ⟨a, ys, rfl, h1, l, fl⟩
  · exact Lk.flat h
  · exact .inr ⟨a, a, ys, ys, rfl, rfl, l, paired_flat fl, .inr ⟨.inl h1, .inl h1⟩⟩
theorem paired_v2 {n : Nat} : ∀ {xs : List V}, (∀ x ∈ xs, V2 H x) → Paired (Lk K S (n + 1) H) xs xs
  | [], _ => .nil
  | x :: xs, h => .cons (h x List.mem_cons_self).lk (paired_v2 fun y hy => h y (List.mem_cons_of_mem _ hy))
theorem Vx.lk {n : Nat} {v : V} (h : Vx K S H v) : Lk K S (n + 2) H v v := by
  cases h with
  | flat h => exact Lk.flat h
  | lst h _ l i => exact .inr ⟨_, _, _, _, rfl, rfl, l, paired_v2 i, .inl ⟨h, h⟩⟩
  | tup h l i => exact .inr ⟨_, _, _, _, rfl, rfl, l, paired_v2 i, .inr ⟨.inl h, .inl h⟩⟩
  | st h => exact Lk.st h
theorem Nq.tup {v : V} {q : Rat} (h : Nq K H v q) : ∃ a, v = .ref a ∧ TupAt K H a [.int q.num, .int (q.den : Nat)] := by
  obtain ⟨a, e, h⟩ := h
  exact ⟨a, e, h.imp id fun k => ⟨k.ex⟩⟩
theorem Nq.lk {n : Nat} {v u : V} {q : Rat} (h : Nq K H v q) (h' : Nq K H u q) : Lk K S (n + 1) H v u := by
  obtain ⟨a, rfl, h1⟩ := h.tup
  obtain ⟨b, rfl, h2⟩ := h'.tup
  exact .inr ⟨a, b, _, _, rfl, rfl, (by show 2 ≤ 60; decide), .cons (Lk.flat rfl) (.cons (Lk.flat rfl) .nil), .inr ⟨h1, h2⟩⟩
theorem Nl.pair {n : Nat} : ∀ {xs ys : List V} {qs : List Rat}, Nl K H xs qs → Nl K H ys qs → Paired (Lk K S (n + 1) H) xs ys
  | [], [], [], _, _ => .nil
  | x :: xs, y :: ys, q :: qs, h, h' => .cons ((h.2 0 x q rfl rfl).lk (h'.2 0 y q rfl rfl)) (Nl.pair h.tail h'.tail)
  | [], _ :: _, [], _, h' => by cases h'.1
  | _ :: _, [], _, h, h' => by have e := h.1.trans h'.1.symm; cases e
  | [], _, _ :: _, h, _ => by cases h.1
  | _ :: _, _, [], h, _ => by cases h.1
theorem Ls.lk {n : Nat} {v u : V} {qs : List Rat} (h : Ls K H v qs) (h' : Ls K H u qs) (l : qs.length ≤ 60) : Lk K S (n + 2) H v u := by
  obtain ⟨a, xs, rfl, h1, n1⟩ := h
  obtain ⟨b, ys, rfl, h2, n2⟩ := h'
  exact Lk.lst h1 h2 (by rw [n1.1]; exact l) (n1.pair n2)
end
theorem Pr_get {α β : Type} {F : α → β → Prop} : ∀ {l1 : List α} {l2 : List β} {i : Nat} {x : α}, Paired F l1 l2 → l1[i]? = some x → ∃ y, l2[i]? = some y ∧ F x y
  | _, _, _, _, .nil, h => by simp at h
  | _, _, 0, x, .cons (b := b) r _, h => ⟨b, rfl, by
    have e := Option.some.inj (show some _ = some x from by simpa using h)
    rw [← e]
    exact r⟩
  | _, _, i + 1, x, .cons _ t, h => by
    obtain ⟨y, h1, h2⟩ := Pr_get (i := i) (x := x) t (by simpa using h)
    exact ⟨y, by simpa using h1, h2⟩
theorem walk_zipT {K : PySem.W.Frag} {a b : Addr} {xs ys : List V} {n : Nat} (hn : n = min xs.length ys.length) : Walk (ItzT K a b) n (fun H => SqT K H a xs ∧ SqT K H b ys) (YPair (fun i => xs[i]?) (fun i => ys[i]?)) := by
  subst hn
  refine ⟨fun i H hi q => ⟨xs, ys, xs[i]'(by omega), ys[i]'(by omega), q.1, q.2, by simp [show i < xs.length by omega], by simp [show i < ys.length by omega]⟩, fun H q => ⟨xs, ys, q.1, q.2, by omega⟩, fun i H v H' hi q y => ?_⟩
  obtain ⟨T, x, z, h1, h2, h3, h4, h5⟩ := y
  exact ⟨T, x, z, h1, h2, h3, h4 xs q.1, h5 ys q.2⟩
def tyS : V → String
  | .non => "NoneType"
  | .bl _ => "bool"
  | .int _ => "int"
  | _ => "str"
theorem ty_flat {K : PySem.W.Frag} {H : Hp} {v : V} (h : flatV v = true) : TyX K H v (.type (tyS v)) := by
  cases v with
  | non => exact .base .non
  | bl b => exact .base (.bl b)
  | int i => exact .base (.int i)
  | str x => exact .base (.str x)
  | _ => cases h
theorem tyS_in : ∀ {v : V}, flatV v = true → tyS v ∈ ["NoneType", "bool", "int", "str"]
  | .non, _ => by simp [tyS]
  | .bl _, _ => by simp [tyS]
  | .int _, _ => by simp [tyS]
  | .str _, _ => by simp [tyS]
  | .byt _, h => by cases h
  | .flt _, h => by cases h
  | .ref _, h => by cases h
  | .ty _, h => by cases h
theorem kb_seq : ∀ s ∈ ["NoneType", "bool", "int", "str"], kitB s "list" = some false ∧ kitB s "tuple" = some false := by decide +kernel
theorem kb_flat : ∀ s ∈ ["NoneType", "bool", "int", "str"], (kitB s "bool").isSome ∧ (kitB s "str").isSome ∧ (kitB s "int").isSome := by decide +kernel
def spLike (K : PySem.W.Frag) (S : Addr) (n : Nat) : Sp := fun vs H Q _ => ∃ (v u : V), vs = [v, u] ∧ Lk K S n H v u ∧ ∀ H', Same H H' → Q (.bl true) H'
/-- the == of the steps: a step and itself -/
def spEqS (K : PySem.W.Frag) (S : Addr) : Sp := fun vs H Q _ => ∃ (x y : V) (qs : List Rat), vs = [x, y] ∧ StAt K S H x qs ∧ ((y = x ∧ Q (.bl true) H) ∨ (∃ T, TyX K H y T ∧ PySem.W.kitOne K T (.ref S) = some false ∧ Q (.bl false) H))
abbrev nLike : List Str := ["_law_told", "_law_due", "_law_a", "_law_b"]
section
variable {P : Program} {w : World} {K : PySem.W.Frag} {mg : Str → Option Value} {base : Heap} {f C S CF CO : Addr} {fd : FuncData}
theorem scSE : FnScope ["self", "other"] ["self", "other"] (defScope C_Step_eq) := ⟨rfl, rfl, rfl, by decide +kernel, rfl, by decide +kernel, by decide +kernel⟩
theorem ok_seq (G : Fun K "__eq__" "Step.__eq__" C_Step_eq f fd) (k : StepK P w K mg base C S CF CO) (mI : mg "isinstance" = none) : FnOk P w K mg base CX0 1 f fd ["self", "other"] (spEqS K S) := by
  refine G.ok scSE (fun vs H Q E h => ?_) (fun cdv A outer s H vs Q E hr h => ?_)
  · obtain ⟨x, y, qs, rfl, _⟩ := h
    rfl
  obtain ⟨v, u, qs, rfl, hS, hh⟩ := h
  obtain ⟨x, dx, b, xs, x0, fv, sv, rfl, hx, hb, nx, _⟩ := hS
  refine ⟨_, pss_one (ps_ret (pe_and (pe_callB call_isi rfl mI (by decide +kernel) (pa_cons (pv 1) (pa_cons (C8.pe_gc (v := .ref S) rfl ⟨_, k.m, rfl⟩) pa_nil))) (pe_one (pe_cmpR (op_eqD hr.units) (pe_fld (pv 0) rfl) (pe_fld (pv 1) rfl) (nomark _))))), ?_⟩
  rcases hh with ⟨rfl, q⟩ | ⟨T, ty, kt, q⟩
  · refine ⟨_, rfl, .ref x, .ref S, .ref S, .ref S, true, rfl, .own S, k.ty _ _ _ _ hx, k.kit, _, rfl, iteT ?_⟩
    refine ⟨_, rfl, x, S, dx, _, _, rfl, hx, k.c, k.nA _ (by simp [stN]), rfl, _, rfl, x, S, dx, _, _, rfl, hx, k.c, k.nA _ (by simp [stN]), rfl, datL qs, datL qs, nx.dp hb, nx.dp hb, shaped_list _, shaped_list _, ?_⟩
    rw [eqv_list, decide_eq_true rfl]
    exact q
  · exact ⟨_, rfl, u, .ref S, T, .ref S, false, rfl, .own S, ty, kt, _, rfl, iteF q⟩
theorem scLike : FnScope nLike ["_law_told", "_law_due"] (defScope L_like) := ⟨rfl, rfl, rfl, by decide +kernel, rfl, by decide +kernel, by decide +kernel⟩
theorem ok_like {n : Nat} (F : Fun K "_law_like" "_law_like" L_like f fd) (k : StepK P w K mg base C S CF CO) (OE : OpM P w K mg base CX0 1 S "__eq__" (spEqS K S)) (bL : Binds K fd ["_law_told", "_law_due"] []) (mL : mg "_law_like" = some (.ref f)) (G : ∀ n', n = n' + 1 → FnOk P w K mg base CX0 (n + 1) f fd ["_law_told", "_law_due"] (spLike K S n'))
    (mI : mg "isinstance" = none) (ml : mg "list" = none) (mt : mg "tuple" = none) (mb : mg "bool" = none) (ms : mg "str" = none) (mi : mg "int" = none) (mn : mg "len" = none) (mz : mg "zip" = none) (ma : mg "all" = none) :
    FnOk P w K mg base CX0 (n + 2) f fd ["_law_told", "_law_due"] (spLike K S n) := by
  refine F.ok scLike (fun vs H Q E h => ?_) (fun cdv A outer s H vs Q E hr h => ?_)
  · obtain ⟨v, u, rfl, _⟩ := h
    rfl
  obtain ⟨v, u, rfl, tv, q⟩ := h
  have flat : flatV v = true → u = v → ∃ t, PSs (cxOf CX0 P w K mg base nLike "_law_like" (defScope L_like) f cdv A outer s H E).nox (defBody L_like) t ∧ t { nx := fun _ H' => Q .non H', rt := Q } (L2.start nLike [v, u]) H := fun hv hu => by
    subst hu
    obtain ⟨k1, k2⟩ := kb_seq _ (tyS_in hv)
    obtain ⟨k3, k4, k5⟩ := kb_flat _ (tyS_in hv)
    obtain ⟨x3, k3⟩ := Option.isSome_iff_exists.mp k3
    obtain ⟨x4, k4⟩ := Option.isSome_iff_exists.mp k4
    obtain ⟨x5, k5⟩ := Option.isSome_iff_exists.mp k5
    refine ⟨_, pss_cons (ps_if (pt_val (pe_callB call_isiT rfl mI (by decide +kernel) (pa_cons (pv 1) (pa_cons (pe_tup (pa_cons (pe_bltn rfl ml boot_list (rel_ty _)) (pa_cons (pe_bltn rfl mt boot_tuple (rel_ty _)) pa_nil))) pa_nil)))) (pss_cons ps_never (pss_one ps_never)) pss_nil)
      (pss_cons (ps_if (PW.pt (pw_or (pt_cmpR op_isN (pv 1) pe_non (nomark _)) (pw_or1 (pt_cmpR op_isN (pv 0) pe_non (nomark _))))) (pss_one (ps_ret (pe_and (pe_cmpR op_isN (pv 1) pe_non (nomark _)) (pe_one (pe_cmpR op_isN (pv 0) pe_non (nomark _)))))) pss_nil)
      (pss_cons (ps_if (PW.pt (pw_or (pt_val (pe_callB call_isiT rfl mI (by decide +kernel) (pa_cons (pv 0) (pa_cons (pe_tup (pa_cons (pe_bltn rfl ml boot_list (rel_ty _)) (pa_cons (pe_bltn rfl mt boot_tuple (rel_ty _)) pa_nil))) pa_nil)))) (pw_or1 (pt_cmpR op_ne (pe_callB call_isi rfl mI (by decide +kernel) (pa_cons (pv 0) (pa_cons (pe_bltn rfl mb boot_bool (rel_ty _)) pa_nil))) (pe_callB call_isi rfl mI (by decide +kernel) (pa_cons (pv 1) (pa_cons (pe_bltn rfl mb boot_bool (rel_ty _)) pa_nil))) (nomark _))))) (pss_one ps_never) pss_nil)
      (pss_cons (ps_if (PW.pt (pw_or (pt_cmpR op_ne (pe_callB call_isi rfl mI (by decide +kernel) (pa_cons (pv 0) (pa_cons (pe_bltn rfl ms boot_str (rel_ty _)) pa_nil))) (pe_callB call_isi rfl mI (by decide +kernel) (pa_cons (pv 1) (pa_cons (pe_bltn rfl ms boot_str (rel_ty _)) pa_nil))) (nomark _)) (pw_or1 (pt_cmpR op_ne (pe_callB call_isi rfl mI (by decide +kernel) (pa_cons (pv 0) (pa_cons (pe_bltn rfl mi boot_int (rel_ty _)) pa_nil))) (pe_callB call_isi rfl mI (by decide +kernel) (pa_cons (pv 1) (pa_cons (pe_bltn rfl mi boot_int (rel_ty _)) pa_nil))) (nomark _))))) (pss_one ps_never) pss_nil)
      (pss_one (ps_ret (pe_cmpR op_eq (pv 0) (pv 1) (nomark _))))))), ?_⟩
    refine ⟨_, rfl, (by show 2 ≤ sizeLine; decide), fun p np => ?_⟩
    have g1 := new_same np (.tup [.ty "list", .ty "tuple"])
    refine ⟨u, p, _, .type (tyS u), _, false, rfl, upd_same, .cons (.ty _) (.cons (.ty _) .nil), ty_flat hv, kit2 k1 k2 rfl, _, rfl, iteF ?_⟩
    generalize upd H p (.tup [.ty "list", .ty "tuple"]) = H1 at g1
    by_cases e : u = .non
    · subst e
      refine ⟨_, rfl, rfl, _, rfl, iteT ?_⟩
      refine iteT ⟨_, rfl, rfl, _, rfl, iteT ⟨_, rfl, rfl, q H1 g1⟩⟩
    · refine ⟨_, rfl, rfl, _, rfl, ?_⟩
      rw [decide_eq_false e]
      refine iteF ⟨_, rfl, rfl, _, rfl, ?_⟩
      rw [decide_eq_false e]
      refine iteF ?_
      refine ⟨_, rfl, (by show 2 ≤ sizeLine; decide), fun p2 np2 => ?_⟩
      have g2 := g1.trans (new_same np2 (.tup [.ty "list", .ty "tuple"]))
      refine ⟨u, p2, _, .type (tyS u), _, false, rfl, upd_same, .cons (.ty _) (.cons (.ty _) .nil), ty_flat hv, kit2 k1 k2 rfl, _, rfl, iteF ?_⟩
      generalize upd H1 p2 (.tup [.ty "list", .ty "tuple"]) = H2 at g2
      refine ⟨_, rfl, u, _, _, _, x3, rfl, .ty _, ty_flat hv, kit_ty k3, _, rfl, u, _, _, _, x3, rfl, .ty _, ty_flat hv, kit_ty k3, rfl, _, rfl, ?_⟩
      refine iteNS rfl ?_
      refine ⟨_, rfl, u, _, _, _, x4, rfl, .ty _, ty_flat hv, kit_ty k4, _, rfl, u, _, _, _, x4, rfl, .ty _, ty_flat hv, kit_ty k4, rfl, _, rfl, ?_⟩
      refine iteNS rfl ?_
      refine ⟨_, rfl, u, _, _, _, x5, rfl, .ty _, ty_flat hv, kit_ty k5, _, rfl, u, _, _, _, x5, rfl, .ty _, ty_flat hv, kit_ty k5, rfl, _, rfl, ?_⟩
      refine iteNS rfl ?_
      have hs : scal u u = true := by
        cases u <;> first | rfl | cases hv
      refine ⟨_, rfl, _, rfl, hs, ?_⟩
      rw [decide_eq_true rfl]
      exact q H2 g2
  have step : (∃ qs, StAt K S H v qs) → u = v → ∃ t, PSs (cxOf CX0 P w K mg base nLike "_law_like" (defScope L_like) f cdv A outer s H E).nox (defBody L_like) t ∧ t { nx := fun _ H' => Q .non H', rt := Q } (L2.start nLike [v, u]) H := fun hv hu => by
    subst hu
    obtain ⟨qs, hv⟩ := hv
    obtain ⟨a, ea⟩ : ∃ a, u = .ref a := by
      obtain ⟨x, dx, b, xs, x0, fv, sv, e, _⟩ := hv
      exact ⟨x, e⟩
    have nn : u ≠ .non := by rw [ea]; intro z; cases z
    have kA : PySem.W.kitAny K (.ref S) [.type "list", .type "tuple"] = some false := kitAny_cons (k.kB "list" (by simp)) (fun _ => kitAny_cons (k.kB "tuple" (by simp)) (fun _ => kitAny_nil) (fun z => Bool.noConfusion z)) (fun z => Bool.noConfusion z)
    refine ⟨_, pss_cons (ps_if (pt_val (pe_callB call_isiT rfl mI (by decide +kernel) (pa_cons (pv 1) (pa_cons (pe_tup (pa_cons (pe_bltn rfl ml boot_list (rel_ty _)) (pa_cons (pe_bltn rfl mt boot_tuple (rel_ty _)) pa_nil))) pa_nil)))) (pss_cons ps_never (pss_one ps_never)) pss_nil)
      (pss_cons (ps_if (PW.pt (pw_or (pt_cmpR op_isN (pv 1) pe_non (nomark _)) (pw_or1 (pt_cmpR op_isN (pv 0) pe_non (nomark _))))) (pss_one (ps_ret (pe_and (pe_cmpR op_isN (pv 1) pe_non (nomark _)) (pe_one (pe_cmpR op_isN (pv 0) pe_non (nomark _)))))) pss_nil)
      (pss_cons (ps_if (PW.pt (pw_or (pt_val (pe_callB call_isiT rfl mI (by decide +kernel) (pa_cons (pv 0) (pa_cons (pe_tup (pa_cons (pe_bltn rfl ml boot_list (rel_ty _)) (pa_cons (pe_bltn rfl mt boot_tuple (rel_ty _)) pa_nil))) pa_nil)))) (pw_or1 (pt_cmpR op_ne (pe_callB call_isi rfl mI (by decide +kernel) (pa_cons (pv 0) (pa_cons (pe_bltn rfl mb boot_bool (rel_ty _)) pa_nil))) (pe_callB call_isi rfl mI (by decide +kernel) (pa_cons (pv 1) (pa_cons (pe_bltn rfl mb boot_bool (rel_ty _)) pa_nil))) (nomark _))))) (pss_one ps_never) pss_nil)
      (pss_cons (ps_if (PW.pt (pw_or (pt_cmpR op_ne (pe_callB call_isi rfl mI (by decide +kernel) (pa_cons (pv 0) (pa_cons (pe_bltn rfl ms boot_str (rel_ty _)) pa_nil))) (pe_callB call_isi rfl mI (by decide +kernel) (pa_cons (pv 1) (pa_cons (pe_bltn rfl ms boot_str (rel_ty _)) pa_nil))) (nomark _)) (pw_or1 (pt_cmpR op_ne (pe_callB call_isi rfl mI (by decide +kernel) (pa_cons (pv 0) (pa_cons (pe_bltn rfl mi boot_int (rel_ty _)) pa_nil))) (pe_callB call_isi rfl mI (by decide +kernel) (pa_cons (pv 1) (pa_cons (pe_bltn rfl mi boot_int (rel_ty _)) pa_nil))) (nomark _))))) (pss_one ps_never) pss_nil)
      (pss_one (ps_ret (pe_cmpR (op_eqO OE (hr.mono (by omega)) pass0) (pv 0) (pv 1) (nomark _))))))), ?_⟩
    refine ⟨_, rfl, (by show 2 ≤ sizeLine; decide), fun p np => ?_⟩
    have g1 := new_same np (.tup [.ty "list", .ty "tuple"])
    have st1 := hv.same g1
    refine ⟨u, p, _, .ref S, _, false, rfl, upd_same, .cons (.ty _) (.cons (.ty _) .nil), st1.ty k, kA, _, rfl, iteF ?_⟩
    generalize upd H p (.tup [.ty "list", .ty "tuple"]) = H1 at g1 st1
    refine ⟨_, rfl, rfl, _, rfl, ?_⟩
    rw [decide_eq_false nn]
    refine iteF ⟨_, rfl, rfl, _, rfl, ?_⟩
    rw [decide_eq_false nn]
    refine iteF ?_
    refine ⟨_, rfl, (by show 2 ≤ sizeLine; decide), fun p2 np2 => ?_⟩
    have g2' := new_same np2 (.tup [.ty "list", .ty "tuple"])
    have g2 := g1.trans g2'
    have st2 := st1.same g2'
    refine ⟨u, p2, _, .ref S, _, false, rfl, upd_same, .cons (.ty _) (.cons (.ty _) .nil), st2.ty k, kA, _, rfl, iteF ?_⟩
    generalize upd H1 p2 (.tup [.ty "list", .ty "tuple"]) = H2 at g2 st2
    have ty := st2.ty k
    refine ⟨_, rfl, u, _, _, _, false, rfl, .ty _, ty, k.kB "bool" (by simp), _, rfl, u, _, _, _, false, rfl, .ty _, ty, k.kB "bool" (by simp), rfl, _, rfl, ?_⟩
    refine iteNS rfl ?_
    refine ⟨_, rfl, u, _, _, _, false, rfl, .ty _, ty, k.kB "str" (by simp), _, rfl, u, _, _, _, false, rfl, .ty _, ty, k.kB "str" (by simp), rfl, _, rfl, ?_⟩
    refine iteNS rfl ?_
    refine ⟨_, rfl, u, _, _, _, false, rfl, .ty _, ty, k.kB "int" (by simp), _, rfl, u, _, _, _, false, rfl, .ty _, ty, k.kB "int" (by simp), rfl, _, rfl, ?_⟩
    refine iteNS rfl ?_
    have st3 := st2
    obtain ⟨x, dx, b, xs, x0, fv, sv, rfl, hx, _⟩ := st2
    have nf : PySem.W.notFirst K S (.ref S) = true := by
      unfold PySem.W.notFirst
      rw [beq_self_eq_true]
      rfl
    exact ⟨_, rfl, _, rfl, x, dx, _, .ref S, rfl, hx, ty, nf, _, _, qs, rfl, st3, .inl ⟨rfl, q H2 g2⟩⟩
  have base0 : (u = v ∧ (flatV v = true ∨ ∃ qs, StAt K S H v qs)) → ∃ t, PSs (cxOf CX0 P w K mg base nLike "_law_like" (defScope L_like) f cdv A outer s H E).nox (defBody L_like) t ∧ t { nx := fun _ H' => Q .non H', rt := Q } (L2.start nLike [v, u]) H := fun h => h.2.elim (fun z => flat z h.1) fun z => step z h.1
  cases n with
  | zero => exact base0 tv
  | succ n =>
    rcases tv with h0 | ⟨a, b, xs, ys, rfl, rfl, l, pr, hh⟩
    · exact base0 h0
    have GL := G n rfl
    have le : xs.length = ys.length := pr.length
    have el : ∀ (i : Nat) (y z : V), xs[i]? = some y → ys[i]? = some z → ∀ H', Same H H' → Lk K S n H' y z := fun i y z hy hz H' g => by
      obtain ⟨z', h1, h2⟩ := Pr_get pr hy
      rw [hz] at h1
      rw [← Option.some.inj h1] at h2
      exact Lk.same g h2
    rcases hh with ⟨h1, h2⟩ | ⟨h1, h2⟩
    · refine ⟨_, pss_cons (ps_if (pt_val (pe_callB call_isiT rfl mI (by decide +kernel) (pa_cons (pv 1) (pa_cons (pe_tup (pa_cons (pe_bltn rfl ml boot_list (rel_ty _)) (pa_cons (pe_bltn rfl mt boot_tuple (rel_ty _)) pa_nil))) pa_nil))))
          (pss_cons (ps_if (PW.pt (pw_or (pt_cmpR op_ne (pe_callB call_isi rfl mI (by decide +kernel) (pa_cons (pv 0) (pa_cons (pe_bltn rfl ml boot_list (rel_ty _)) pa_nil))) (pe_callB call_isi rfl mI (by decide +kernel) (pa_cons (pv 1) (pa_cons (pe_bltn rfl ml boot_list (rel_ty _)) pa_nil))) (nomark _)) (pw_or1 (pt_cmpR op_ne (pe_callB call_isi rfl mI (by decide +kernel) (pa_cons (pv 0) (pa_cons (pe_bltn rfl mt boot_tuple (rel_ty _)) pa_nil))) (pe_callB call_isi rfl mI (by decide +kernel) (pa_cons (pv 1) (pa_cons (pe_bltn rfl mt boot_tuple (rel_ty _)) pa_nil))) (nomark _))))) (pss_one ps_never) pss_nil)
          (pss_one (ps_ret (pe_and (pe_cmpR op_eq (pe_callB call_len_seq rfl mn PySem.boot_len (pa_cons (pv 0) pa_nil)) (pe_callB call_len_seq rfl mn PySem.boot_len (pa_cons (pv 1) pa_nil)) (nomark _))
            (pe_one (pe_callB (cr_all rfl) rfl ma (by decide +kernel) (pa_cons (pe_lc (own := [("_law_a", 2), ("_law_b", 3)]) (g := gTup K 2 (gCons (gName 2) (gCons (gName 3) gNil))) (tt := tYes) rfl scLike.nd (pi_zipA rfl mz (pa_cons (pv 0) (pa_cons (pv 1) pa_nil))) (blkOk_by (N := nLike) (sc := defScope L_like) (by decide +kernel))
              (fun _ _ _ _ _ => pg_tup rfl (pgs_cons (pg_name (i := 2) scLike.nd rfl (Or.inl rfl)) (pgs_cons (pg_name (i := 3) scLike.nd rfl (Or.inl rfl)) pgs_nil))) (fun _ _ _ _ _ => pts_nil) (fun _ _ _ _ _ => pe_call GL hr rfl mL F.kp bL .nil pass0 (pa_cons (pv 2) (pa_cons (pv 3) pa_nil)))) pa_nil))))))) pss_nil)
        (pss_cons ps_never (pss_cons ps_never (pss_cons ps_never (pss_one ps_never)))), ?_⟩
      refine ⟨_, rfl, (by show 2 ≤ sizeLine; decide), fun p np => ?_⟩
      have g1 := new_same np (.tup [.ty "list", .ty "tuple"])
      refine ⟨.ref b, p, _, .type "list", _, true, rfl, upd_same, .cons (.ty _) (.cons (.ty _) .nil), .base (.lst (g1 _ _ h2)), kit2 kb_l.1 kb_l.2.1 rfl, _, rfl, ?_⟩
      refine iteT ?_
      generalize upd H p (.tup [.ty "list", .ty "tuple"]) = H1 at g1
      have ta : TyX K H1 (.ref a) (.type "list") := .base (.lst (g1 _ _ h1))
      have tb : TyX K H1 (.ref b) (.type "list") := .base (.lst (g1 _ _ h2))
      refine ⟨_, rfl, .ref a, _, _, _, _, rfl, .ty _, ta, kit_ty kb_l.1, _, rfl, .ref b, _, _, _, _, rfl, .ty _, tb, kit_ty kb_l.1, rfl, _, rfl, iteNS rfl ?_⟩
      refine ⟨_, rfl, .ref a, _, _, _, _, rfl, .ty _, ta, kit_ty kb_l.2.1, _, rfl, .ref b, _, _, _, _, rfl, .ty _, tb, kit_ty kb_l.2.1, rfl, _, rfl, iteNS rfl ?_⟩
      refine ⟨_, rfl, a, xs, rfl, .inl (SqL.of (g1 _ _ h1)), _, rfl, b, ys, rfl, .inl (SqL.of (g1 _ _ h2)), rfl, _, rfl, ?_⟩
      rw [decide_eq_true (show V.int (xs.length : Nat) = V.int (ys.length : Nat) by rw [le])]
      refine iteT ⟨_, rfl, _, rfl, a, b, xs, ys, rfl, .inl ⟨SqL.of (g1 _ _ h1), SqL.of (g1 _ _ h2), fun D nD => ?_⟩⟩
      refine lc_it (walk_zip (K := K) (a := a) (b := b) (xs := xs) (ys := ys) (n := xs.length) (by omega)) (fun i H' => Same H1 H' ∧ H' D = some (.lst ((List.replicate i true).map V.bl))) ⟨new_same nD _, upd_same⟩ (fun i H' _ h => ⟨SqL.of (h.1 _ _ (g1 _ _ h1)), SqL.of (h.1 _ _ (g1 _ _ h2))⟩) ?_ ?_
      · rintro i x H' H5 hi ⟨g, hD⟩ ⟨T, y, z, rfl, hT, rfl, hy, hz⟩
        refine ⟨T, [y, z], rfl, SqT.of upd_same, rfl, y, [z], rfl, z, [], rfl, rfl, ?_⟩
        refine ⟨rfl, ?_⟩
        refine yesT ?_
        have g5 : Same H1 (upd H' T (.tup [y, z])) := g.trans (new_same hT _)
        have tyz := el i y z hy hz _ (g1.trans g5)
        refine ⟨_, rfl, _, rfl, y, z, rfl, tyz, fun H6 g6 => ⟨(List.replicate i true).map V.bl, ?_, ?_, ?_, ?_⟩⟩
        · refine g6 _ _ ?_
          rw [upd_ne (ne_of_none hD hT)]
          exact hD
        · rw [List.length_map, List.length_replicate]
          exact small1000 (by omega)
        · exact fun c o h => by rw [upd_ne (ne_of_none h nD)]; exact g6 _ _ (g5 _ _ h)
        · rw [upd_same, List.replicate_succ', List.map_append]
          rfl
      · rintro H' ⟨g, hD⟩
        refine ⟨D, List.replicate xs.length true, rfl, SqL.of hD, ?_⟩
        have e : (List.replicate xs.length true).all id = true := by simp
        rw [e]
        exact q H' (g1.trans g)
    · refine ⟨_, pss_cons (ps_if (pt_val (pe_callB call_isiT rfl mI (by decide +kernel) (pa_cons (pv 1) (pa_cons (pe_tup (pa_cons (pe_bltn rfl ml boot_list (rel_ty _)) (pa_cons (pe_bltn rfl mt boot_tuple (rel_ty _)) pa_nil))) pa_nil))))
          (pss_cons (ps_if (PW.pt (pw_or (pt_cmpR op_ne (pe_callB call_isi rfl mI (by decide +kernel) (pa_cons (pv 0) (pa_cons (pe_bltn rfl ml boot_list (rel_ty _)) pa_nil))) (pe_callB call_isi rfl mI (by decide +kernel) (pa_cons (pv 1) (pa_cons (pe_bltn rfl ml boot_list (rel_ty _)) pa_nil))) (nomark _)) (pw_or1 (pt_cmpR op_ne (pe_callB call_isi rfl mI (by decide +kernel) (pa_cons (pv 0) (pa_cons (pe_bltn rfl mt boot_tuple (rel_ty _)) pa_nil))) (pe_callB call_isi rfl mI (by decide +kernel) (pa_cons (pv 1) (pa_cons (pe_bltn rfl mt boot_tuple (rel_ty _)) pa_nil))) (nomark _))))) (pss_one ps_never) pss_nil)
          (pss_one (ps_ret (pe_and (pe_cmpR op_eq (pe_callB call_len_seq rfl mn PySem.boot_len (pa_cons (pv 0) pa_nil)) (pe_callB call_len_seq rfl mn PySem.boot_len (pa_cons (pv 1) pa_nil)) (nomark _))
            (pe_one (pe_callB (cr_all rfl) rfl ma (by decide +kernel) (pa_cons (pe_lc (own := [("_law_a", 2), ("_law_b", 3)]) (g := gTup K 2 (gCons (gName 2) (gCons (gName 3) gNil))) (tt := tYes) rfl scLike.nd (pi_zipA rfl mz (pa_cons (pv 0) (pa_cons (pv 1) pa_nil))) (blkOk_by (N := nLike) (sc := defScope L_like) (by decide +kernel))
              (fun _ _ _ _ _ => pg_tup rfl (pgs_cons (pg_name (i := 2) scLike.nd rfl (Or.inl rfl)) (pgs_cons (pg_name (i := 3) scLike.nd rfl (Or.inl rfl)) pgs_nil))) (fun _ _ _ _ _ => pts_nil) (fun _ _ _ _ _ => pe_call GL hr rfl mL F.kp bL .nil pass0 (pa_cons (pv 2) (pa_cons (pv 3) pa_nil)))) pa_nil))))))) pss_nil)
        (pss_cons ps_never (pss_cons ps_never (pss_cons ps_never (pss_one ps_never)))), ?_⟩
      refine ⟨_, rfl, (by show 2 ≤ sizeLine; decide), fun p np => ?_⟩
      have g1 := new_same np (.tup [.ty "list", .ty "tuple"])
      refine ⟨.ref b, p, _, .type "tuple", _, true, rfl, upd_same, .cons (.ty _) (.cons (.ty _) .nil), (h2.same g1).ty, kit2 kb_l.2.2.1 kb_l.2.2.2 rfl, _, rfl, ?_⟩
      refine iteT ?_
      generalize upd H p (.tup [.ty "list", .ty "tuple"]) = H1 at g1
      have ta : TyX K H1 (.ref a) (.type "tuple") := (h1.same g1).ty
      have tb : TyX K H1 (.ref b) (.type "tuple") := (h2.same g1).ty
      refine ⟨_, rfl, .ref a, _, _, _, _, rfl, .ty _, ta, kit_ty kb_l.2.2.1, _, rfl, .ref b, _, _, _, _, rfl, .ty _, tb, kit_ty kb_l.2.2.1, rfl, _, rfl, iteNS rfl ?_⟩
      refine ⟨_, rfl, .ref a, _, _, _, _, rfl, .ty _, ta, kit_ty kb_l.2.2.2, _, rfl, .ref b, _, _, _, _, rfl, .ty _, tb, kit_ty kb_l.2.2.2, rfl, _, rfl, iteNS rfl ?_⟩
      refine ⟨_, rfl, a, xs, rfl, .inr ((h1.same g1).t), _, rfl, b, ys, rfl, .inr ((h2.same g1).t), rfl, _, rfl, ?_⟩
      rw [decide_eq_true (show V.int (xs.length : Nat) = V.int (ys.length : Nat) by rw [le])]
      refine iteT ⟨_, rfl, _, rfl, a, b, xs, ys, rfl, .inr ⟨(h1.same g1).t, (h2.same g1).t, fun D nD => ?_⟩⟩
      refine lc_it (walk_zipT (K := K) (a := a) (b := b) (xs := xs) (ys := ys) (n := xs.length) (by omega)) (fun i H' => Same H1 H' ∧ H' D = some (.lst ((List.replicate i true).map V.bl))) ⟨new_same nD _, upd_same⟩ (fun i H' _ h => ⟨((h1.same g1).same h.1).t, ((h2.same g1).same h.1).t⟩) ?_ ?_
      · rintro i x H' H5 hi ⟨g, hD⟩ ⟨T, y, z, rfl, hT, rfl, hy, hz⟩
        refine ⟨T, [y, z], rfl, SqT.of upd_same, rfl, y, [z], rfl, z, [], rfl, rfl, ?_⟩
        refine ⟨rfl, ?_⟩
        refine yesT ?_
        have g5 : Same H1 (upd H' T (.tup [y, z])) := g.trans (new_same hT _)
        have tyz := el i y z hy hz _ (g1.trans g5)
        refine ⟨_, rfl, _, rfl, y, z, rfl, tyz, fun H6 g6 => ⟨(List.replicate i true).map V.bl, ?_, ?_, ?_, ?_⟩⟩
        · refine g6 _ _ ?_
          rw [upd_ne (ne_of_none hD hT)]
          exact hD
        · rw [List.length_map, List.length_replicate]
          exact small1000 (by omega)
        · exact fun c o h => by rw [upd_ne (ne_of_none h nD)]; exact g6 _ _ (g5 _ _ h)
        · rw [upd_same, List.replicate_succ', List.map_append]
          rfl
      · rintro H' ⟨g, hD⟩
        refine ⟨D, List.replicate xs.length true, rfl, SqL.of hD, ?_⟩
        have e : (List.replicate xs.length true).all id = true := by simp
        rw [e]
        exact q H' (g1.trans g)
end
end Kx
end
section
set_option maxHeartbeats 4000000
namespace Kx
open PySem PySem.Spec PyProof.Rows L2 RZ
theorem low_fix {u l : Int} (hl : 1 ≤ l) : (decide ((Rat.divInt u l).num = u) && decide ((((Rat.divInt u l).den : Nat) : Int) = l)) = decide (Nat.gcd u.natAbs l.natAbs = 1) := by
  have l0 : l ≠ 0 := by omega
  by_cases g : Nat.gcd u.natAbs l.natAbs = 1
  · have e : Rat.divInt u l = ⟨u, l.toNat, by omega, by
      show Nat.gcd _ _ = 1
      rw [show l.toNat = l.natAbs by omega]
      exact g⟩ := by
      rw [Rat.mk_eq_divInt]
      congr 1
      omega
    rw [e, decide_eq_true g, Bool.and_eq_true]
    exact ⟨decide_eq_true rfl, decide_eq_true (by show ((l.toNat : Nat) : Int) = l; omega)⟩
  · rw [decide_eq_false g, Bool.and_eq_false_iff]
    by_cases e1 : (Rat.divInt u l).num = u
    · by_cases e2 : (((Rat.divInt u l).den : Nat) : Int) = l
      · have r := (Rat.divInt u l).reduced
        rw [e1] at r
        have e3 : (Rat.divInt u l).den = l.natAbs := by omega
        rw [e3] at r
        exact absurd r g
      · exact .inr (decide_eq_false e2)
    · exact .inl (decide_eq_false e1)
theorem sqt_same {K : PySem.W.Frag} {H H' : Hp} {a : Addr} {xs : List V} (h : SqT K H a xs) (s : Same H H') : SqT K H' a xs := by
  rcases h with (h | ⟨o, h⟩) | h
  · exact .inl (.inl (s _ _ h))
  · exact .inl (.inr ⟨o, s _ _ h⟩)
  · exact .inr h
/-- is v a fraction: r; what stands below is no great number -/
def IsB (K : PySem.W.Frag) (H : Hp) (v : V) (r : Bool) : Prop :=
  (∃ T, TyX K H v T ∧ PySem.W.kitOne K T (.type "tuple") = some false ∧ r = false) ∨
  (∃ a xs, v = .ref a ∧ SqT K H a xs ∧ TyX K H (.ref a) (.type "tuple") ∧ xs.length ≠ 2 ∧ r = false) ∨
  (∃ a x y b1 b2, v = .ref a ∧ SqT K H a [x, y] ∧ TyX K H (.ref a) (.type "tuple") ∧ WhV K H x b1 ∧ WhV K H y b2 ∧ (((b1 && b2) = false ∧ r = false) ∨ ∃ u l : Int, b1 = true ∧ b2 = true ∧ x = .int u ∧ y = .int l ∧ r = (decide (1 ≤ l) && decide (Nat.gcd u.natAbs l.natAbs = 1)) ∧ l.natAbs.log2 < 9000))
theorem IsB.isG {K : PySem.W.Frag} {H : Hp} {v : V} {r : Bool} (h : IsB K H v r) : IsG K H v r := by
  rcases h with h | h | ⟨a, x, y, b1, b2, e, h1, h2, h3, h4, h5 | ⟨u, l, h5, h6, h7, h8, h9, _⟩⟩
  · exact .inl h
  · exact .inr (.inl h)
  · exact .inr (.inr ⟨a, x, y, b1, b2, e, h1, h2, h3, h4, .inl h5⟩)
  · exact .inr (.inr ⟨a, x, y, b1, b2, e, h1, h2, h3, h4, .inr ⟨u, l, h5, h6, h7, h8, h9⟩⟩)
def spIs (K : PySem.W.Frag) : Sp := fun vs H Q _ => ∃ (v : V) (r : Bool), vs = [v] ∧ IsB K H v r ∧ ∀ H', Same H H' → Q (.bl r) H'
/-- what law_is takes -/
def LwI (K : PySem.W.Frag) (H : Hp) (v : V) (r : Bool) : Prop := ∀ H', Same H H' → IsB K H' v r
/-- the indexes of the false ones -/
def badL : List Bool → Nat → List Nat
  | [], _ => []
  | r :: rs, i => if r = true then badL rs (i + 1) else i :: badL rs (i + 1)
theorem bad_head : ∀ (rs : List Bool) (i : Nat), badAt rs i = (badL rs i).head?
  | [], _ => rfl
  | true :: rs, i => bad_head rs (i + 1)
  | false :: _, _ => rfl
theorem badL_snoc : ∀ (rs : List Bool) (i : Nat) (r : Bool), badL (rs ++ [r]) i = if r = true then badL rs i else badL rs i ++ [i + rs.length]
  | [], i, r => by cases r <;> rfl
  | true :: rs, i, r => by
    show badL (rs ++ [r]) (i + 1) = if r = true then badL rs (i + 1) else badL rs (i + 1) ++ [i + (rs.length + 1)]
    rw [badL_snoc rs (i + 1) r, show i + 1 + rs.length = i + (rs.length + 1) by omega]
  | false :: rs, i, r => by
    show i :: badL (rs ++ [r]) (i + 1) = if r = true then i :: badL rs (i + 1) else i :: badL rs (i + 1) ++ [i + (rs.length + 1)]
    rw [badL_snoc rs (i + 1) r, show i + 1 + rs.length = i + (rs.length + 1) by omega]
    cases r <;> rfl
theorem badL_len : ∀ (rs : List Bool) (i : Nat), (badL rs i).length ≤ rs.length
  | [], _ => Nat.le_refl _
  | true :: rs, i => Nat.le_succ_of_le (badL_len rs (i + 1))
  | false :: rs, i => Nat.succ_le_succ (badL_len rs (i + 1))
def datI (ns : List Nat) : PyData := .list (ns.map fun n => .int (n : Nat))
theorem lay_int : ∀ ns : List Nat, PyData.canLayAll0 (ns.map fun n => .int (n : Nat)) = true ∧ PyData.depthAll (ns.map fun n => .int (n : Nat)) = 0
  | [] => ⟨rfl, rfl⟩
  | n :: ns => by
    obtain ⟨h1, h2⟩ := lay_int ns
    refine ⟨?_, ?_⟩
    · show (true && _) = true
      rw [h1]
      rfl
    · show max 0 _ = 0
      rw [h2]
      rfl
theorem shaped_int (ns : List Nat) : SeqAt.shaped (datI ns) = true := by
  obtain ⟨h1, h2⟩ := lay_int ns
  unfold SeqAt.shaped
  rw [Bool.and_eq_true]
  refine ⟨h1, decide_eq_true ?_⟩
  show PyData.depthAll _ + 1 ≤ 64
  rw [h2]
  decide
theorem dp_int {K : PySem.W.Frag} {H : Hp} : ∀ ns : List Nat, DpAll K H (ns.map fun n => V.int (n : Nat)) (ns.map fun n => .int (n : Nat))
  | [] => .nil
  | n :: ns => .cons (.int _) (dp_int ns)
/-- what refused tells -/
def spRf (K : PySem.W.Frag) : Sp := fun vs H Q _ => ∃ (v : V) (le : Int), vs = [v, .int le] ∧
  ((LsV K H v false ∧ ∀ H' t, Same H H' → H' t = some (.lst [.str "InvalidFraction", .int (-1)]) → Q (.ref t) H') ∨
   ∃ (a : Addr) (xs : List V), v = .ref a ∧ SqH H a xs ∧ xs.length ≤ 60 ∧
     (((xs.length : Int) - le < 2 ∨ 24 < (xs.length : Int) - le) ∧ (∀ H' t, Same H H' → H' t = some (.lst [.str "InvalidOrder", .int ((xs.length : Int) - le)]) → Q (.ref t) H') ∨
      2 ≤ (xs.length : Int) - le ∧ (xs.length : Int) - le ≤ 24 ∧ ∃ rs : List Bool, xs.length = rs.length ∧ (∀ (i : Nat) (x : V) (r : Bool), xs[i]? = some x → rs[i]? = some r → LwI K H x r) ∧
        (badAt rs 0 = none → ∀ H', Same H H' → Q .non H') ∧ (∀ k : Nat, badAt rs 0 = some k → ∀ H' t, Same H H' → H' t = some (.lst [.str "InvalidFraction", .int (k : Nat)]) → Q (.ref t) H')))
abbrev nIs : List Str := ["_law_thing", "_law_part"]
abbrev nRf : List Str := ["_law_some", "_law_less", "_law_bad", "_law_k"]
section
variable {P : Program} {w : World} {K : PySem.W.Frag} {mg : Str → Option Value} {base : Heap} {f fL : Addr} {fd fdL : FuncData}
end
end Kx
end
section
set_option maxHeartbeats 4000000
namespace Kx
open PySem PySem.Spec PyProof.Rows L2
/-- the six errors' classes -/
structure Errs (P : Program) (w : World) (K : PySem.W.Frag) (mg : Str → Option Value) (base : Heap) (cs : Fin 6 → Addr) : Prop where
  e0 : ErrC P w K mg base "InvalidNumber" 1 (fs1 "InvalidNumber" "value") (cs 0)
  e1 : ErrC P w K mg base "InvalidFraction" 1 (fs1 "InvalidFraction" "at") (cs 1)
  e2 : ErrC P w K mg base "InvalidOrder" 1 (fs1 "InvalidOrder" "value") (cs 2)
  e3 : ErrC P w K mg base "OrderTooLow" 2 (fs2 "OrderTooLow" "have" "wanted") (cs 3)
  e4 : ErrC P w K mg base "UnlikeOrders" 2 (fs2 "UnlikeOrders" "one" "other") (cs 4)
  e5 : ErrC P w K mg base "InvalidPlace" 1 (fs1 "InvalidPlace" "value") (cs 5)
  co : ∀ i, PySem.W.findIn K (.ref (cs i)) "code" = some none
  f00 : PySem.W.findIn K (.ref (cs 0)) "value" = some none
  f10 : PySem.W.findIn K (.ref (cs 1)) "at" = some none
  f20 : PySem.W.findIn K (.ref (cs 2)) "value" = some none
  f30 : PySem.W.findIn K (.ref (cs 3)) "have" = some none
  f31 : PySem.W.findIn K (.ref (cs 3)) "wanted" = some none
  f40 : PySem.W.findIn K (.ref (cs 4)) "one" = some none
  f41 : PySem.W.findIn K (.ref (cs 4)) "other" = some none
  f50 : PySem.W.findIn K (.ref (cs 5)) "value" = some none
  kt : ∀ i j : Fin 6, PySem.W.kitOne K (.ref (cs i)) (.ref (cs j)) = some (decide (i = j))
/-- which of the errors is caught, and what fault makes of it -/
def Flt (H : Hp) (cs : Fin 6 → Addr) (cls : Value) (d : Option Addr) (Q : VK) : Prop :=
  (cls = .ref (cs 0) ∧ ∃ (dd : Addr) (v : V), d = some dd ∧ H dd = some (.xd (fs1 "InvalidNumber" "value" [v])) ∧ ∀ t H', Same H H' → H t = none → H' t = some (.lst [.str "InvalidNumber", v]) → Q (.ref t) H') ∨
  (cls = .ref (cs 1) ∧ ∃ (dd : Addr) (v : V), d = some dd ∧ H dd = some (.xd (fs1 "InvalidFraction" "at" [v])) ∧ ∀ t H', Same H H' → H t = none → H' t = some (.lst [.str "InvalidFraction", v]) → Q (.ref t) H') ∨
  (cls = .ref (cs 2) ∧ ∃ (dd : Addr) (v : V), d = some dd ∧ H dd = some (.xd (fs1 "InvalidOrder" "value" [v])) ∧ ∀ t H', Same H H' → H t = none → H' t = some (.lst [.str "InvalidOrder", v]) → Q (.ref t) H') ∨
  (cls = .ref (cs 3) ∧ ∃ (dd : Addr) (v u : V), d = some dd ∧ H dd = some (.xd (fs2 "OrderTooLow" "have" "wanted" [v, u])) ∧ ∀ t H', Same H H' → H t = none → H' t = some (.lst [.str "OrderTooLow", v, u]) → Q (.ref t) H') ∨
  (cls = .ref (cs 4) ∧ ∃ (dd : Addr) (v u : V), d = some dd ∧ H dd = some (.xd (fs2 "UnlikeOrders" "one" "other" [v, u])) ∧ ∀ t H', Same H H' → H t = none → H' t = some (.lst [.str "UnlikeOrders", v, u]) → Q (.ref t) H') ∨
  (cls = .ref (cs 5) ∧ ∃ (dd : Addr) (v : V), d = some dd ∧ H dd = some (.xd (fs1 "InvalidPlace" "value" [v])) ∧ ∀ t H', Same H H' → H t = none → H' t = some (.lst [.str "InvalidPlace", v]) → Q (.ref t) H')
def spFlt (cs : Fin 6 → Addr) : Addr → Value → Option Addr → Sp := fun a cls d vs H Q _ => vs = [.ref a] ∧ Flt H cs cls d Q
section
variable {P : Program} {w : World} {K : PySem.W.Frag} {mg : Str → Option Value} {base : Heap} {f : Addr} {cs : Fin 6 → Addr} {fd : FuncData}
end
theorem takes_len {X : Cx} {W : WX} (tk : Takes X W) : Takes X (fun cls d σ H => σ.length = X.N.length → W cls d σ H) := fun u s' ⟨a, B, sI, pins, σ, H, cls, d, e, I, nb, up, sky, na, os, ag, w⟩ =>
  tk u s' ⟨a, B, sI, pins, σ, H, cls, d, e, I, nb, up, sky, na, os, ag, w I.len⟩
abbrev nAsk : List Str := ["_law_deed", "_law_error"]
/-- what ask makes of the lambda's reading -/
def TAsk (cs : Fin 6 → Addr) : (XK → Hp → VK → Prop) → Hp → VK → Prop := fun tl H Q =>
  tl (fun cls d H' => Flt H' cs cls d Q) H (fun v H1 => 2 ≤ sizeLine ∧ ∀ t, H1 t = none → Q (.ref t) (upd H1 t (.lst [.str "told", v])))
def askT (cs : Fin 6 → Addr) : Addr → Value → Option Addr → TS := fun a cls d => tRet (tCallP a cls d (spFlt cs) (tCons (tVar 1) tNil))
def askL (CE : Addr) (cs : Fin 6 → Addr) : List Hd3 := [(.ref CE, 1, askT cs)]
section
variable {X : Cx} {q : Str} {g fF CE : Addr} {cs : Fin 6 → Addr} {cdg : Value} {fdF : FuncData}
end
end Kx
end
section
set_option maxHeartbeats 4000000
namespace Kx
open PySem PySem.Spec PyProof.Rows L2 RZ
theorem passF {P : Program} {w : World} {X : Cx} : Passes (L2.CX P w) X (fun _ _ _ => False) := fun _ _ _ _ _ _ _ h => by
  obtain ⟨_, _, _, _, _, _, _, _, _, _, _, _, z⟩ := h
  exact z.elim
def spRs (K : PySem.W.Frag) (C : Addr) : Sp := fun vs H Q _ => ∃ (x y : V) (qs : List Rat), vs = [x, y] ∧ RwAt K C H x qs ∧ Ls K H y qs ∧ ∀ H', Same H H' → Q (.bl true) H'
def zrs (qs : List Rat) : List Bool := qs.map fun q => decide (q = 0)
theorem hgt_bad : ∀ (qs : List Rat) (f : Nat), hgtN qs f = badAt (zrs qs) f
  | [], _ => rfl
  | q :: qs, f => by
    show (if q = 0 then hgtN qs (f + 1) else some f) = if decide (q = 0) = true then badAt (zrs qs) (f + 1) else some f
    by_cases c : q = 0
    · rw [if_pos c, if_pos (decide_eq_true c), hgt_bad qs (f + 1)]
    · rw [if_neg c, if_neg (by rw [decide_eq_false c]; decide)]
theorem hgt_opt (qs : List Rat) : hgtV qs 0 = optV (badAt (zrs qs) 0) := by
  unfold hgtV
  rw [← hgt_bad]
  cases hgtN qs 0 with
  | none => rfl
  | some k => exact congrArg V.int (by omega)
theorem ixN0 {n : Nat} (h : 0 < n) : ixN n 0 = some 0 := by
  unfold ixN
  rw [if_pos (by decide), if_pos (by omega)]
  rfl
abbrev nRs : List Str := ["_law_u", "_law_a", "_law_spots", "_law_told", "_law_k"]
section
variable {P : Program} {w : World} {K : PySem.W.Frag} {mg : Str → Option Value} {base : Heap} {f C S CE : Addr} {cs : Fin 6 → Addr} {fd : FuncData}
end
end Kx
end
section
set_option maxHeartbeats 4000000
namespace Kx
open PySem PySem.Spec PyProof.Rows L2 RZ
/-- all stands but what lists hold, and the tables -/
def Wk (H H' : Hp) : Prop := ∀ b o, H b = some o → H' b = some o ∨ (∃ xs ys, o = .lst xs ∧ H' b = some (.lst ys)) ∨ ∃ ps, o = .tbl ps
theorem Wk.of {H H' : Hp} (s : Same H H') : Wk H H' := fun b o h => .inl (s b o h)
theorem Wk.trans {H H1 H2 : Hp} (a : Wk H H1) (c : Wk H1 H2) : Wk H H2 := fun b o h => by
  rcases a b o h with h1 | ⟨xs, ys, rfl, h1⟩ | h1
  · exact c b o h1
  · rcases c b _ h1 with h2 | ⟨zs, us, e, h2⟩ | ⟨ps, e⟩
    · exact .inr (.inl ⟨xs, ys, rfl, h2⟩)
    · exact .inr (.inl ⟨xs, us, rfl, h2⟩)
    · cases e
  · exact .inr (.inr h1)
theorem Wk.but {H H' : Hp} {B p : Addr} (b : Bag H B p) (b' : Bag H' B p) (u : But B H H') : Wk H H' := fun c o h => by
  by_cases e : c = B
  · subst e
    obtain ⟨_, _, _, _, _, h1, _⟩ := b.ex
    obtain ⟨_, _, _, _, _, h2, _⟩ := b'.ex
    rw [h1] at h
    exact .inr (.inl ⟨_, _, (Option.some.inj h).symm, h2⟩)
  · exact .inl (u c o e h)
theorem Wk.set {H : Hp} {a : Addr} {xs ys : List V} (h : H a = some (.lst xs)) : Wk H (upd H a (.lst ys)) := fun c o hc => by
  by_cases e : c = a
  · subst e
    rw [h] at hc
    exact .inr (.inl ⟨_, _, (Option.some.inj hc).symm, upd_same⟩)
  · exact .inl (by rw [upd_ne e]; exact hc)
theorem Wk.ext {H H' : Hp} (s : LamX.ExtN H H') : Wk H H' := fun c o h => by
  by_cases e : ∃ ps, o = .tbl ps
  · exact .inr (.inr e)
  · exact .inl (s c o h fun ps z => e ⟨ps, z⟩)
section
variable {K : PySem.W.Frag} {S : Addr} {H H' : Hp}
theorem Wk.tup {a : Addr} {xs : List V} (h : H a = some (.tup xs)) (s : Wk H H') : H' a = some (.tup xs) := by
  rcases s _ _ h with h1 | ⟨_, _, e, _⟩ | ⟨_, e⟩
  · exact h1
  · cases e
  · cases e
theorem Wk.ins {a C dx : Addr} {fs : List (Str × V)} (h : H a = some (.ins C dx fs)) (s : Wk H H') : H' a = some (.ins C dx fs) := by
  rcases s _ _ h with h1 | ⟨_, _, e, _⟩ | ⟨_, e⟩
  · exact h1
  · cases e
  · cases e
theorem Wk.lst {a : Addr} {xs : List V} (h : H a = some (.lst xs)) (s : Wk H H') : ∃ ys, H' a = some (.lst ys) := by
  rcases s _ _ h with h1 | ⟨_, _, e, h1⟩ | ⟨_, e⟩
  · exact ⟨_, h1⟩
  · exact ⟨_, h1⟩
  · cases e
theorem Nq.wk {v : V} {q : Rat} (h : Nq K H v q) (s : Wk H H') : Nq K H' v q := by
  obtain ⟨a, e, h⟩ := h
  exact ⟨a, e, h.imp (fun h => s.tup h) id⟩
theorem Nl.wk {xs : List V} {qs : List Rat} (h : Nl K H xs qs) (s : Wk H H') : Nl K H' xs qs := ⟨h.1, fun i x q h1 h2 => (h.2 i x q h1 h2).wk s⟩
theorem NI.wk {x : V} (h : NI H x) (s : Wk H H') : NI H' x := h.imp id (Or.imp id (Or.imp id fun ⟨a, ys, e, h1⟩ => ⟨a, ys, e, s.tup h1⟩))
/-- no fraction: what is seen of it whatever lists hold -/
inductive Fx (K : PySem.W.Frag) (S : Addr) (H : Hp) : V → Prop where
  | flat {v : V} (h : flatV v = true) : Fx K S H v
  | lst {a : Addr} {xs : List V} (h : H a = some (.lst xs)) : Fx K S H (.ref a)
  | len {a : Addr} {xs : List V} (h : H a = some (.tup xs)) (n : xs.length ≠ 2) : Fx K S H (.ref a)
  | one {a : Addr} {x y : V} (h : H a = some (.tup [x, y])) (n : NI H x) (m : NI H y ∨ ∃ i, y = .int i) : Fx K S H (.ref a)
  | two {a : Addr} {x y : V} (h : H a = some (.tup [x, y])) (n : ∃ i, x = .int i) (m : NI H y) : Fx K S H (.ref a)
  | bad {a : Addr} {u l : Int} (h : H a = some (.tup [.int u, .int l])) (n : (decide (1 ≤ l) && decide (Nat.gcd u.natAbs l.natAbs = 1)) = false) (m : l.natAbs < 100) : Fx K S H (.ref a)
  | st {x dx : Addr} {fs : List (Str × V)} (h : H x = some (.ins S dx fs)) : Fx K S H (.ref x)
theorem Fx.wk {v : V} (h : Fx K S H v) (s : Wk H H') : Fx K S H' v := by
  cases h with
  | flat h => exact .flat h
  | lst h => exact .lst (s.lst h).choose_spec
  | len h n => exact .len (s.tup h) n
  | one h n m => exact .one (s.tup h) (n.wk s) (m.imp (fun m => m.wk s) id)
  | two h n m => exact .two (s.tup h) n (m.wk s)
  | bad h n m => exact .bad (s.tup h) n m
  | st h => exact .st (s.ins h)
theorem NF.fx {v : V} (h : NF K S H v) : Fx K S H v := by
  cases h with
  | flat h => exact .flat h
  | lst h _ => exact .lst h
  | len h n => exact .len h n
  | one h n m => exact .one h n m
  | two h n m => exact .two h n m
  | bad h n m => exact .bad h n m
  | st h =>
    obtain ⟨x, dx, b, xs, x0, fv, sv, rfl, h1, _⟩ := h
    exact .st h1
theorem Nq.isB {v : V} {q : Rat} (h : Nq K H v q) (b : Bq 8000 q) : IsB K H v true := by
  obtain ⟨a, rfl, s, t⟩ := h.sq
  refine .inr (.inr ⟨a, _, _, true, true, rfl, s, t, wh_int _, wh_int _, .inr ⟨_, _, rfl, rfl, rfl, rfl, ?_, Nat.lt_trans (log_bd (n := 8000) b.2 (by decide)) (by decide)⟩⟩)
  have h1 : (1 : Int) ≤ ((q.den : Nat) : Int) := by have := q.den_nz; omega
  rw [decide_eq_true h1, Bool.true_and]
  symm
  exact decide_eq_true q.reduced
end
section
variable {P : Program} {w : World} {K : PySem.W.Frag} {mg : Str → Option Value} {base : Heap} {C S CF CO : Addr} {H H' : Hp}
theorem Fx.isB {v : V} (h : Fx K S H v) (k : StepK P w K mg base C S CF CO) : IsB K H v false := by
  cases h with
  | flat h =>
    obtain ⟨T, t, k1, _⟩ := flat_ty (K := K) (H := H) h
    exact .inl ⟨T, t, k1, rfl⟩
  | lst h => exact .inl ⟨_, .base (.lst h), kit_ty kb_l.2.1, rfl⟩
  | len h n => exact .inr (.inl ⟨_, _, rfl, SqT.of h, .base (.tup h), n, rfl⟩)
  | one h n m =>
    rcases m with m | ⟨i, rfl⟩
    · exact .inr (.inr ⟨_, _, _, false, false, rfl, SqT.of h, .base (.tup h), n.wh, m.wh, .inl ⟨rfl, rfl⟩⟩)
    · exact .inr (.inr ⟨_, _, _, false, true, rfl, SqT.of h, .base (.tup h), n.wh, wh_int i, .inl ⟨rfl, rfl⟩⟩)
  | two h n m =>
    obtain ⟨i, rfl⟩ := n
    exact .inr (.inr ⟨_, _, _, true, false, rfl, SqT.of h, .base (.tup h), wh_int i, m.wh, .inl ⟨rfl, rfl⟩⟩)
  | bad h n m => exact .inr (.inr ⟨_, _, _, true, true, rfl, SqT.of h, .base (.tup h), wh_int _, wh_int _, .inr ⟨_, _, rfl, rfl, rfl, rfl, n.symm, Nat.lt_trans (log_bd (n := 7) (by omega) (by decide)) (by decide)⟩⟩)
  | st h => exact .inl ⟨_, k.ty _ _ _ _ h, k.kB _ (by simp), rfl⟩
/-- an item of a drawn list: a fraction or not -/
def Im (K : PySem.W.Frag) (S : Addr) (H : Hp) (v : V) (r : Bool) : Prop := (r = true ∧ ∃ q, Nq K H v q ∧ Bq 21 q) ∨ (r = false ∧ Fx K S H v)
theorem Im.wk {v : V} {r : Bool} (h : Im K S H v r) (s : Wk H H') : Im K S H' v r := h.imp (fun ⟨e, q, n, b⟩ => ⟨e, q, n.wk s, b⟩) fun ⟨e, n⟩ => ⟨e, n.wk s⟩
theorem Im.isB {v : V} {r : Bool} (h : Im K S H v r) (k : StepK P w K mg base C S CF CO) : IsB K H v r := by
  rcases h with ⟨rfl, q, n, b⟩ | ⟨rfl, n⟩
  · exact n.isB (b.mono (by decide))
  · exact n.isB k
theorem Im.lw {v : V} {r : Bool} (h : Im K S H v r) (k : StepK P w K mg base C S CF CO) : LwI K H v r := fun H' s => (h.wk (.of s)).isB k
theorem Im.gs {v : V} {r : Bool} (h : Im K S H v r) (k : StepK P w K mg base C S CF CO) : IsGs K H v r := fun H' s => ((h.wk (.of s)).isB k).isG
/-- the items of a list -/
def Ims (K : PySem.W.Frag) (S : Addr) (H : Hp) (xs : List V) (rs : List Bool) : Prop := xs.length = rs.length ∧ ∀ (i : Nat) (x : V) (r : Bool), xs[i]? = some x → rs[i]? = some r → Im K S H x r
theorem Ims.wk {xs : List V} {rs : List Bool} (h : Ims K S H xs rs) (s : Wk H H') : Ims K S H' xs rs := ⟨h.1, fun i x r h1 h2 => (h.2 i x r h1 h2).wk s⟩
theorem Ims.its {xs : List V} {rs : List Bool} (h : Ims K S H xs rs) (k : StepK P w K mg base C S CF CO) : Its K H xs rs := ⟨h.1, fun i x r h1 h2 => (h.2 i x r h1 h2).gs k⟩
theorem Ims.set {xs : List V} {rs : List Bool} {v : V} {r : Bool} {j : Nat} (h : Ims K S H xs rs) (hv : Im K S H v r) : Ims K S H (xs.set j v) (rs.set j r) := by
  refine ⟨by rw [List.length_set, List.length_set]; exact h.1, fun i x b h1 h2 => ?_⟩
  by_cases e : j = i
  · subst e
    by_cases l : j < xs.length
    · rw [List.getElem?_set_self l] at h1
      rw [List.getElem?_set_self (by have := h.1; omega)] at h2
      rw [← Option.some.inj h1, ← Option.some.inj h2]
      exact hv
    · rw [List.getElem?_eq_none (by rw [List.length_set]; omega)] at h1
      cases h1
  · rw [List.getElem?_set_ne e] at h1 h2
    exact h.2 i x b h1 h2
theorem Nl.ims {xs : List V} {qs : List Rat} (h : Nl K H xs qs) (b : AllB 21 qs) : Ims K S H xs (List.replicate qs.length true) := by
  refine ⟨by rw [h.1, List.length_replicate], fun i x r h1 h2 => ?_⟩
  obtain ⟨q, hq, n⟩ := h.get h1
  rw [List.getElem?_replicate] at h2
  split at h2
  · rw [← Option.some.inj h2]
    exact .inl ⟨rfl, q, n, b q (List.mem_of_getElem? hq)⟩
  · cases h2
theorem Ims.nl : ∀ {xs : List V} {rs : List Bool} {i : Nat}, Ims K S H xs rs → badAt rs i = none → ∃ qs, Nl K H xs qs
  | [], _, _, _, _ => ⟨[], Nl.nil⟩
  | x :: xs, [], _, h, _ => by cases h.1
  | x :: xs, false :: rs, i, _, hb => by cases hb
  | x :: xs, true :: rs, i, h, hb => by
    obtain ⟨qs, n⟩ := Ims.nl (xs := xs) (rs := rs) (i := i + 1) ⟨Nat.succ.inj h.1, fun j y r h1 h2 => h.2 (j + 1) y r h1 h2⟩ hb
    rcases h.2 0 x true rfl rfl with ⟨_, q, nq, _⟩ | ⟨e, _⟩
    · exact ⟨q :: qs, Nl.cons nq n⟩
    · cases e
/-- what list gives -/
def LiD (K : PySem.W.Frag) (S : Addr) (H0 H : Hp) (v : V) : Prop := (flatV v = true ∨ ∃ x dx fs, v = .ref x ∧ H x = some (.ins S dx fs)) ∨
  ∃ (a : Addr) (xs : List V), v = .ref a ∧ SqH H a xs ∧ xs.length ≤ 60 ∧ ((xs.length < 3 ∨ 25 < xs.length) ∨ (3 ≤ xs.length ∧ xs.length ≤ 25 ∧ H0 a = none ∧ ∃ rs, Ims K S H xs rs))
def spLi (K : PySem.W.Frag) (S : Addr) : Sp := fun vs H Q _ => ∃ B p : Addr, vs = [.ref B] ∧ Bag H B p ∧ ∀ H' v, Bag H' B p → But B H H' → LiD K S H H' v → Q v H'
end
end Kx
end
section
set_option maxHeartbeats 4000000
namespace Kx
open PySem PySem.Spec PyProof.Rows L2 RZ
theorem Bag.upd {H : Hp} {B p a : Addr} {o : HO} (b : Bag H B p) (h1 : a ≠ B) (h2 : a ≠ p) : Bag (upd H a o) B p := by
  obtain ⟨ns, i, r, sd, c, e1, e2, e3⟩ := b.ex
  exact ⟨ns, i, r, sd, c, by rw [upd_ne (Ne.symm h1)]; exact e1, by rw [upd_ne (Ne.symm h2)]; exact e2, e3⟩
/-- a short value -/
def Sm (K : PySem.W.Frag) (S : Addr) (H : Hp) (v : V) : Prop := flatV v = true ∨ (∃ qs, StAt K S H v qs) ∨ (∃ a xs, v = .ref a ∧ H a = some (.lst xs) ∧ xs.length ≤ 2) ∨ ∃ a xs, v = .ref a ∧ H a = some (.tup xs) ∧ xs.length ≤ 2
theorem Sm.go {K : PySem.W.Frag} {S B p : Addr} {H H' : Hp} {v : V} (h : Sm K S H v) (b : Bag H B p) (s : Go B H H') : Sm K S H' v := by
  rcases h with h | ⟨qs, h⟩ | ⟨a, xs, e, h, l⟩ | ⟨a, xs, e, h, l⟩
  · exact .inl h
  · exact .inr (.inl ⟨qs, h.go b s⟩)
  · exact .inr (.inr (.inl ⟨a, xs, e, lst_go h (by omega) b s, l⟩))
  · exact .inr (.inr (.inr ⟨a, xs, e, tup_go h b s, l⟩))
theorem Sm.same {K : PySem.W.Frag} {S : Addr} {H H' : Hp} {v : V} (h : Sm K S H v) (s : Same H H') : Sm K S H' v := by
  rcases h with h | ⟨qs, h⟩ | ⟨a, xs, e, h, l⟩ | ⟨a, xs, e, h, l⟩
  · exact .inl h
  · exact .inr (.inl ⟨qs, h.same s⟩)
  · exact .inr (.inr (.inl ⟨a, xs, e, s _ _ h, l⟩))
  · exact .inr (.inr (.inr ⟨a, xs, e, s _ _ h, l⟩))
theorem Sm.li {K : PySem.W.Frag} {S : Addr} {H0 H : Hp} {v : V} (h : Sm K S H v) : LiD K S H0 H v := by
  rcases h with h | ⟨qs, x, dx, b, xs, x0, fv, sv, e, h, _⟩ | ⟨a, xs, e, h, l⟩ | ⟨a, xs, e, h, l⟩
  · exact .inl (.inl h)
  · exact .inl (.inr ⟨x, dx, _, e, h⟩)
  · exact .inr ⟨a, xs, e, .inl h, by omega, .inl (.inl (by omega))⟩
  · exact .inr ⟨a, xs, e, .inr h, by omega, .inl (.inl (by omega))⟩
abbrev nLi : List Str := ["_law_bag_here", "_law_pick", "_law_size", "_law_some", "_law_k"]
section
variable {P : Program} {w : World} {K : PySem.W.Frag} {mg : Str → Option Value} {base : Heap} {f C S CF CO pS gS : Addr} {mc : Value} {fd fdS : FuncData}
end
end Kx
end
section
set_option maxHeartbeats 4000000
namespace Kx
open PySem PySem.Spec PyProof.Rows L2 RZ
section
variable {P : Program} {w : World} {K : PySem.W.Frag} {mg : Str → Option Value} {base : Heap} {f C CF CO CN o0 : Addr} {fd : FuncData}
end
end Kx
end
section
set_option maxHeartbeats 4000000
namespace Kx
/-! ### sums and series -/
abbrev Ser := Nat → Rat
def sumN (f : Nat → Rat) : Nat → Rat
  | 0 => 0
  | n + 1 => sumN f n + f n
theorem sum_congr {f g : Nat → Rat} : ∀ {n : Nat}, (∀ i, i < n → f i = g i) → sumN f n = sumN g n
  | 0, _ => rfl
  | n + 1, h => by
    show _ + _ = _ + _
    rw [sum_congr (n := n) fun i hi => h i (Nat.lt_succ_of_lt hi), h n (Nat.lt_succ_self n)]
theorem sum_zero {f : Nat → Rat} : ∀ {n : Nat}, (∀ i, i < n → f i = 0) → sumN f n = 0
  | 0, _ => rfl
  | n + 1, h => by
    show _ + _ = _
    rw [sum_zero (n := n) fun i hi => h i (Nat.lt_succ_of_lt hi), h n (Nat.lt_succ_self n), Rat.add_zero]
theorem sum_add (f g : Nat → Rat) : ∀ n, sumN (fun i => f i + g i) n = sumN f n + sumN g n
  | 0 => (Rat.add_zero 0).symm
  | n + 1 => by
    show sumN _ n + _ = (sumN f n + f n) + (sumN g n + g n)
    rw [sum_add f g n]
    grind
theorem sum_mul (c : Rat) (f : Nat → Rat) : ∀ n, sumN (fun i => c * f i) n = c * sumN f n
  | 0 => (Rat.mul_zero c).symm
  | n + 1 => by
    show sumN _ n + _ = c * (sumN f n + f n)
    rw [sum_mul c f n]
    grind
theorem sum_mulR (c : Rat) (f : Nat → Rat) (n : Nat) : sumN (fun i => f i * c) n = sumN f n * c := by
  rw [Rat.mul_comm, ← sum_mul]
  exact sum_congr fun i _ => Rat.mul_comm _ _
theorem sum_swap (F : Nat → Nat → Rat) (m : Nat) : ∀ n, sumN (fun i => sumN (F i) m) n = sumN (fun j => sumN (fun i => F i j) n) m
  | 0 => (sum_zero fun i _ => rfl).symm
  | n + 1 => by
    show sumN _ n + _ = sumN (fun j => sumN (fun i => F i j) n + F n j) m
    rw [sum_swap F m n, sum_add]
theorem sum_first (f : Nat → Rat) : ∀ n, sumN f (n + 1) = f 0 + sumN (fun i => f (i + 1)) n
  | 0 => by
    show (0 : Rat) + f 0 = f 0 + 0
    rw [Rat.zero_add, Rat.add_zero]
  | n + 1 => by
    show sumN f (n + 1) + f (n + 1) = f 0 + (sumN (fun i => f (i + 1)) n + f (n + 1))
    rw [sum_first f n, Rat.add_assoc]
theorem sum_refl (f : Nat → Rat) (n : Nat) : sumN (fun i => f (n - i)) (n + 1) = sumN f (n + 1) := by
  induction n generalizing f with
  | zero => rfl
  | succ n ih =>
    rw [sum_first]
    show f (n + 1) + _ = sumN f (n + 1) + f (n + 1)
    rw [← ih f, Rat.add_comm]
    congr 1
    exact sum_congr fun i _ => by rw [Nat.add_sub_add_right]
theorem sum_tri (G : Nat → Nat → Rat) : ∀ n, sumN (fun i => sumN (fun j => G j (i - j)) (i + 1)) n = sumN (fun j => sumN (G j) (n - j)) n
  | 0 => rfl
  | n + 1 => by
    have e : sumN (fun j => sumN (G j) (n + 1 - j)) (n + 1) = sumN (fun j => sumN (G j) (n - j) + G j (n - j)) (n + 1) := sum_congr fun j hj => by
      rw [show n + 1 - j = (n - j) + 1 by omega]
      rfl
    rw [e, sum_add]
    show sumN _ n + _ = (sumN (fun j => sumN (G j) (n - j)) n + sumN (G n) (n - n)) + _
    rw [sum_tri G n, Nat.sub_self]
    show _ = (_ + (0 : Rat)) + _
    rw [Rat.add_zero]
theorem sum_more {f : Nat → Rat} {n m : Nat} (l : n ≤ m) (h : ∀ i, n ≤ i → f i = 0) : sumN f m = sumN f n := by
  induction l with
  | refl => rfl
  | step l ih =>
    show sumN f _ + f _ = _
    rw [ih, h _ l, Rat.add_zero]
/-- the product of two series -/
def mulS (f g : Ser) : Ser := fun n => sumN (fun i => f i * g (n - i)) (n + 1)
def addS (f g : Ser) : Ser := fun n => f n + g n
def oneS : Ser := fun n => if n = 0 then 1 else 0
theorem mulS_comm (f g : Ser) : mulS f g = mulS g f := by
  funext n
  show _ = sumN (fun i => g i * f (n - i)) (n + 1)
  rw [← sum_refl]
  exact sum_congr fun i hi => by rw [Rat.mul_comm, show n - (n - i) = i by omega]
theorem mulS_assoc (f g h : Ser) : mulS (mulS f g) h = mulS f (mulS g h) := by
  funext n
  have e1 : mulS (mulS f g) h n = sumN (fun i => sumN (fun j => f j * g (i - j) * h (n - j - (i - j))) (i + 1)) (n + 1) := sum_congr fun i hi => by
    show sumN _ (i + 1) * _ = _
    rw [← sum_mulR]
    exact sum_congr fun j hj => by rw [show n - j - (i - j) = n - i by omega]
  rw [e1, sum_tri (fun j k => f j * g k * h (n - j - k))]
  exact sum_congr fun j hj => by
    show _ = f j * sumN _ (n - j + 1)
    rw [← sum_mul, show n + 1 - j = n - j + 1 by omega]
    exact sum_congr fun k _ => Rat.mul_assoc _ _ _
theorem oneS_mul (f : Ser) : mulS oneS f = f := by
  funext n
  show sumN _ (n + 1) = _
  rw [sum_first]
  show oneS 0 * f (n - 0) + _ = _
  rw [sum_zero fun i _ => by show (0 : Rat) * _ = 0; exact Rat.zero_mul _]
  show 1 * f n + 0 = f n
  rw [Rat.one_mul, Rat.add_zero]
theorem mulS_one (f : Ser) : mulS f oneS = f := by rw [mulS_comm, oneS_mul]
theorem mulS_add (f g h : Ser) : mulS (addS f g) h = addS (mulS f h) (mulS g h) := by
  funext n
  show sumN _ _ = sumN _ _ + sumN _ _
  rw [← sum_add]
  exact sum_congr fun i _ => Rat.add_mul _ _ _
def powS (f : Ser) : Nat → Ser
  | 0 => oneS
  | k + 1 => mulS (powS f k) f
theorem powS_one (f : Ser) : powS f 1 = f := oneS_mul f
theorem powS_add (f : Ser) (a : Nat) : ∀ b, powS f (a + b) = mulS (powS f a) (powS f b)
  | 0 => (mulS_one _).symm
  | b + 1 => by
    show mulS (powS f (a + b)) f = mulS (powS f a) (mulS (powS f b) f)
    rw [powS_add f a b, mulS_assoc]
theorem powS_low {f : Ser} (f0 : f 0 = 0) : ∀ (k n : Nat), n < k → powS f k n = 0
  | k + 1, n, h => sum_zero fun i hi => by
    rcases Nat.lt_or_ge i k with c | c
    · rw [powS_low f0 k i c, Rat.zero_mul]
    · rw [show n - i = 0 by omega, f0, Rat.mul_zero]
/-- a series with a series put in -/
def cmpS (u f : Ser) : Ser := fun n => sumN (fun j => u j * powS f j n) (n + 1)
theorem cmpS_to {u f : Ser} (f0 : f 0 = 0) {n N : Nat} (h : n < N) : sumN (fun j => u j * powS f j n) N = cmpS u f n :=
  sum_more h fun i hi => by rw [powS_low f0 i n hi, Rat.mul_zero]
theorem cmpS_add (u w f : Ser) : cmpS (addS u w) f = addS (cmpS u f) (cmpS w f) := by
  funext n
  show sumN _ _ = sumN _ _ + sumN _ _
  rw [← sum_add]
  exact sum_congr fun i _ => Rat.add_mul _ _ _
theorem cmpS_one (f : Ser) : cmpS oneS f = oneS := by
  funext n
  show sumN _ (n + 1) = _
  rw [sum_first, sum_zero fun i _ => by show (0 : Rat) * _ = 0; exact Rat.zero_mul _]
  show 1 * oneS n + 0 = _
  rw [Rat.one_mul, Rat.add_zero]
theorem cmpS_mul {u w f : Ser} (f0 : f 0 = 0) : cmpS (mulS u w) f = mulS (cmpS u f) (cmpS w f) := by
  funext n
  have e1 : cmpS (mulS u w) f n = sumN (fun j => sumN (fun a => u a * w (j - a) * powS f (a + (j - a)) n) (j + 1)) (n + 1) := sum_congr fun j hj => by
    show sumN _ (j + 1) * _ = _
    rw [← sum_mulR]
    exact sum_congr fun a ha => by rw [show a + (j - a) = j by omega]
  rw [e1, sum_tri (fun a b => u a * w b * powS f (a + b) n)]
  have e2 : mulS (cmpS u f) (cmpS w f) n = sumN (fun i => sumN (fun a => sumN (fun b => u a * w b * (powS f a i * powS f b (n - i))) (n + 1)) (n + 1)) (n + 1) := sum_congr fun i hi => by
    show cmpS u f i * cmpS w f (n - i) = _
    rw [← cmpS_to f0 (u := u) (n := i) (N := n + 1) (by omega), ← cmpS_to f0 (u := w) (n := n - i) (N := n + 1) (by omega), ← sum_mulR]
    refine sum_congr fun a _ => ?_
    rw [← sum_mul]
    exact sum_congr fun b _ => by grind
  have e3 : mulS (cmpS u f) (cmpS w f) n = sumN (fun a => sumN (fun b => u a * w b * powS f (a + b) n) (n + 1)) (n + 1) := by
    rw [e2, sum_swap]
    refine sum_congr fun a _ => ?_
    rw [sum_swap]
    refine sum_congr fun b _ => ?_
    rw [sum_mul, powS_add]
    rfl
  rw [e3]
  refine sum_congr fun a ha => (sum_more (by omega) fun b hb => ?_).symm
  rw [powS_low f0 _ _ (by omega), Rat.mul_zero]
theorem cmpS_zero {u f : Ser} : cmpS u f 0 = u 0 := by
  show (0 : Rat) + u 0 * oneS 0 = _
  show (0 : Rat) + u 0 * 1 = _
  rw [Rat.zero_add, Rat.mul_one]
theorem cmpS_pow {f g : Ser} (g0 : g 0 = 0) : ∀ k, cmpS (powS f k) g = powS (cmpS f g) k
  | 0 => cmpS_one g
  | k + 1 => by
    show cmpS (mulS _ _) g = mulS _ _
    rw [cmpS_mul g0, cmpS_pow g0 k]
theorem cmpS_assoc {u f g : Ser} (f0 : f 0 = 0) (g0 : g 0 = 0) : cmpS (cmpS u f) g = cmpS u (cmpS f g) := by
  funext n
  have e1 : cmpS (cmpS u f) g n = sumN (fun j => sumN (fun a => u a * (powS f a j * powS g j n)) (n + 1)) (n + 1) := sum_congr fun j hj => by
    show cmpS u f j * _ = _
    rw [← cmpS_to f0 (u := u) (n := j) (N := n + 1) hj, ← sum_mulR]
    exact sum_congr fun a _ => Rat.mul_assoc _ _ _
  rw [e1, sum_swap]
  refine sum_congr fun a _ => ?_
  rw [sum_mul, ← cmpS_pow g0]
  rfl
def xS : Ser := fun n => if n = 1 then 1 else 0
theorem cmpS_xl (f : Ser) : ∀ n, 0 < n → cmpS xS f n = f n := fun n h => by
  obtain ⟨m, rfl⟩ : ∃ m, n = m + 1 := ⟨n - 1, by omega⟩
  show sumN _ (m + 1 + 1) = _
  rw [sum_first, sum_first, sum_zero fun i _ => by show (0 : Rat) * _ = 0; exact Rat.zero_mul _]
  show (0 : Rat) * _ + (1 * powS f 1 (m + 1) + 0) = _
  rw [powS_one]
  grind
theorem mulS_x (f : Ser) : ∀ n, mulS f xS (n + 1) = f n := fun n => by
  rw [mulS_comm]
  show sumN _ (n + 1 + 1) = _
  rw [sum_first, sum_first, sum_zero fun i _ => by show (0 : Rat) * _ = 0; exact Rat.zero_mul _]
  show (0 : Rat) * _ + (1 * f n + 0) = _
  grind
theorem powS_x : ∀ k n, powS xS k n = if n = k then 1 else 0
  | 0, n => rfl
  | k + 1, 0 => powS_low rfl (k + 1) 0 (Nat.succ_pos k)
  | k + 1, n + 1 => by
    show mulS (powS xS k) xS (n + 1) = _
    rw [mulS_x, powS_x k n]
    by_cases c : n = k
    · rw [if_pos c, if_pos (by omega)]
    · rw [if_neg c, if_neg (by omega)]
theorem cmpS_xr (u : Ser) : cmpS u xS = u := by
  funext n
  show sumN _ n + u n * powS xS n n = _
  rw [powS_x, if_pos rfl, sum_zero fun i hi => by rw [powS_x, if_neg (by omega), Rat.mul_zero], Rat.zero_add, Rat.mul_one]
/-! only the beginning counts -/
def EqTo (n : Nat) (f g : Ser) : Prop := ∀ i, i < n → f i = g i
theorem EqTo.symm {n : Nat} {f g : Ser} (h : EqTo n f g) : EqTo n g f := fun i hi => (h i hi).symm
theorem EqTo.trans {n : Nat} {f g k : Ser} (h : EqTo n f g) (h' : EqTo n g k) : EqTo n f k := fun i hi => (h i hi).trans (h' i hi)
theorem EqTo.le {n m : Nat} {f g : Ser} (h : EqTo n f g) (l : m ≤ n) : EqTo m f g := fun i hi => h i (by omega)
theorem EqTo.mul {n : Nat} {f g k l : Ser} (h : EqTo n f g) (h' : EqTo n k l) : EqTo n (mulS f k) (mulS g l) := fun i hi => sum_congr fun j hj => by rw [h j (by omega), h' (i - j) (by omega)]
theorem EqTo.pow {n : Nat} {f g : Ser} (h : EqTo n f g) : ∀ k, EqTo n (powS f k) (powS g k)
  | 0 => fun _ _ => rfl
  | k + 1 => (EqTo.pow h k).mul h
theorem EqTo.cmp {n : Nat} {u w f g : Ser} (h : EqTo n u w) (h' : EqTo n f g) : EqTo n (cmpS u f) (cmpS w g) := fun i hi => sum_congr fun j hj => by rw [h j (by omega), h'.pow j i hi]
/-! ### lists as series -/
def ser (qs : List Rat) : Ser := fun i => qs.getD i 0
def toL (n : Nat) (f : Ser) : List Rat := (List.range n).map f
theorem toL_len (n : Nat) (f : Ser) : (toL n f).length = n := by unfold toL; rw [List.length_map, List.length_range]
theorem toL_get {n i : Nat} {f : Ser} (h : i < n) : (toL n f)[i]? = some (f i) := by
  unfold toL
  rw [List.getElem?_map, List.getElem?_range h]
  rfl
theorem ser_toL {n : Nat} {f : Ser} : EqTo n (ser (toL n f)) f := fun i hi => by
  show List.getD _ _ _ = _
  rw [List.getD_eq_getElem?_getD, toL_get hi]
  rfl
theorem toL_ser (qs : List Rat) : toL qs.length (ser qs) = qs := by
  apply List.ext_getElem?
  intro i
  rcases Nat.lt_or_ge i qs.length with c | c
  · rw [toL_get c]
    show some (List.getD _ _ _) = _
    rw [List.getD_eq_getElem?_getD, List.getElem?_eq_getElem c]
    rfl
  · rw [List.getElem?_eq_none c, List.getElem?_eq_none (by rw [toL_len]; exact c)]
theorem toL_eq {n : Nat} {f g : Ser} (h : EqTo n f g) : toL n f = toL n g := List.map_congr_left fun i hi => h i (List.mem_range.mp hi)
theorem toL_inj {n : Nat} {f g : Ser} (h : toL n f = toL n g) : EqTo n f g := fun i hi => by
  have := congrArg (fun l : List Rat => l[i]?) h
  rw [toL_get hi, toL_get hi] at this
  exact Option.some.inj this
theorem cvT_sum (us ws : List Rat) (k : Nat) : ∀ j, cvT us ws k j = sumN (fun i => ser us i * ser ws (k - i)) j
  | 0 => rfl
  | j + 1 => by
    show cvT us ws k j + _ = _
    rw [cvT_sum us ws k j]
    rfl
theorem mulL_ser (us ws : List Rat) : mulL us ws = toL us.length (mulS (ser us) (ser ws)) := List.map_congr_left fun k _ => cvT_sum us ws k (k + 1)
theorem toL_take {n m : Nat} (f : Ser) (h : m ≤ n) : (toL n f).take m = toL m f := by
  unfold toL
  rw [← List.map_take, List.take_range, Nat.min_eq_left h]
theorem mulL_toL {n : Nat} (f g : Ser) : mulL (toL n f) (toL n g) = toL n (mulS f g) := by
  rw [mulL_ser, toL_len]
  exact toL_eq (ser_toL.mul ser_toL)
end Kx
end
section
set_option maxHeartbeats 4000000
namespace Kx
open PySem PySem.Spec PyProof.Rows L2
/-- the sum of the first products -/
def dotT (us ws : List Rat) : Nat → Rat
  | 0 => 0
  | j + 1 => dotT us ws j + us.getD j 0 * ws.getD j 0
theorem dotT_sum (us ws : List Rat) : ∀ n, dotT us ws n = sumN (fun i => ser us i * ser ws i) n
  | 0 => rfl
  | n + 1 => by
    show dotT us ws n + _ = _
    rw [dotT_sum us ws n]
    rfl
def dotL (us ws : List Rat) : Rat := dotT us ws (min us.length ws.length)
theorem dotT_z {b : Bs} {e g : Nat} {us ws : List Rat} (h : AllZ b e us) (h' : AllZ b g ws) : ∀ j, Zw b (e + g) j 1024 (dotT us ws j)
  | 0 => Zw.zero
  | j + 1 => (dotT_z h h' j).add ((h.getD j).mul (h'.getD j))
theorem prod_up {a b : Rat} {S : Nat} (h : a.den * b.den ∣ S) : ((a.num * b.num * ((S : Int) / ((a.den : Int) * (b.den : Int))) : Int) : Rat) = a * b * (S : Rat) := by
  obtain ⟨k, rfl⟩ := h
  have hd : ((a.den * b.den : Nat) : Int) ≠ 0 := by
    have := Nat.mul_ne_zero a.den_nz b.den_nz
    omega
  have e : (((a.den * b.den * k : Nat) : Int) / ((a.den : Int) * (b.den : Int))) = (k : Int) := by
    rw [← Int.natCast_mul, Int.natCast_mul (a.den * b.den) k, Int.mul_ediv_cancel_left _ hd]
  rw [e]
  have ha := up_val (q := a) (L := a.den) (Nat.dvd_refl _)
  have hb := up_val (q := b) (L := b.den) (Nat.dvd_refl _)
  rw [Int.ediv_self (den_ne a), Int.mul_one] at ha
  rw [Int.ediv_self (den_ne b), Int.mul_one] at hb
  rw [Rat.intCast_mul, Rat.intCast_mul, ha, hb, Rat.natCast_mul, Rat.natCast_mul]
  have : ((k : Int) : Rat) = (k : Rat) := rfl
  rw [this]
  grind
theorem quo_up {u : Int} {L S : Nat} {r : Rat} (h : L ∣ S) (L0 : 0 < L) (hu : (u : Rat) = r * (L : Rat)) : ((u * ((S : Int) / (L : Int)) : Int) : Rat) = r * (S : Rat) := by
  obtain ⟨k, rfl⟩ := h
  have e : (((L * k : Nat) : Int) / (L : Int)) = (k : Int) := by
    rw [Int.natCast_mul, Int.mul_ediv_cancel_left _ (by omega)]
  rw [e, Rat.intCast_mul, hu, Rat.natCast_mul]
  have : ((k : Int) : Rat) = (k : Rat) := rfl
  rw [this]
  grind
theorem div_of {u : Int} {L : Nat} {r : Rat} (L0 : 0 < L) (hu : (u : Rat) = r * (L : Rat)) : Rat.divInt u (L : Int) = r := by
  rw [Rat.divInt_eq_div, hu]
  have lz : (L : Rat) ≠ 0 := by
    intro z
    have : L = 0 := by exact_mod_cast z
    omega
  show r * (L : Rat) / (((L : Int)) : Rat) = r
  have : (((L : Int)) : Rat) = (L : Rat) := rfl
  rw [this]
  grind
def spDot (K : PySem.W.Frag) : Sp := fun vs H Q _ => ∃ (x y : V) (qs rs : List Rat) (b : Bs) (e g : Nat), vs = [x, y] ∧ Ls K H x qs ∧ Ls K H y rs ∧ min qs.length rs.length ≤ 32 ∧ b.m * (e + g) ≤ 6000 ∧ AllZ b e qs ∧ AllZ b g rs ∧ GivesQ H Q (dotL qs rs)
abbrev nDt : List Str := ["ones", "others", "upper", "lower", "a", "b", "c", "d", "shared"]
section
variable {P : Program} {w : World} {K : PySem.W.Frag} {mg : Str → Option Value} {base : Heap} {f fL o0 : Addr} {fd fdL : FuncData}
theorem scDt : FnScope nDt ["ones", "others"] (defScope F_dot) := ⟨rfl, rfl, rfl, by decide +kernel, rfl, by decide +kernel, by decide +kernel⟩
theorem ok_dot (F : Fun K "dot" "dot" F_dot f fd) (mz : mg "zip" = none) (mLc : mg "lcm" = some (.builtin "math.lcm")) (UR : Use P w K mg base CX0 1 "ratio" ["upper", "lower"] spLowQ []) : FnOk P w K mg base CX0 2 f fd ["ones", "others"] (spDot K) := by
  refine F.ok scDt (fun vs H Q E h => ?_) (fun cdv A outer s H vs Q E hr h => ?_)
  · obtain ⟨x, y, qs, rs, bs, e, g, rfl, _⟩ := h
    rfl
  obtain ⟨x, y, qs, rs, bs, e, g, rfl, ⟨xa, xs, rfl, hx, nx⟩, ⟨ya, ys, rfl, hy, ny⟩, l1, eg, bq, br, q⟩ := h
  have el : bs.m * e ≤ 6000 := Nat.le_trans (Nat.mul_le_mul_left _ (Nat.le_add_right e g)) eg
  have gl : bs.m * g ≤ 6000 := Nat.le_trans (Nat.mul_le_mul_left _ (Nat.le_add_left g e)) eg
  refine ⟨_, pss_cons (ps_asg (pe_tup (pa_cons pe_int (pa_cons pe_int pa_nil))) (pg_tup rfl (pgs_cons (pg_name (i := 2) scDt.nd rfl (Or.inl rfl)) (pgs_cons (pg_name (i := 3) scDt.nd rfl (Or.inl rfl)) pgs_nil))))
    (pss_cons (ps_for PassesOwn.never rfl (pi_zip rfl mz (pa_cons (pv 0) (pa_cons (pv 1) pa_nil))) (pg_tup rfl (pgs_cons (pg_tup rfl (pgs_cons (pg_name (i := 4) scDt.nd rfl (Or.inl rfl)) (pgs_cons (pg_name (i := 5) scDt.nd rfl (Or.inl rfl)) pgs_nil))) (pgs_cons (pg_tup rfl (pgs_cons (pg_name (i := 6) scDt.nd rfl (Or.inl rfl)) (pgs_cons (pg_name (i := 7) scDt.nd rfl (Or.inl rfl)) pgs_nil))) pgs_nil)))
      (pss_one (ps_if (PW.pt (pw_and (pt_cmpR op_ne (pv 4) pe_int (nomark _)) (pw_and1 (pt_cmpR op_ne (pv 6) pe_int (nomark _)))))
        (pss_cons (ps_set (i := 8) scDt.nd rfl (Or.inl rfl) (pe_callBfun cr_lcm rfl mLc (pa_cons (pv 3) (pa_cons (pe_op op_mulW (pv 5) (pv 7)) pa_nil))))
        (pss_cons (ps_set (i := 2) scDt.nd rfl (Or.inl rfl) (pe_op op_add (pe_op op_mulW (pv 2) (pe_op op_fdivA (pv 8) (pv 3))) (pe_op op_mulW (pe_op op_mulW (pv 4) (pv 6)) (pe_op op_fdivA (pv 8) (pe_op op_mulW (pv 5) (pv 7))))))
        (pss_one (ps_set (i := 3) scDt.nd rfl (Or.inl rfl) (pv 8))))) pss_nil)))
    (pss_one (ps_ret (pe_use UR hr rfl pass0 (pa_cons (pv 2) (pa_cons (pv 3) pa_nil)))))), ?_⟩
  refine ⟨(by show 2 ≤ sizeLine; decide), fun t0 n0 => ?_⟩
  have s0 := new_same n0 (HO.tup [.int 0, .int 1])
  refine ⟨t0, _, rfl, SqT.of upd_same, rfl, _, _, rfl, _, _, rfl, rfl, ?_⟩
  generalize upd H t0 (HO.tup [.int 0, .int 1]) = H0 at s0
  have lx : xs.length = qs.length := nx.1
  have ly : ys.length = rs.length := ny.1
  refine ⟨_, rfl, _, rfl, xa, ya, xs, ys, rfl, SqL.of (s0 _ _ hx), SqL.of (s0 _ _ hy), ?_⟩
  refine for_it (walk_zip (K := K) (a := xa) (b := ya) (xs := xs) (ys := ys) (n := min xs.length ys.length) rfl) (fun i σ H' => Same H H' ∧ ∃ (u : Int) (L : Nat) (v4 v5 v6 v7 v8 : Option V), σ = [some (.ref xa), some (.ref ya), some (.int u), some (.int (L : Nat)), v4, v5, v6, v7, v8] ∧ L ∣ bs.D ^ (e + g) ∧ (u : Rat) = dotT qs rs i * (L : Rat)) ⟨s0, 0, 1, none, none, none, none, none, rfl, Nat.one_dvd _, (by show ((0 : Int) : Rat) = 0 * _; rw [Rat.zero_mul]; rfl)⟩ (fun i σ H' _ h => ⟨SqL.of (h.1 _ _ hx), SqL.of (h.1 _ _ hy)⟩) ?_ ?_
  · rintro i z σ H3 H4 hi ⟨s3, u, L, v4, v5, v6, v7, v8, rfl, dL, hu⟩ ⟨T, y, z, rfl, hT, rfl, ey, ez⟩
    have sT := new_same hT (.tup [y, z])
    obtain ⟨a, ea, na⟩ := nx.get ey
    obtain ⟨b, eb, nb⟩ := ny.get ez
    obtain ⟨va, rfl, sa, _⟩ := (na.same (s3.trans sT)).sq
    obtain ⟨vb, rfl, sb, _⟩ := (nb.same (s3.trans sT)).sq
    have za := bq a (List.mem_of_getElem? ea)
    have zb := br b (List.mem_of_getElem? eb)
    have ba : Bq 6001 a := za.bqn (by omega)
    have bb : Bq 6001 b := zb.bqn (by omega)
    have L0 : 0 < L := Nat.pos_of_dvd_of_pos dL (pD_pos _ _)
    have nxt : dotT qs rs (i + 1) = dotT qs rs i + a * b := by
      show _ + List.getD _ _ _ * List.getD _ _ _ = _
      rw [List.getD_eq_getElem?_getD, List.getD_eq_getElem?_getD, ea, eb]
      rfl
    refine ⟨T, _, rfl, SqT.of upd_same, rfl, _, _, rfl, va, _, rfl, sa, rfl, _, _, rfl, _, _, rfl, rfl, _, _, rfl, vb, _, rfl, sb, rfl, _, _, rfl, _, _, rfl, rfl, rfl, ?_⟩
    have skip : a * b = 0 → L ∣ bs.D ^ (e + g) ∧ (u : Rat) = dotT qs rs (i + 1) * (L : Rat) := fun z => ⟨dL, by rw [nxt, z, Rat.add_zero]; exact hu⟩
    refine ⟨_, rfl, rfl, _, rfl, ?_⟩
    by_cases ca : a.num = 0
    · have z : a = 0 := Rat.num_eq_zero.mp ca
      rw [decide_eq_true (congrArg V.int ca)]
      exact iteF (iteF ⟨s3.trans sT, u, L, _, _, _, _, _, rfl, skip (by rw [z, Rat.zero_mul])⟩)
    rw [decide_eq_false (fun e => ca (V.int.inj e))]
    refine iteT ⟨_, rfl, rfl, _, rfl, ?_⟩
    by_cases cb : b.num = 0
    · have z : b = 0 := Rat.num_eq_zero.mp cb
      rw [decide_eq_true (congrArg V.int cb)]
      exact iteF ⟨s3.trans sT, u, L, _, _, _, _, _, rfl, skip (by rw [z, Rat.mul_zero])⟩
    rw [decide_eq_false (fun e => cb (V.int.inj e))]
    have dd : a.den * b.den ∣ bs.D ^ (e + g) := by
      rw [Nat.pow_add]
      exact Nat.mul_dvd_mul za.dvd zb.dvd
    have d0 : 0 < a.den * b.den := Nat.pos_of_dvd_of_pos dd (pD_pos _ _)
    have Lb := lcm_lt dL eg
    have db := lcm_lt dd eg
    have S0 : Nat.lcm L (a.den * b.den) ∣ bs.D ^ (e + g) := Nat.lcm_dvd dL dd
    have d1 := Nat.dvd_lcm_left L (a.den * b.den)
    have d2 := Nat.dvd_lcm_right L (a.den * b.den)
    have Sb := lcm_lt S0 eg
    refine iteT ⟨_, rfl, _, rfl, _, rfl, _, _, rfl, rfl, wide_mul ba.dn bb.dn (by decide) (by decide) (by decide), L, a.den * b.den, rfl, Nat.lt_of_lt_of_le Lb (Nat.pow_le_pow_right (by decide) (by decide)), Nat.lt_of_lt_of_le db (Nat.pow_le_pow_right (by decide) (by decide)), L0, d0, ?_⟩
    have ub : u.natAbs < 2 ^ 6010 := by
      have h1 := (dotT_z bq br i).up (by decide) dL hu
      have h2 : 2 ^ (bs.m * (e + g)) ≤ 2 ^ 6000 := Nat.pow_le_pow_right (by decide) (by omega)
      have h3 : i * 2 ^ (bs.m * (e + g)) ≤ 32 * 2 ^ 6000 := Nat.mul_le_mul (by omega) h2
      have h4 : 32 * 2 ^ 6000 < 2 ^ 6010 := by
        rw [show (6010 : Nat) = 10 + 6000 by rfl, Nat.pow_add]
        exact Nat.mul_lt_mul_of_pos_right (by decide) (Nat.pow_pos (by decide))
      omega
    generalize Nat.lcm L (a.den * b.den) = S at *
    have cd : ((S : Nat) : Int) / ((L : Nat) : Int) = ((S / L : Nat) : Int) := rfl
    have ce : ((S : Nat) : Int) / (((a.den : Nat) : Int) * ((b.den : Nat) : Int)) = ((S / (a.den * b.den) : Nat) : Int) := rfl
    have q1 := quo_up d1 L0 hu
    have q2 := prod_up (a := a) (b := b) d2
    refine ⟨_, rfl, _, rfl, _, rfl, (S : Nat), (L : Nat), rfl, rfl, ⟨by omega, Nat.lt_trans (log_bd (by rw [Int.natAbs_natCast]; exact Lb) (by decide)) (by decide)⟩, _, _, rfl, rfl, ?_, ?_⟩
    · rw [Int.fdiv_eq_ediv_of_nonneg _ (by omega), cd]
      refine wide_mul (b := 6001) ub ?_ (by decide) (by decide) (by decide)
      rw [Int.natAbs_natCast]
      exact Nat.lt_of_le_of_lt (Nat.div_le_self _ _) Sb
    refine ⟨_, rfl, _, rfl, a.num, b.num, rfl, rfl, wide_mul ba.1 bb.1 (by decide) (by decide) (by decide), _, rfl, _, rfl, _, rfl, (a.den : Nat), (b.den : Nat), rfl, rfl, wide_mul ba.dn bb.dn (by decide) (by decide) (by decide), (S : Nat), _, rfl, rfl, ⟨by omega, Nat.lt_trans (log_bd (n := 6001) (by rw [← Int.natCast_mul, Int.natAbs_natCast]; exact db) (by decide)) (by decide)⟩, _, _, rfl, rfl, ?_, ?_⟩
    · rw [Int.fdiv_eq_ediv_of_nonneg _ (by omega), ce]
      refine wide_mul (b := 6001) (lt_mul ba.1 bb.1) ?_ (by decide) (by decide) (by decide)
      rw [Int.natAbs_natCast]
      exact Nat.lt_of_le_of_lt (Nat.div_le_self _ _) Sb
    rw [Int.fdiv_eq_ediv_of_nonneg _ (by omega), Int.fdiv_eq_ediv_of_nonneg _ (by omega)]
    refine ⟨_, _, rfl, rfl, _, rfl, s3.trans sT, _, S, _, _, _, _, _, rfl, S0, ?_⟩
    rw [nxt, Rat.intCast_add, q1, q2]
    grind
  · rintro σ H3 ⟨s3, u, L, v4, v5, v6, v7, v8, rfl, dL, hu⟩
    have L0 : 0 < L := Nat.pos_of_dvd_of_pos dL (pD_pos _ _)
    rw [lx, ly] at hu
    refine ⟨_, rfl, _, rfl, u, (L : Nat), rfl, by omega, Nat.lt_trans (log_bd (n := 6001) (by rw [Int.natAbs_natCast]; exact lcm_lt dL eg) (by decide)) (by decide), fun t H4 s4 n4 h4 => ?_⟩
    rw [div_of L0 hu] at h4
    exact q t H4 (s3.trans s4) (s3.free n4) h4
end
end Kx
end
section
set_option maxHeartbeats 4000000
namespace Kx
open PySem PySem.Spec PyProof.Rows L2
/-! ### xs[k:0:-1] -/
def segL {α : Type} (xs : List α) (k : Nat) : List α := ((xs.take (k + 1)).drop 1).reverse
theorem segL_len {α : Type} {xs : List α} {k : Nat} (h : k < xs.length) : (segL xs k).length = k := by
  unfold segL
  rw [List.length_reverse, List.length_drop, List.length_take]
  omega
theorem segL_succ {α : Type} {xs : List α} {k : Nat} {x : α} (h : xs[k + 1]? = some x) : segL xs (k + 1) = x :: segL xs k := by
  unfold segL
  have hl : k + 1 < xs.length := by
    rcases Nat.lt_or_ge (k + 1) xs.length with c | c
    · exact c
    · rw [List.getElem?_eq_none c] at h; cases h
  rw [List.take_add_one (i := k + 1), h, List.drop_append_of_le_length (by rw [List.length_take]; omega), List.reverse_append]
  rfl
theorem segL_get {α : Type} {xs : List α} : ∀ {k : Nat}, k < xs.length → ∀ j, j < k → (segL xs k)[j]? = xs[k - j]?
  | 0, _, j, hj => absurd hj (Nat.not_lt_zero _)
  | k + 1, h, j, hj => by
    obtain ⟨x, hx⟩ : ∃ x, xs[k + 1]? = some x := ⟨_, List.getElem?_eq_getElem h⟩
    rw [segL_succ hx]
    match j, hj with
    | 0, _ => exact hx.symm
    | j + 1, hj =>
      show (segL xs k)[j]? = _
      rw [segL_get (by omega) j (by omega), show k + 1 - (j + 1) = k - j by omega]
theorem back_pick (its : List Value) : ∀ k : Nat, k < its.length → slicePick its.toArray (some ((k : Nat) : Int)) (some 0) (some (-1)) = (segL its k).toArray := by
  intro k hk
  have hb : sliceBounds (some ((k : Nat) : Int)) (some 0) (some (-1)) its.toArray.size = (((k : Nat) : Int), 0, -1) := by
    have e : its.toArray.size = its.length := List.size_toArray
    simp only [sliceBounds, Option.getD_some, e]
    rw [if_neg (show ¬ ((-1 : Int) > 0) by decide), if_neg (show ¬ ((-1 : Int) > 0) by decide)]
    rw [if_neg (show ¬ (((k : Nat) : Int) < 0) by omega), if_neg (show ¬ ((0 : Int) < 0) by decide)]
    congr 1
    · omega
    · congr 1
      omega
  unfold slicePick
  rw [hb]
  show ((sliceRange ((k : Nat) : Int) 0 (-1)).filterMap (its.toArray[·]?)).toArray = _
  congr 1
  have hr : sliceRange ((k : Nat) : Int) 0 (-1) = (List.range k).map fun j => k - j := by
    unfold sliceRange
    rw [if_neg (show ¬ ((-1 : Int) > 0) by decide)]
    have hc : (if ((k : Nat) : Int) > 0 then (((k : Nat) : Int) - 0 - (-1) - 1) / (- (-1)) else 0 : Int).toNat = k := by
      by_cases c : ((k : Nat) : Int) > 0
      · rw [if_pos c, show (((k : Nat) : Int) - 0 - (-1) - 1) = (k : Int) by omega, show (-(-1) : Int) = 1 by decide, Int.ediv_one, Int.toNat_natCast]
      · rw [if_neg c]
        show 0 = k
        omega
    show List.map _ (List.range (if ((k : Nat) : Int) > 0 then (((k : Nat) : Int) - 0 - (-1) - 1) / (- (-1)) else 0 : Int).toNat) = _
    rw [hc]
    exact List.map_congr_left fun j hj => by
      have := List.mem_range.mp hj
      omega
  rw [hr]
  clear hr hb
  induction k with
  | zero =>
    cases its with
    | nil => exact absurd hk (Nat.not_lt_zero _)
    | cons y ys => rfl
  | succ k ih =>
    obtain ⟨x, hx⟩ : ∃ x, its[k + 1]? = some x := ⟨_, List.getElem?_eq_getElem hk⟩
    rw [segL_succ hx, List.range_succ_eq_map, List.map_cons, List.map_map, List.filterMap_cons]
    have e0 : its.toArray[k + 1 - 0]? = some x := by
      rw [List.getElem?_toArray]
      exact hx
    rw [e0]
    show x :: _ = _
    congr 1
    rw [← ih (by omega)]
    congr 1
    exact List.map_congr_left fun j _ => by show k + 1 - (j + 1) = k - j; omega
def tBackL (K : PySem.W.Frag) (te tk : TE) : TE := fun σ H Q => te σ H fun x H1 => tPart tk σ H1 fun o H2 => ∃ (a : Addr) (xs : List V) (k : Nat), x = .ref a ∧ o = some ((k : Nat) : Int) ∧ SqL K H2 a xs ∧ k < xs.length ∧ ∀ p, H2 p = none → Q (.ref p) (upd H2 p (.lst (segL xs k)))
theorem pe_backL {X : Cx} {e ek : Expr} {te tk : TE} {k j : Nat} {p0 p1 p2 p3 pos : Pos} (he : PE X e te) (hk : PE X ek tk) : PE X (.Subscript e (.Slice (some ek) (some (.Constant (.int 0) j p0)) (some (.UnaryOp .USub (.Constant (.int 1) k p1) p2)) p3) pos) (tBackL X.K te tk) := by
  refine ⟨fun pins s σ H Q I h => ?_⟩
  refine Subscript_ (thn (he.run pins s σ H _ I h) fun v s1 ⟨x, H1, I1, r1, q1⟩ => ?_)
  have hst : PO X (some (.UnaryOp .USub (.Constant (.int 1) k p1) p2)) (tPart (tUn (rU fun i => .int (-i)) (tC (.int 1)))) := po_some (pe_un un_neg pe_int)
  have hzr : PO X (some (.Constant (.int 0) j p0)) (tPart (tC (.int 0))) := po_some pe_int
  refine wpAny_Slice (thn ((po_some hk).run pins s1 σ H1 _ I1 q1) fun vl s2 ⟨l, H2, I2, pl, q2⟩ => ?_)
  obtain ⟨a, xs, n, ex, el, hx, hn, q⟩ := q2
  subst ex el
  cases r1
  refine thn (hzr.run pins s2 σ H2 (fun o H3 => o = some 0 ∧ H3 = H2) I2 ⟨0, rfl, rfl, rfl⟩) fun vu s3 ⟨u, H3, I3, pu, eu, e3⟩ => ?_
  subst eu e3
  refine thn (hst.run pins s3 σ H3 (fun o H4 => o = some (-1) ∧ H4 = H3) I3 ⟨1, rfl, -1, rfl, rfl, rfl⟩) fun vs s4 ⟨o, H4, I4, ps, eo, e4⟩ => ?_
  subst eo e4
  have I5 : Inv X pins σ H4 { s4 with heap := s4.heap.push { cls := .type "slice", data := .fields #[vl, vu, vs] } } := I4.kept (t' := s4.toks) fun b ob q => Heap.get?_push_of_some _ q
  obtain ⟨its, r, ht, hz⟩ := I5.list hx
  have hlen := r.length
  show wpAny (model X.prog X.w) X.A (subscriptTail e (.Slice (some ek) (some (.Constant (.int 0) j p0)) (some (.UnaryOp .USub (.Constant (.int 1) k p1) p2)) p3) (.ref a) (.ref s4.heap.objs.size)) (EP X pins σ Q) X.xe { s4 with heap := s4.heap.push { cls := .type "slice", data := .fields #[vl, vu, vs] } }
  refine tail_any (ops := [.ref a, .ref s4.heap.objs.size]) ht.isList.typeIs (PySem.slot_list_getitem.lookup) ?_ (by with_unfolding_all rfl)
  refine wpAny_getItem_list_slice ht.isList (Heap.IsSliceOf.new _ vl vu vs) pl pu ps (by decide) ?_ (by rw [List.size_toArray]; omega)
  rw [back_pick its n (by omega)]
  have rr : Vals (segL xs n) (segL its n) := ((r.take (n + 1)).drop 1).reverse
  refine ⟨.ref _, _, I5.laid (t' := s4.toks) (o := .lst (segL xs n)) (fun b ob q => Heap.get?_push_of_some _ q) (Nat.le_refl _) ?_, rfl, q _ (I5.hok.fresh (Nat.le_refl _))⟩
  exact ⟨by rw [segL_len hn]; omega, _, 0, rr, Heap.get?_push_size _ rfl⟩
end Kx
end
section
set_option maxHeartbeats 4000000
namespace Kx
/-! ### lists grown by their last -/
def recL (f : List Rat → Rat) : Nat → List Rat
  | 0 => []
  | k + 1 => recL f k ++ [f (recL f k)]
theorem recL_len (f : List Rat → Rat) : ∀ k, (recL f k).length = k
  | 0 => rfl
  | k + 1 => by
    show (recL f k ++ [_]).length = _
    rw [List.length_append, recL_len f k]
    rfl
theorem recL_pre (f : List Rat → Rat) (k : Nat) : ∀ n, k ≤ n → ∀ i, i < k → ser (recL f n) i = ser (recL f k) i := by
  intro n h
  induction h with
  | refl => exact fun _ _ => rfl
  | step h ih =>
    rename_i m
    intro i hi
    rw [← ih i hi]
    have l := recL_len f m
    have h' : k ≤ m := h
    show List.getD (recL f m ++ [_]) i 0 = List.getD (recL f m) i 0
    rw [List.getD_eq_getElem?_getD, List.getElem?_append_left (by omega), ← List.getD_eq_getElem?_getD]
theorem recL_at (f : List Rat → Rat) {k n : Nat} (h : k < n) : ser (recL f n) k = f (recL f k) := by
  rw [recL_pre f (k + 1) n h k (by omega)]
  show List.getD (recL f k ++ [_]) k 0 = _
  have l := recL_len f k
  rw [List.getD_eq_getElem?_getD, List.getElem?_append_right (by omega), l, Nat.sub_self]
  rfl
/-! ### slopes of series -/
def nR (k : Nat) : Rat := ((k : Nat) : Rat)
theorem nR_add (a b : Nat) : nR (a + b) = nR a + nR b := Rat.natCast_add a b
theorem nR_ne {k : Nat} (h : k ≠ 0) : nR k ≠ 0 := fun z => h (by
  have : ((k : Nat) : Rat) = 0 := z
  exact_mod_cast this)
def dS (F : Ser) : Ser := fun k => nR (k + 1) * F (k + 1)
def scS (t : Rat) (F : Ser) : Ser := fun k => t * F k
theorem mulS_scl (t : Rat) (F G : Ser) : mulS (scS t F) G = scS t (mulS F G) := by
  funext k
  show sumN (fun i => t * F i * G (k - i)) (k + 1) = t * sumN (fun i => F i * G (k - i)) (k + 1)
  rw [← sum_mul]
  exact sum_congr fun i _ => Rat.mul_assoc _ _ _
theorem mulS_scr (t : Rat) (F G : Ser) : mulS F (scS t G) = scS t (mulS F G) := by rw [mulS_comm, mulS_scl, mulS_comm]
theorem mulS_addr (F G H : Ser) : mulS F (addS G H) = addS (mulS F G) (mulS F H) := by rw [mulS_comm, mulS_add, mulS_comm G, mulS_comm H]
theorem dS_mul (F G : Ser) : dS (mulS F G) = addS (mulS (dS F) G) (mulS F (dS G)) := by
  funext k
  show nR (k + 1) * sumN (fun i => F i * G (k + 1 - i)) (k + 1 + 1) = sumN (fun i => nR (i + 1) * F (i + 1) * G (k - i)) (k + 1) + sumN (fun i => F i * (nR (k - i + 1) * G (k - i + 1))) (k + 1)
  rw [← sum_mul]
  have e : sumN (fun i => nR (k + 1) * (F i * G (k + 1 - i))) (k + 1 + 1) = sumN (fun i => nR i * F i * G (k + 1 - i)) (k + 1 + 1) + sumN (fun i => F i * (nR (k + 1 - i) * G (k + 1 - i))) (k + 1 + 1) := by
    rw [← sum_add]
    refine sum_congr fun i hi => ?_
    have : nR (k + 1) = nR i + nR (k + 1 - i) := by rw [← nR_add, show i + (k + 1 - i) = k + 1 by omega]
    rw [this]
    grind
  rw [e]
  congr 1
  · rw [sum_first]
    have z : nR 0 * F 0 * G (k + 1 - 0) = 0 := by
      show ((0 : Nat) : Rat) * F 0 * _ = 0
      rw [show ((0 : Nat) : Rat) = 0 from rfl, Rat.zero_mul, Rat.zero_mul]
    rw [z, Rat.zero_add]
    exact sum_congr fun i hi => by rw [show k + 1 - (i + 1) = k - i by omega]
  · show sumN _ (k + 1) + F (k + 1) * (nR (k + 1 - (k + 1)) * G (k + 1 - (k + 1))) = _
    rw [Nat.sub_self]
    have z : F (k + 1) * (nR 0 * G 0) = 0 := by
      show F (k + 1) * (((0 : Nat) : Rat) * G 0) = 0
      rw [show ((0 : Nat) : Rat) = 0 from rfl, Rat.zero_mul, Rat.mul_zero]
    rw [z, Rat.add_zero]
    exact sum_congr fun i hi => by rw [show k + 1 - i = k - i + 1 by omega]
theorem EqTo.dS {n : Nat} {F G : Ser} (h : EqTo (n + 1) F G) : EqTo n (dS F) (dS G) := fun i hi => by
  show nR _ * F _ = nR _ * G _
  rw [h (i + 1) (by omega)]
theorem EqTo.sc {n : Nat} {F G : Ser} (h : EqTo n F G) (t : Rat) : EqTo n (scS t F) (scS t G) := fun i hi => by
  show t * F i = t * G i
  rw [h i hi]
theorem EqTo.add {n : Nat} {F G K L : Ser} (h : EqTo n F G) (h' : EqTo n K L) : EqTo n (addS F K) (addS G L) := fun i hi => by
  show F i + K i = G i + L i
  rw [h i hi, h' i hi]
theorem EqTo.refl (n : Nat) (F : Ser) : EqTo n F F := fun _ _ => rfl
/-- division is unique -/
theorem div_uni {X Y U : Ser} {n : Nat} (u0 : U 0 ≠ 0) (h : EqTo n (mulS X U) (mulS Y U)) : EqTo n X Y := by
  intro k
  induction k using Nat.strongRecOn with
  | _ k ih =>
    intro hk
    have e := h k hk
    have e2 : sumN (fun i => X i * U (k - i)) k + X k * U (k - k) = sumN (fun i => Y i * U (k - i)) k + Y k * U (k - k) := e
    rw [Nat.sub_self, sum_congr (f := fun i => X i * U (k - i)) (g := fun i => Y i * U (k - i)) fun i hi => by rw [ih i hi (by omega)]] at e2
    have e3 : X k * U 0 = Y k * U 0 := by grind
    have e4 : X k * U 0 / U 0 = Y k * U 0 / U 0 := by rw [e3]
    rw [Rat.mul_div_cancel u0, Rat.mul_div_cancel u0] at e4
    exact e4
/-- growth by a rate is unique -/
theorem ode_uni {P P' Q : Ser} {n : Nat} (p0 : P 0 = P' 0) (h : EqTo n (dS P) (mulS Q P)) (h' : EqTo n (dS P') (mulS Q P')) : EqTo (n + 1) P P' := by
  intro k
  induction k using Nat.strongRecOn with
  | _ k ih =>
    intro hk
    match k, ih, hk with
    | 0, _, _ => exact p0
    | k + 1, ih, hk =>
      have e := h k (by omega)
      have e' := h' k (by omega)
      have s : mulS Q P k = mulS Q P' k := sum_congr fun i hi => by rw [ih (k - i) (by omega) (by omega)]
      have e2 : nR (k + 1) * P (k + 1) = nR (k + 1) * P' (k + 1) := by
        show dS P k = dS P' k
        rw [e, e', s]
      have n0 := nR_ne (show k + 1 ≠ 0 by omega)
      have e4 : P (k + 1) * nR (k + 1) / nR (k + 1) = P' (k + 1) * nR (k + 1) / nR (k + 1) := by rw [Rat.mul_comm, e2, Rat.mul_comm]
      rw [Rat.mul_div_cancel n0, Rat.mul_div_cancel n0] at e4
      exact e4
theorem ext_ser {us ws : List Rat} (l : us.length = ws.length) (h : EqTo us.length (ser us) (ser ws)) : us = ws := by
  rw [← toL_ser us, ← toL_ser ws, ← l]
  exact toL_eq h
/-! ### rows: slopes of the log, log, powers, one upon a row -/
theorem dot_at {us ws : List Rat} {k : Nat} (l : k ≤ us.length) (l' : ws.length = k) : dotL us ws = sumN (fun i => ser us i * ser ws i) k := by
  unfold dotL
  rw [l', Nat.min_eq_right l, dotT_sum]
theorem ser_seg {us : List Rat} {k j : Nat} (h : k < us.length) (hj : j < k) : ser (segL us k) j = ser us (k - j) := by
  show List.getD _ _ _ = List.getD _ _ _
  rw [List.getD_eq_getElem?_getD, segL_get h j hj, ← List.getD_eq_getElem?_getD]
theorem ser_rev {us : List Rat} {j : Nat} (h : j < us.length) : ser us.reverse j = ser us (us.length - 1 - j) := by
  show List.getD _ _ _ = List.getD _ _ _
  rw [List.getD_eq_getElem?_getD, List.getElem?_reverse h, ← List.getD_eq_getElem?_getD]
def lsF (us l : List Rat) : Rat := nR (l.length + 1) * us.getD (l.length + 1) 0 - dotL l (segL us l.length)
theorem lsF_eq (us l : List Rat) : lsF us l = nR (l.length + 1) * us.getD (l.length + 1) 0 - dotL l (segL us l.length) := rfl
def lsL (us : List Rat) : List Rat := recL (lsF us) (us.length - 1)
theorem lsL_len (us : List Rat) : (lsL us).length = us.length - 1 := recL_len _ _
theorem ls_eq {us : List Rat} (u0 : ser us 0 = 1) : EqTo (us.length - 1) (mulS (ser (lsL us)) (ser us)) (dS (ser us)) := fun k hk => by
  show sumN (fun i => ser (lsL us) i * ser us (k - i)) k + ser (lsL us) k * ser us (k - k) = nR (k + 1) * ser us (k + 1)
  have e : ser (lsL us) k = nR (k + 1) * ser us (k + 1) - sumN (fun i => ser (lsL us) i * ser us (k - i)) k := by
    unfold lsL
    rw [recL_at _ hk, lsF_eq, recL_len]
    congr 1
    rw [dot_at (k := k) (by rw [recL_len]; exact Nat.le_refl _) (segL_len (by omega))]
    exact sum_congr fun i hi => by rw [ser_seg (by omega) hi, recL_pre (lsF us) k (us.length - 1) (by omega) i hi]
  rw [e, Nat.sub_self, u0, Rat.mul_one]
  grind
def lgL (us : List Rat) : List Rat := 0 :: (List.range (us.length - 1)).map fun k => ser (lsL us) k / nR (k + 1)
theorem lgL_len {us : List Rat} (l : 1 ≤ us.length) : (lgL us).length = us.length := by
  unfold lgL
  rw [List.length_cons, List.length_map, List.length_range]
  omega
theorem lg_at {us : List Rat} {k : Nat} (h : k < us.length - 1) : ser (lgL us) (k + 1) = ser (lsL us) k / nR (k + 1) := by
  show List.getD ((List.range (us.length - 1)).map _) k 0 = _
  rw [List.getD_eq_getElem?_getD, List.getElem?_map, List.getElem?_range h]
  rfl
theorem lg_dS {us : List Rat} : EqTo (us.length - 1) (dS (ser (lgL us))) (ser (lsL us)) := fun k hk => by
  show nR (k + 1) * ser (lgL us) (k + 1) = _
  rw [lg_at hk, Rat.mul_comm, Rat.div_mul_cancel (nR_ne (by omega))]
def pwF (S : List Rat) (t : Rat) (l : List Rat) : Rat := if l.length = 0 then 1 else t * dotL S l.reverse / nR l.length
theorem pwF_eq (S : List Rat) (t : Rat) (l : List Rat) : pwF S t l = if l.length = 0 then 1 else t * dotL S l.reverse / nR l.length := rfl
def pwL (us : List Rat) (t : Rat) : List Rat := recL (pwF (lsL us) t) us.length
theorem pwL_len (us : List Rat) (t : Rat) : (pwL us t).length = us.length := recL_len _ _
theorem pw_zero {us : List Rat} (t : Rat) (l : 1 ≤ us.length) : ser (pwL us t) 0 = 1 := by
  unfold pwL
  rw [recL_at _ (show 0 < us.length by omega)]
  rfl
theorem pw_succ {us : List Rat} (t : Rat) {k : Nat} (h : k < us.length - 1) : ser (pwL us t) (k + 1) = t * mulS (ser (lsL us)) (ser (pwL us t)) k / nR (k + 1) := by
  have e0 : ser (pwL us t) (k + 1) = pwF (lsL us) t (recL (pwF (lsL us) t) (k + 1)) := recL_at _ (by omega)
  have l := recL_len (pwF (lsL us) t) (k + 1)
  rw [e0, pwF_eq, l, if_neg (by omega)]
  congr 2
  rw [dot_at (k := k + 1) (by rw [lsL_len]; omega) (by rw [List.length_reverse, l])]
  exact sum_congr fun i hi => by rw [ser_rev (by omega), l, show k + 1 - 1 - i = k - i by omega, ← recL_pre (pwF (lsL us) t) (k + 1) us.length (by omega) (k - i) (by omega)]; rfl
theorem pw_ode {us : List Rat} (t : Rat) : EqTo (us.length - 1) (dS (ser (pwL us t))) (mulS (scS t (ser (lsL us))) (ser (pwL us t))) := fun k hk => by
  show nR (k + 1) * ser (pwL us t) (k + 1) = _
  rw [pw_succ t hk, mulS_scl, Rat.mul_comm, Rat.div_mul_cancel (nR_ne (by omega))]
  rfl
def rcF (us l : List Rat) : Rat := if l.length = 0 then 1 / us.getD 0 0 else -(dotL l (segL us l.length)) / us.getD 0 0
theorem rcF_eq (us l : List Rat) : rcF us l = if l.length = 0 then 1 / us.getD 0 0 else -(dotL l (segL us l.length)) / us.getD 0 0 := rfl
def rcL (us : List Rat) : List Rat := recL (rcF us) us.length
theorem rcL_len (us : List Rat) : (rcL us).length = us.length := recL_len _ _
theorem rc_eq {us : List Rat} (u0 : ser us 0 ≠ 0) : EqTo us.length (mulS (ser (rcL us)) (ser us)) oneS := fun k hk => by
  show sumN (fun i => ser (rcL us) i * ser us (k - i)) k + ser (rcL us) k * ser us (k - k) = _
  have e : ser (rcL us) k = rcF us (recL (rcF us) k) := recL_at _ hk
  have l := recL_len (rcF us) k
  rw [Nat.sub_self, e, rcF_eq, l]
  clear e l
  match k, hk with
  | 0, _ =>
    rw [if_pos rfl]
    show (0 : Rat) + 1 / us.getD 0 0 * us.getD 0 0 = 1
    have u0' : us.getD 0 0 ≠ 0 := u0
    rw [Rat.div_mul_cancel u0', Rat.zero_add]
  | k + 1, hk =>
    rw [if_neg (by omega), dot_at (k := k + 1) (by rw [recL_len]; exact Nat.le_refl _) (segL_len (by omega))]
    have s : sumN (fun i => ser (recL (rcF us) (k + 1)) i * ser (segL us (k + 1)) i) (k + 1) = sumN (fun i => ser (rcL us) i * ser us (k + 1 - i)) (k + 1) := sum_congr fun i hi => by
      rw [ser_seg (by omega) hi]
      unfold rcL
      rw [recL_pre (rcF us) (k + 1) us.length (by omega) i hi]
    rw [s]
    show _ + -(_) / us.getD 0 0 * us.getD 0 0 = (0 : Rat)
    have u0' : us.getD 0 0 ≠ 0 := u0
    rw [Rat.div_mul_cancel u0']
    grind
/-! ### what stands of them -/
theorem mul_ser (us ws : List Rat) : EqTo us.length (ser (mulL us ws)) (mulS (ser us) (ser ws)) := by
  rw [mulL_ser]
  exact ser_toL
theorem mulL_len' (us ws : List Rat) : (mulL us ws).length = us.length := by unfold mulL; rw [List.length_map, List.length_range]
theorem mul_zero0 {us ws : List Rat} (l : 1 ≤ us.length) : ser (mulL us ws) 0 = ser us 0 * ser ws 0 := by
  rw [mul_ser us ws 0 (by omega)]
  show (0 : Rat) + ser us 0 * ser ws 0 = _
  rw [Rat.zero_add]
/-- the slopes of the log are told by their product -/
theorem ls_uni {us : List Rat} {S : Ser} (u0 : ser us 0 = 1) (h : EqTo (us.length - 1) (mulS S (ser us)) (dS (ser us))) : EqTo (us.length - 1) (ser (lsL us)) S :=
  div_uni (U := ser us) (by rw [u0]; decide) ((ls_eq u0).trans h.symm)
theorem ls_mul {us ws : List Rat} (l : us.length = ws.length) (l1 : 1 ≤ us.length) (u0 : ser us 0 = 1) (w0 : ser ws 0 = 1) : EqTo (us.length - 1) (ser (lsL (mulL us ws))) (addS (ser (lsL us)) (ser (lsL ws))) := by
  have m0 : ser (mulL us ws) 0 = 1 := by rw [mul_zero0 l1, u0, w0, Rat.mul_one]
  have h := ls_uni (us := mulL us ws) (S := addS (ser (lsL us)) (ser (lsL ws))) m0
  rw [mulL_len'] at h
  refine h ?_
  have e1 : EqTo (us.length - 1) (mulS (addS (ser (lsL us)) (ser (lsL ws))) (ser (mulL us ws))) (mulS (addS (ser (lsL us)) (ser (lsL ws))) (mulS (ser us) (ser ws))) := (EqTo.refl _ _).mul ((mul_ser us ws).le (by omega))
  have e2 : EqTo (us.length - 1) (dS (ser (mulL us ws))) (dS (mulS (ser us) (ser ws))) := ((mul_ser us ws).le (m := us.length - 1 + 1) (by omega)).dS
  refine e1.trans (EqTo.trans ?_ e2.symm)
  rw [mulS_add, dS_mul, ← mulS_assoc, mulS_comm (ser us) (ser ws), ← mulS_assoc (ser (lsL ws)), mulS_comm (mulS (ser (lsL ws)) (ser ws)) (ser us)]
  have h2 := ls_eq w0
  rw [← l] at h2
  exact ((ls_eq u0).mul (EqTo.refl _ _)).add ((EqTo.refl _ _).mul h2)
theorem lg_ext {us : List Rat} {ws : List Rat} (l1 : 1 ≤ us.length) (l : ws.length = us.length) (w0 : ser ws 0 = 0) (h : EqTo (us.length - 1) (ser (lsL us)) (dS (ser ws))) : lgL us = ws := by
  refine ext_ser (by rw [lgL_len l1, l]) fun k hk => ?_
  rw [lgL_len l1] at hk
  match k, hk with
  | 0, _ => exact w0.symm
  | k + 1, hk =>
    rw [lg_at (by omega), h k (by omega)]
    show nR (k + 1) * ser ws (k + 1) / nR (k + 1) = _
    rw [Rat.mul_comm, Rat.mul_div_cancel (nR_ne (by omega))]
theorem zip_ser {us ws : List Rat} (l : us.length = ws.length) : EqTo us.length (ser (us.zipWith (· + ·) ws)) (addS (ser us) (ser ws)) := fun i hi => by
  show List.getD _ _ _ = List.getD us i 0 + List.getD ws i 0
  rw [List.getD_eq_getElem?_getD, List.getElem?_zipWith, List.getD_eq_getElem?_getD, List.getD_eq_getElem?_getD, List.getElem?_eq_getElem hi, List.getElem?_eq_getElem (l := ws) (i := i) (by omega)]
  rfl
theorem lg_mul {us ws : List Rat} (l : us.length = ws.length) (l1 : 1 ≤ us.length) (u0 : ser us 0 = 1) (w0 : ser ws 0 = 1) : lgL (mulL us ws) = (lgL us).zipWith (· + ·) (lgL ws) := by
  have e := lgL_len l1
  have e' := lgL_len (us := ws) (by omega)
  have lz : ((lgL us).zipWith (· + ·) (lgL ws)).length = us.length := by rw [List.length_zipWith, e, e', l, Nat.min_self]
  have zs := zip_ser (us := lgL us) (ws := lgL ws) (by rw [e, e', l])
  rw [e] at zs
  refine lg_ext (by rw [mulL_len']; exact l1) (by rw [lz, mulL_len']) ?_ ?_
  · rw [zs 0 (by omega)]
    show (0 : Rat) + 0 = 0
    exact Rat.zero_add 0
  · rw [mulL_len']
    refine (ls_mul l l1 u0 w0).trans (EqTo.trans ?_ (zs.le (m := us.length - 1 + 1) (by omega)).dS.symm)
    intro k hk
    show ser (lsL us) k + ser (lsL ws) k = nR (k + 1) * (ser (lgL us) (k + 1) + ser (lgL ws) (k + 1))
    rw [Rat.mul_add]
    have h1 := lg_dS (us := us) k hk
    have h2 := lg_dS (us := ws) k (by omega)
    exact (congr (congrArg HAdd.hAdd h1) h2).symm
/-- a power is told by its rate -/
theorem pw_uni {us ws : List Rat} {t : Rat} (l1 : 1 ≤ us.length) (l : ws.length = us.length) (w0 : ser ws 0 = 1) (h : EqTo (us.length - 1) (dS (ser ws)) (mulS (scS t (ser (lsL us))) (ser ws))) : pwL us t = ws := by
  refine ext_ser (by rw [pwL_len, l]) ?_
  rw [pwL_len]
  have := ode_uni (by rw [pw_zero t l1, w0]) (pw_ode t) h
  rw [show us.length - 1 + 1 = us.length by omega] at this
  exact this
theorem pw_mul {us ws : List Rat} (t : Rat) (l : us.length = ws.length) (l1 : 1 ≤ us.length) (u0 : ser us 0 = 1) (w0 : ser ws 0 = 1) : pwL (mulL us ws) t = mulL (pwL us t) (pwL ws t) := by
  have lp := pwL_len us t
  refine pw_uni (by rw [mulL_len']; exact l1) (by rw [mulL_len', mulL_len', lp]) (by rw [mul_zero0 (by rw [lp]; exact l1), pw_zero t l1, pw_zero t (by omega), Rat.mul_one]) ?_
  rw [mulL_len']
  have ms := mul_ser (pwL us t) (pwL ws t)
  rw [lp] at ms
  have e1 : EqTo (us.length - 1) (dS (ser (mulL (pwL us t) (pwL ws t)))) (dS (mulS (ser (pwL us t)) (ser (pwL ws t)))) := (ms.le (m := us.length - 1 + 1) (by omega)).dS
  have pwo := pw_ode (us := ws) t
  rw [← l] at pwo
  have e2 : EqTo (us.length - 1) (dS (mulS (ser (pwL us t)) (ser (pwL ws t)))) (addS (mulS (mulS (scS t (ser (lsL us))) (ser (pwL us t))) (ser (pwL ws t))) (mulS (ser (pwL us t)) (mulS (scS t (ser (lsL ws))) (ser (pwL ws t))))) := by
    rw [dS_mul]
    exact ((pw_ode t).mul (EqTo.refl _ _)).add ((EqTo.refl _ _).mul pwo)
  have e3 : EqTo (us.length - 1) (mulS (scS t (ser (lsL (mulL us ws)))) (ser (mulL (pwL us t) (pwL ws t)))) (mulS (scS t (addS (ser (lsL us)) (ser (lsL ws)))) (mulS (ser (pwL us t)) (ser (pwL ws t)))) := ((ls_mul l l1 u0 w0).sc t).mul (ms.le (by omega))
  refine (e1.trans e2).trans (EqTo.trans ?_ e3.symm)
  intro k _
  have f : scS t (addS (ser (lsL us)) (ser (lsL ws))) = addS (scS t (ser (lsL us))) (scS t (ser (lsL ws))) := by
    funext i
    exact Rat.mul_add _ _ _
  rw [f, mulS_add, mulS_assoc, ← mulS_assoc (ser (pwL us t)), mulS_comm (ser (pwL us t)) (scS t (ser (lsL ws))), mulS_assoc (scS t (ser (lsL ws)))]
theorem pw_add {us : List Rat} (s t : Rat) (l1 : 1 ≤ us.length) : pwL us (s + t) = mulL (pwL us s) (pwL us t) := by
  have lp := pwL_len us s
  refine pw_uni l1 (by rw [mulL_len', lp]) (by rw [mul_zero0 (by rw [lp]; exact l1), pw_zero s l1, pw_zero t l1, Rat.mul_one]) ?_
  have ms := mul_ser (pwL us s) (pwL us t)
  rw [lp] at ms
  have e1 : EqTo (us.length - 1) (dS (ser (mulL (pwL us s) (pwL us t)))) (dS (mulS (ser (pwL us s)) (ser (pwL us t)))) := (ms.le (m := us.length - 1 + 1) (by omega)).dS
  have e2 : EqTo (us.length - 1) (dS (mulS (ser (pwL us s)) (ser (pwL us t)))) (addS (mulS (mulS (scS s (ser (lsL us))) (ser (pwL us s))) (ser (pwL us t))) (mulS (ser (pwL us s)) (mulS (scS t (ser (lsL us))) (ser (pwL us t))))) := by
    rw [dS_mul]
    exact ((pw_ode s).mul (EqTo.refl _ _)).add ((EqTo.refl _ _).mul (pw_ode t))
  have e3 : EqTo (us.length - 1) (mulS (scS (s + t) (ser (lsL us))) (ser (mulL (pwL us s) (pwL us t)))) (mulS (scS (s + t) (ser (lsL us))) (mulS (ser (pwL us s)) (ser (pwL us t)))) := (EqTo.refl _ _).mul (ms.le (by omega))
  refine (e1.trans e2).trans (EqTo.trans ?_ e3.symm)
  intro k _
  have f : scS (s + t) (ser (lsL us)) = addS (scS s (ser (lsL us))) (scS t (ser (lsL us))) := by
    funext i
    exact Rat.add_mul _ _ _
  rw [f, mulS_add, mulS_assoc, ← mulS_assoc (ser (pwL us s)), mulS_comm (ser (pwL us s)) (scS t (ser (lsL us))), mulS_assoc (scS t (ser (lsL us)))]
theorem ls_pw {us : List Rat} (s : Rat) (l1 : 1 ≤ us.length) : EqTo (us.length - 1) (ser (lsL (pwL us s))) (scS s (ser (lsL us))) := by
  have h := ls_uni (us := pwL us s) (S := scS s (ser (lsL us))) (pw_zero s l1)
  rw [pwL_len] at h
  exact h (pw_ode s).symm
theorem pw_pw {us : List Rat} (s t : Rat) (l1 : 1 ≤ us.length) : pwL (pwL us s) t = pwL us (s * t) := by
  symm
  refine pw_uni l1 (by rw [pwL_len, pwL_len]) (pw_zero t (by rw [pwL_len]; exact l1)) ?_
  have h := pw_ode (us := pwL us s) t
  rw [pwL_len] at h
  refine h.trans (EqTo.trans (((ls_pw s l1).sc t).mul (EqTo.refl _ _)) ?_)
  have f : scS t (scS s (ser (lsL us))) = scS (s * t) (ser (lsL us)) := by
    funext i
    show t * (s * _) = s * t * _
    grind
  rw [f]
  exact EqTo.refl _ _
theorem map_ser (us : List Rat) (t : Rat) : ser (us.map (· * t)) = scS t (ser us) := by
  funext i
  show List.getD _ _ _ = t * List.getD us i 0
  rw [List.getD_eq_getElem?_getD, List.getElem?_map, List.getD_eq_getElem?_getD]
  cases us[i]? with
  | none => exact (Rat.mul_zero t).symm
  | some q => exact Rat.mul_comm q t
theorem lg_pw {us : List Rat} (t : Rat) (l1 : 1 ≤ us.length) : lgL (pwL us t) = (lgL us).map (· * t) := by
  refine lg_ext (by rw [pwL_len]; exact l1) (by rw [List.length_map, lgL_len l1, pwL_len]) ?_ ?_
  · rw [map_ser]
    show t * 0 = 0
    exact Rat.mul_zero t
  · rw [pwL_len, map_ser]
    refine (ls_pw t l1).trans ?_
    intro k hk
    show t * ser (lsL us) k = nR (k + 1) * (t * ser (lgL us) (k + 1))
    rw [← lg_dS k hk]
    show t * (nR (k + 1) * _) = _
    grind
def stR (n : Nat) : List Rat := 1 :: List.replicate (n - 1) 0
theorem stR_len {n : Nat} (h : 1 ≤ n) : (stR n).length = n := by unfold stR; rw [List.length_cons, List.length_replicate]; omega
theorem stR_ser (n : Nat) : ser (stR n) = oneS := by
  funext i
  match i with
  | 0 => rfl
  | i + 1 =>
    show (List.replicate (n - 1) (0 : Rat)).getD i 0 = 0
    rw [List.getD_eq_getElem?_getD, List.getElem?_replicate]
    split <;> rfl
theorem dS_one : dS oneS = fun _ => 0 := by
  funext k
  show nR (k + 1) * (if k + 1 = 0 then (1 : Rat) else 0) = 0
  rw [if_neg (by omega), Rat.mul_zero]
theorem pw_none {us : List Rat} (l1 : 1 ≤ us.length) : pwL us 0 = stR us.length := by
  refine pw_uni l1 (stR_len l1) rfl ?_
  rw [stR_ser, dS_one, mulS_scl]
  intro k _
  show (0 : Rat) = 0 * _
  rw [Rat.zero_mul]
theorem pw_one {us : List Rat} (l1 : 1 ≤ us.length) (u0 : ser us 0 = 1) : pwL us 1 = us := by
  refine pw_uni l1 rfl u0 ?_
  have f : scS 1 (ser (lsL us)) = ser (lsL us) := by
    funext i
    exact Rat.one_mul _
  rw [f]
  exact (ls_eq u0).symm
theorem pw_rc {us : List Rat} (l1 : 1 ≤ us.length) (u0 : ser us 0 = 1) : pwL us (-1) = rcL us := by
  have u1 : ser us 0 ≠ 0 := by rw [u0]; decide
  have r0 : ser (rcL us) 0 = 1 := by
    have := rc_eq u1 0 (by omega)
    have e : (0 : Rat) + ser (rcL us) 0 * ser us 0 = 1 := this
    rw [Rat.zero_add, u0, Rat.mul_one] at e
    exact e
  refine pw_uni l1 (rcL_len us) r0 ?_
  refine div_uni (U := ser us) u1 ?_
  have h1 : EqTo (us.length - 1) (dS (mulS (ser (rcL us)) (ser us))) (dS oneS) := ((rc_eq u1).le (m := us.length - 1 + 1) (by omega)).dS
  rw [dS_one, dS_mul] at h1
  intro k hk
  have e1 := h1 k hk
  have e2 : mulS (dS (ser (rcL us))) (ser us) k + mulS (ser (rcL us)) (dS (ser us)) k = 0 := e1
  have e3 : mulS (ser (rcL us)) (dS (ser us)) k = mulS (ser (rcL us)) (mulS (ser (lsL us)) (ser us)) k := ((EqTo.refl _ _).mul (ls_eq u0).symm) k hk
  rw [mulS_scl, mulS_scl]
  show _ = -1 * mulS (mulS (ser (lsL us)) (ser (rcL us))) (ser us) k
  rw [mulS_comm (ser (lsL us)), mulS_assoc, ← e3]
  grind
theorem rc_rc {us : List Rat} (l1 : 1 ≤ us.length) (u0 : ser us 0 ≠ 0) : rcL (rcL us) = us := by
  have r0 : ser (rcL us) 0 ≠ 0 := fun z => by
    have := rc_eq u0 0 (by omega)
    have e : (0 : Rat) + ser (rcL us) 0 * ser us 0 = 1 := this
    rw [z, Rat.zero_mul, Rat.zero_add] at e
    exact absurd e (by decide)
  refine ext_ser (by rw [rcL_len, rcL_len]) ?_
  rw [rcL_len, rcL_len]
  refine div_uni (U := ser (rcL us)) r0 ?_
  have h1 := rc_eq r0
  rw [rcL_len] at h1
  have h2 := rc_eq u0
  rw [mulS_comm] at h2
  exact h1.trans h2.symm
theorem mul_rc {us : List Rat} (l1 : 1 ≤ us.length) (u0 : ser us 0 ≠ 0) : mulL us (rcL us) = stR us.length := by
  refine ext_ser (by rw [mulL_len', stR_len l1]) ?_
  rw [mulL_len', stR_ser]
  have h2 := rc_eq u0
  rw [mulS_comm] at h2
  exact (mul_ser us (rcL us)).trans h2
/-- the slope of a row -/
def slL (us : List Rat) : List Rat := toL (us.length - 1) (dS (ser us))
theorem pw_law {us : List Rat} (t : Rat) (u0 : ser us 0 = 1) (l1 : 1 ≤ us.length) : mulL (us.take (us.length - 1)) (slL (pwL us t)) = (mulL (slL us) ((pwL us t).take (us.length - 1))).map (· * t) := by
  have tk : ∀ ws : List Rat, ws.length = us.length → ws.take (us.length - 1) = toL (us.length - 1) (ser ws) := fun ws h => by
    rw [← toL_take _ (show us.length - 1 ≤ us.length by omega), ← h, toL_ser]
  rw [tk us rfl, tk _ (pwL_len us t)]
  unfold slL
  rw [pwL_len, mulL_toL, mulL_toL]
  unfold toL
  rw [List.map_map]
  refine List.map_congr_left fun k hk => ?_
  have hk' := List.mem_range.mp hk
  show mulS (ser us) (dS (ser (pwL us t))) k = mulS (dS (ser us)) (ser (pwL us t)) k * t
  rw [((EqTo.refl _ (ser us)).mul (pw_ode t)) k hk', ← ((ls_eq u0).mul (EqTo.refl _ (ser (pwL us t)))) k hk', mulS_scl, mulS_scr, ← mulS_assoc, mulS_comm (ser us)]
  exact Rat.mul_comm _ _
theorem lg_law {us : List Rat} (u0 : ser us 0 = 1) (l1 : 1 ≤ us.length) : mulL (us.take (us.length - 1)) (slL (lgL us)) = slL us := by
  have tk : ∀ ws : List Rat, ws.length = us.length → ws.take (us.length - 1) = toL (us.length - 1) (ser ws) := fun ws h => by
    rw [← toL_take _ (show us.length - 1 ≤ us.length by omega), ← h, toL_ser]
  rw [tk us rfl]
  unfold slL
  rw [lgL_len l1, mulL_toL]
  refine toL_eq ?_
  rw [mulS_comm]
  exact (lg_dS.mul (EqTo.refl _ _)).trans (ls_eq u0)
end Kx
end
section
set_option maxHeartbeats 4000000
namespace Kx
/-! ### the weights of slopes, powers, one upon a row -/
theorem Zw.mono_c {b : Bs} {e n c c' : Nat} {q : Rat} (h : Zw b e n c q) (l : c' ≤ c) : Zw b e n c' q := by
  obtain ⟨z, hz, lz⟩ := h
  exact ⟨z, hz, Nat.le_trans (Nat.mul_le_mul_right _ l) lz⟩
theorem Zw.up_e {b : Bs} {e f c : Nat} {q : Rat} (h : Zw b e 1 c q) (l : e ≤ f) : Zw b f 1 c q := by
  induction l with
  | refl => exact h
  | step _ ih =>
    rename_i m _
    refine ih.upD fun x lx => ?_
    have h2 := Nat.mul_le_mul (D_le b) lx
    rw [Nat.mul_add, Nat.mul_one, Nat.pow_add, Nat.one_mul, Nat.mul_comm (2 ^ (b.m * m))]
    rw [Nat.one_mul] at h2
    calc c * (b.D * x) = b.D * (c * x) := by rw [Nat.mul_left_comm]
      _ ≤ _ := h2
theorem zw_sum {b : Bs} {e : Nat} {f : Nat → Rat} : ∀ m, (∀ i, i < m → Zw b e 1 1024 (f i)) → Zw b e m 1024 (sumN f m)
  | 0, _ => Zw.zero
  | m + 1, h => (zw_sum m fun i hi => h i (by omega)).add (h m (by omega))
/-- a base where the places are small numbers -/
def Wide (b : Bs) : Prop := 1024 * b.D ≤ 2 ^ b.m
theorem wide6 : Wide b6 := by show 1024 * 6 ≤ 2 ^ 30; decide
theorem Wide.nat {b : Bs} (h : Wide b) {k : Nat} (l : k ≤ 32) : Zq b 1 (nR k) := by
  refine Zq.of (q := nR k) ?_ ?_
  · show (((k : Nat) : Rat)).den ∣ _
    exact Nat.one_dvd _
  · show 32 * (((k : Nat) : Rat).num.natAbs * b.D) ≤ _
    have e : ((k : Nat) : Rat).num.natAbs = k := rfl
    rw [e]
    have : 1024 * b.D ≤ 2 ^ b.m := h
    have h2 := Nat.mul_le_mul_right b.D l
    omega
/-- a row with 1 at the place 0, and the weight s k at the place k -/
structure RW (b : Bs) (s : Nat) (us : List Rat) : Prop where
  u0 : ser us 0 = 1
  w : ∀ k, 1 ≤ k → k < us.length → Zq b (s * k) (ser us k)
theorem RW.mono {b : Bs} {s t : Nat} {us : List Rat} (h : RW b s us) (l : s ≤ t) : RW b t us := ⟨h.u0, fun k k1 hk => (h.w k k1 hk).mono (Nat.mul_le_mul_right k l)⟩
theorem RW.all {b : Bs} {s : Nat} {us : List Rat} (h : RW b s us) (s1 : 1 ≤ s) : AllZ b (s * us.length) us := fun q hq => by
  obtain ⟨j, hj⟩ := List.getElem?_of_mem hq
  have hl : j < us.length := by
    rcases Nat.lt_or_ge j us.length with c | c
    · exact c
    · rw [List.getElem?_eq_none c] at hj; cases hj
  have e : ser us j = q := by
    show us.getD j 0 = q
    rw [List.getD_eq_getElem?_getD, hj]
    rfl
  rw [← e]
  match j, hl with
  | 0, hl =>
    rw [h.u0]
    exact Zq.one (Nat.mul_pos s1 hl)
  | j + 1, hl => exact (h.w (j + 1) (by omega) hl).mono (Nat.mul_le_mul_left s (by omega))
theorem rw_of {b : Bs} {e : Nat} {us : List Rat} (u0 : ser us 0 = 1) (h : AllZ b e us) : RW b e us := ⟨u0, fun k k1 _ => (h.getD k).mono (Nat.le_mul_of_pos_right _ k1)⟩
theorem ls_w {b : Bs} {s : Nat} {us : List Rat} (hb : Wide b) (h : RW b s us) (l : us.length ≤ 25) : ∀ k, k < us.length - 1 → Zq b (s * k + (s + 1)) (ser (lsL us) k) := by
  intro k
  induction k using Nat.strongRecOn with
  | _ k ih =>
    intro hk
    have e := ls_eq h.u0 k hk
    have e1 : sumN (fun i => ser (lsL us) i * ser us (k - i)) k + ser (lsL us) k * ser us (k - k) = nR (k + 1) * ser us (k + 1) := e
    rw [Nat.sub_self, h.u0, Rat.mul_one] at e1
    have e2 : ser (lsL us) k = nR (k + 1) * ser us (k + 1) + -(sumN (fun i => ser (lsL us) i * ser us (k - i)) k) := by grind
    rw [e2]
    have a1 := (hb.nat (show k + 1 ≤ 32 by omega)).mul (h.w (k + 1) (by omega) (by omega))
    rw [show 1 + s * (k + 1) = s * k + (s + 1) by rw [Nat.mul_add]; omega] at a1
    refine (a1.add (zw_sum (e := s * k + (s + 1)) k fun i hi => ?_).neg).red (by omega)
    have a2 := (ih i hi (by omega)).mul (h.w (k - i) (by omega) (by omega))
    have w : s * i + s * (k - i) = s * k := by rw [← Nat.mul_add, show i + (k - i) = k by omega]
    rw [show s * i + (s + 1) + s * (k - i) = s * k + (s + 1) by omega] at a2
    exact a2
/-- b is b0 with room for the powers t -/
structure Ex (b0 b : Bs) (t : Rat) : Prop where
  ex : ∃ E m' : Nat, 0 < E ∧ b.D = b0.D * E ∧ b.m = b0.m + m' ∧ E ≤ 2 ^ m' ∧ ∀ k, 1 ≤ k → k ≤ 9 → ∃ w : Int, t / nR k * (E : Rat) = (w : Rat) ∧ 32 * w.natAbs ≤ 2 ^ m'
theorem Ex.z {b0 b : Bs} {t : Rat} (h : Ex b0 b t) {e k : Nat} {x : Rat} (hx : Zq b0 e x) (e1 : 1 ≤ e) (k1 : 1 ≤ k) (k9 : k ≤ 9) : Zw b e 1 1024 (x * (t / nR k)) := by
  obtain ⟨E, m', E0, hD, hm, hE, hw⟩ := h.ex
  obtain ⟨w, ew, lw⟩ := hw k k1 k9
  obtain ⟨z, hz, lz⟩ := hx
  obtain ⟨e', rfl⟩ : ∃ e', e = e' + 1 := ⟨e - 1, by omega⟩
  refine ⟨z * w * ((E ^ e' : Nat) : Int), ?_, ?_⟩
  · rw [Rat.intCast_mul, Rat.intCast_mul, ← hz, ← ew, hD, Nat.mul_pow, Nat.pow_succ E e', Rat.natCast_mul, Rat.natCast_mul]
    have : (((E ^ e' : Nat) : Int) : Rat) = ((E ^ e' : Nat) : Rat) := rfl
    rw [this]
    grind
  · rw [Int.natAbs_mul, Int.natAbs_mul, Int.natAbs_natCast, Nat.one_mul, hm, Nat.add_mul, Nat.pow_add]
    have h1 : E ^ e' ≤ 2 ^ (m' * e') := by rw [Nat.pow_mul]; exact Nat.pow_le_pow_left hE _
    have h2 : 32 * w.natAbs * E ^ e' ≤ 2 ^ m' * 2 ^ (m' * e') := Nat.mul_le_mul lw h1
    rw [← Nat.pow_add, show m' + m' * e' = m' * (e' + 1) by rw [Nat.mul_add]; omega] at h2
    have h3 := Nat.mul_le_mul lz h2
    rw [Nat.one_mul] at h3
    calc 1024 * (z.natAbs * w.natAbs * E ^ e') = 32 * z.natAbs * (32 * w.natAbs * E ^ e') := by grind
      _ ≤ _ := h3
theorem Ex.base {b0 b : Bs} {t : Rat} (h : Ex b0 b t) {e : Nat} {x : Rat} (hx : Zq b0 e x) : Zq b e x := by
  obtain ⟨E, m', E0, hD, hm, hE, _⟩ := h.ex
  refine hx.base hD ?_
  rw [hm, Nat.pow_add]
  exact Nat.mul_le_mul_left _ hE
theorem Ex.all {b0 b : Bs} {t : Rat} (h : Ex b0 b t) {e : Nat} {us : List Rat} (hu : AllZ b0 e us) : AllZ b e us := fun q hq => h.base (hu q hq)
theorem Ex.rw {b0 b : Bs} {t : Rat} (h : Ex b0 b t) {s : Nat} {us : List Rat} (hu : RW b0 s us) : RW b s us := ⟨hu.u0, fun k k1 hk => h.base (hu.w k k1 hk)⟩
theorem pw_w {b0 b : Bs} {s : Nat} {us : List Rat} {t : Rat} (h0 : Wide b0) (hx : Ex b0 b t) (h : RW b0 s us) (l1 : 1 ≤ us.length) (l : us.length ≤ 9) : RW b (s + 1) (pwL us t) := by
  refine ⟨pw_zero t l1, ?_⟩
  intro k
  induction k using Nat.strongRecOn with
  | _ k ih =>
    intro k1 hk
    rw [pwL_len] at hk
    obtain ⟨k, rfl⟩ : ∃ k', k = k' + 1 := ⟨k - 1, by omega⟩
    rw [pw_succ t (by omega)]
    have e : t * mulS (ser (lsL us)) (ser (pwL us t)) k / nR (k + 1) = sumN (fun i => ser (lsL us) i * (t / nR (k + 1)) * ser (pwL us t) (k - i)) (k + 1) := by
      show t * sumN (fun i => ser (lsL us) i * ser (pwL us t) (k - i)) (k + 1) / nR (k + 1) = _
      rw [← sum_mul, Rat.div_def, ← sum_mulR]
      exact sum_congr fun i _ => by rw [Rat.div_def]; grind
    rw [e]
    refine (zw_sum (e := (s + 1) * (k + 1)) (k + 1) fun i hi => ?_).red (by omega)
    have a := hx.z (k := k + 1) (ls_w h0 h (by omega) i (by omega)) (by omega) (by omega) (by omega)
    have a' : Zw b ((s + 1) * (i + 1)) 1 1024 (ser (lsL us) i * (t / nR (k + 1))) := a.up_e (by rw [Nat.mul_add, Nat.add_mul]; omega)
    by_cases c : i = k
    · subst c
      rw [Nat.sub_self, pw_zero t l1, Rat.mul_one]
      exact a'
    · have w : (s + 1) * (i + 1) + (s + 1) * (k - i) = (s + 1) * (k + 1) := by rw [← Nat.mul_add, show i + 1 + (k - i) = k + 1 by omega]
      have p := a'.mul (ih (k - i) (by omega) (by omega) (by rw [pwL_len]; omega))
      rw [w] at p
      exact p.mono_c (by decide)
/-- one upon a row -/
theorem rc_w {b : Bs} {s : Nat} {us : List Rat} (u0 : ser us 0 ≠ 0) (v0 : Zq b 1 (1 / ser us 0)) (h : ∀ k, 1 ≤ k → k < us.length → Zq b (s * k) (ser us k)) (l : us.length ≤ 25) : ∀ k, k < us.length → Zq b ((s + 1) * k + 1) (ser (rcL us) k) := by
  intro k
  induction k using Nat.strongRecOn with
  | _ k ih =>
    intro hk
    have e := rc_eq u0 k hk
    have e1 : sumN (fun i => ser (rcL us) i * ser us (k - i)) k + ser (rcL us) k * ser us (k - k) = oneS k := e
    rw [Nat.sub_self] at e1
    match k, ih, hk, e1 with
    | 0, _, _, e1 =>
      have e2 : (0 : Rat) + ser (rcL us) 0 * ser us 0 = 1 := e1
      have e3 : ser (rcL us) 0 = 1 / ser us 0 := by
        rw [Rat.zero_add] at e2
        rw [← e2, Rat.mul_div_cancel u0]
      rw [e3]
      exact v0.mono (by omega)
    | k + 1, ih, hk, e1 =>
      have e2 : sumN (fun i => ser (rcL us) i * ser us (k + 1 - i)) (k + 1) + ser (rcL us) (k + 1) * ser us 0 = 0 := e1
      have e3 : ser (rcL us) (k + 1) = -(sumN (fun i => ser (rcL us) i * ser us (k + 1 - i) * (1 / ser us 0)) (k + 1)) := by
        rw [sum_mulR]
        have e4 : ser (rcL us) (k + 1) * ser us 0 / ser us 0 = ser (rcL us) (k + 1) := Rat.mul_div_cancel u0
        rw [← e4, show ser (rcL us) (k + 1) * ser us 0 = -(sumN (fun i => ser (rcL us) i * ser us (k + 1 - i)) (k + 1)) by grind, Rat.div_def, Rat.div_def, Rat.one_mul, Rat.neg_mul]
      rw [e3]
      refine ((zw_sum (e := (s + 1) * (k + 1) + 1) (k + 1) fun i hi => ?_).red (by omega)).neg
      have p := ((ih i hi (by omega)).mul (h (k + 1 - i) (by omega) (by omega))).mul v0
      refine (p.mono_c (show 1024 ≤ 1024 * 32 by decide)).up_e ?_
      have w : s * i + s * (k + 1 - i) = s * (k + 1) := by rw [← Nat.mul_add, show i + (k + 1 - i) = k + 1 by omega]
      rw [Nat.add_mul, Nat.add_mul]
      omega
end Kx
end
section
set_option maxHeartbeats 4000000
namespace Kx
open PySem PySem.Spec PyProof.Rows L2 RZ
theorem rat_quo (a b : Rat) (hb : b ≠ 0) : a / b = Rat.divInt (a.num * b.den) (a.den * b.num) := by
  have ha := up_val (q := a) (L := a.den) (Nat.dvd_refl _)
  have hb' := up_val (q := b) (L := b.den) (Nat.dvd_refl _)
  rw [Int.ediv_self (den_ne a), Int.mul_one] at ha
  rw [Int.ediv_self (den_ne b), Int.mul_one] at hb'
  have d1 : ((a.den : Nat) : Rat) ≠ 0 := fun h => a.den_nz (by exact_mod_cast h)
  have d2 : ((b.den : Nat) : Rat) ≠ 0 := fun h => b.den_nz (by exact_mod_cast h)
  rw [Rat.divInt_eq_div, Rat.intCast_mul, Rat.intCast_mul, ha, hb']
  show a / b = a * ((a.den : Nat) : Rat) * ((b.den : Nat) : Rat) / (((a.den : Nat) : Rat) * (b * ((b.den : Nat) : Rat)))
  generalize ((a.den : Nat) : Rat) = u at d1
  generalize ((b.den : Nat) : Rat) = v at d2
  grind
def spDifQ (K : PySem.W.Frag) : Sp := fun vs H Q _ => ∃ (x y : V) (a b : Rat), vs = [x, y] ∧ Nq K H x a ∧ Nq K H y b ∧ Bq 4000 a ∧ Bq 4000 b ∧ GivesQ H Q (a - b)
def spQuoQ (K : PySem.W.Frag) : Sp := fun vs H Q _ => ∃ (x y : V) (a b : Rat), vs = [x, y] ∧ Nq K H x a ∧ Nq K H y b ∧ Bq 4000 a ∧ Bq 4000 b ∧ b ≠ 0 ∧ GivesQ H Q (a / b)
/-! ### lists: turned round, cut back -/
theorem Nl.rev {K : PySem.W.Frag} {H : Hp} {xs : List V} {qs : List Rat} (h : Nl K H xs qs) : Nl K H xs.reverse qs.reverse := by
  refine ⟨by rw [List.length_reverse, List.length_reverse, h.1], fun i x q h1 h2 => ?_⟩
  have hl : i < xs.length := by
    rcases Nat.lt_or_ge i xs.length with c | c
    · exact c
    · rw [List.getElem?_eq_none (by rw [List.length_reverse]; exact c)] at h1; cases h1
  rw [List.getElem?_reverse hl] at h1
  have e := h.1
  rw [List.getElem?_reverse (by omega), ← e] at h2
  exact h.2 _ x q h1 h2
theorem Nl.seg {K : PySem.W.Frag} {H : Hp} {xs : List V} {qs : List Rat} (h : Nl K H xs qs) (k : Nat) : Nl K H (segL xs k) (segL qs k) := ((h.take (k + 1)).drop 1).rev
theorem AllZ.take {b : Bs} {e : Nat} {qs : List Rat} (h : AllZ b e qs) (n : Nat) : AllZ b e (qs.take n) := fun q hq => h q (List.mem_of_mem_take hq)
theorem AllZ.seg {b : Bs} {e : Nat} {qs : List Rat} (h : AllZ b e qs) (k : Nat) : AllZ b e (segL qs k) := fun q hq => h q (List.mem_of_mem_take (List.mem_of_mem_drop (List.mem_reverse.mp hq)))
theorem AllZ.rev {b : Bs} {e : Nat} {qs : List Rat} (h : AllZ b e qs) : AllZ b e qs.reverse := fun q hq => h q (List.mem_reverse.mp hq)
theorem recL_take (f : List Rat → Rat) (k : Nat) : ∀ n, k ≤ n → (recL f n).take k = recL f k := by
  intro n h
  induction h with
  | refl => exact List.take_of_length_le (by rw [recL_len]; exact Nat.le_refl _)
  | step h ih =>
    rename_i m
    have h' : k ≤ m := h
    show (recL f m ++ [_]).take k = _
    rw [List.take_append_of_le_length (by rw [recL_len]; exact h'), ih]
theorem AllZ.rec {b : Bs} {e : Nat} {f : List Rat → Rat} {n k : Nat} (h : AllZ b e (recL f n)) (l : k ≤ n) : AllZ b e (recL f k) := by
  rw [← recL_take f k n l]
  exact h.take k
theorem Nq.setL {K : PySem.W.Frag} {H : Hp} {fb : Addr} {zs ys : List V} {v : V} {q : Rat} (h : Nq K H v q) (hD : H fb = some (.lst zs)) : Nq K (upd H fb (.lst ys)) v q := h.butL hD (fun b o n e => by rw [upd_ne n]; exact e)
theorem Nl.setL {K : PySem.W.Frag} {H : Hp} {fb : Addr} {zs ys xs : List V} {qs : List Rat} (h : Nl K H xs qs) (hD : H fb = some (.lst zs)) : Nl K (upd H fb (.lst ys)) xs qs := ⟨h.1, fun j x r h1 h2 => (h.2 j x r h1 h2).setL hD⟩
theorem ser_at {qs : List Rat} {k : Nat} (h : k < qs.length) : qs[k]? = some (ser qs k) := by
  show _ = some (qs.getD k 0)
  rw [List.getD_eq_getElem?_getD, List.getElem?_eq_getElem h]
  rfl
/-- what the reckoning of the slopes of a log wants -/
def LsC (us : List Rat) : Prop := ∃ (b : Bs) (e g : Nat), AllZ b e us ∧ AllZ b g (lsL us) ∧ Wide b ∧ b.m * (e + g) ≤ 6000 ∧ b.m * (e + 2) ≤ 3900 ∧ b.m * (g + 1) ≤ 3900
def PwC (us : List Rat) (t : Rat) : Prop := LsC us ∧ Bq 4000 t ∧ (∃ (b : Bs) (g h : Nat), AllZ b g (lsL us) ∧ AllZ b h (pwL us t) ∧ b.m * (g + h) ≤ 6000) ∧ (∀ k, k < us.length - 1 → Bq 4000 (mulS (ser (lsL us)) (ser (pwL us t)) k)) ∧ ∀ k, k < us.length - 1 → Bq 4000 (t * mulS (ser (lsL us)) (ser (pwL us t)) k)
def RcC (us : List Rat) : Prop := ∃ (b : Bs) (e g : Nat), AllZ b e us ∧ AllZ b g (rcL us) ∧ b.m * (e + g) ≤ 3900
def fs0 (nm : Str) (ws : List V) : List (Str × V) := match ws with
  | [] => [("code", .str nm)]
  | _ => []
def spRatZ (CZ : Addr) : Sp := fun vs H Q E => ∃ p q : Int, vs = [.int p, .int q] ∧ (q ≠ 0 → q.natAbs.log2 < 9000 ∧ GivesQ H Q (Rat.divInt p q)) ∧ (q = 0 → Air H CZ (fs0 "DividedByZero" []) E)
def spQuoZ (K : PySem.W.Frag) (CZ : Addr) : Sp := fun vs H Q E => ∃ (x y : V) (a b : Rat), vs = [x, y] ∧ Nq K H x a ∧ Nq K H y b ∧ Bq 4000 a ∧ Bq 4000 b ∧ (b ≠ 0 → GivesQ H Q (a / b)) ∧ (b = 0 → Air H CZ (fs0 "DividedByZero" []) E)
def spRcL (K : PySem.W.Frag) (CZ : Addr) : Sp := fun vs H Q E => ∃ (x : V) (us : List Rat), vs = [x] ∧ Ls K H x us ∧ 1 ≤ us.length ∧ us.length ≤ 25 ∧ Bq 4000 (ser us 0) ∧ (ser us 0 = 0 → Air H CZ (fs0 "DividedByZero" []) E) ∧ (ser us 0 ≠ 0 → RcC us ∧ GivesL K H Q (rcL us))
def spLsL (K : PySem.W.Frag) : Sp := fun vs H Q _ => ∃ (x : V) (us : List Rat), vs = [x] ∧ Ls K H x us ∧ 1 ≤ us.length ∧ us.length ≤ 25 ∧ ser us 0 = 1 ∧ LsC us ∧ GivesL K H Q (lsL us)
def spLgL (K : PySem.W.Frag) : Sp := fun vs H Q _ => ∃ (x : V) (us : List Rat), vs = [x] ∧ Ls K H x us ∧ 1 ≤ us.length ∧ us.length ≤ 25 ∧ ser us 0 = 1 ∧ LsC us ∧ GivesL K H Q (lgL us)
def spPwL (K : PySem.W.Frag) : Sp := fun vs H Q _ => ∃ (x y : V) (us : List Rat) (t : Rat), vs = [x, y] ∧ Ls K H x us ∧ Nq K H y t ∧ 1 ≤ us.length ∧ us.length ≤ 25 ∧ ser us 0 = 1 ∧ PwC us t ∧ GivesL K H Q (pwL us t)
abbrev nRc : List Str := ["numbers", "found", "place", "have"]
abbrev nLg : List Str := ["numbers", "at", "number"]
abbrev nPw : List Str := ["numbers", "t", "slopes", "found", "place"]
section
variable {P : Program} {w : World} {K : PySem.W.Frag} {mg : Str → Option Value} {base : Heap} {f C S CF CO CU CZ C1 CN CP o0 o1 : Addr} {fd : FuncData}
theorem scDif : FnScope ["one", "other"] ["one", "other"] (defScope F_difference_of) := ⟨rfl, rfl, rfl, by decide +kernel, rfl, by decide +kernel, by decide +kernel⟩
theorem scQuo : FnScope ["one", "other"] ["one", "other"] (defScope F_quotient_of) := ⟨rfl, rfl, rfl, by decide +kernel, rfl, by decide +kernel, by decide +kernel⟩
theorem ok_difference (F : Fun K "difference_of" "difference_of" F_difference_of f fd) (UR : Use P w K mg base CX0 1 "ratio" ["upper", "lower"] spLowQ []) : FnOk P w K mg base CX0 2 f fd ["one", "other"] (spDifQ K) := by
  refine F.ok scDif (fun vs H Q E h => ?_) (fun cdv A outer s H vs Q E hr h => ?_)
  · obtain ⟨x, y, a, b, rfl, _⟩ := h
    rfl
  obtain ⟨x, y, a, b, rfl, hx, hy, ba, bb, q⟩ := h
  obtain ⟨xa, rfl, sx, _⟩ := hx.sq
  obtain ⟨ya, rfl, sy, _⟩ := hy.sq
  refine ⟨_, pss_one (ps_ret (pe_use UR hr rfl pass0 (pa_cons (pe_op op_sub (pe_op op_mulW (pe_ix ix_tup (pv 0) pe_int (fun _ _ => rfl)) (pe_ix ix_tup (pv 1) pe_int (fun _ _ => rfl))) (pe_op op_mulW (pe_ix ix_tup (pv 1) pe_int (fun _ _ => rfl)) (pe_ix ix_tup (pv 0) pe_int (fun _ _ => rfl))))
      (pa_cons (pe_op op_mulW (pe_ix ix_tup (pv 0) pe_int (fun _ _ => rfl)) (pe_ix ix_tup (pv 1) pe_int (fun _ _ => rfl))) pa_nil)))), ?_⟩
  exact ⟨_, rfl, xa, _, 0, _, rfl, rfl, sx, rfl, _, rfl, ya, _, 1, _, rfl, rfl, sy, rfl, a.num, (b.den : Nat), rfl, rfl, wide_mul ba.1 bb.dn (by decide) (by decide) (by decide),
      _, rfl, ya, _, 0, _, rfl, rfl, sy, rfl, _, rfl, xa, _, 1, _, rfl, rfl, sx, rfl, b.num, (a.den : Nat), rfl, rfl, wide_mul bb.1 ba.dn (by decide) (by decide) (by decide), _, _, rfl, rfl,
      _, rfl, xa, _, 1, _, rfl, rfl, sx, rfl, _, rfl, ya, _, 1, _, rfl, rfl, sy, rfl, (a.den : Nat), (b.den : Nat), rfl, rfl, wide_mul ba.dn bb.dn (by decide) (by decide) (by decide),
      _, _, rfl, Int.mul_ne_zero (den_ne a) (den_ne b), Nat.lt_trans (log_bd (lt_mul ba.dn bb.dn) (by decide)) (by decide), by rw [← rat_sub]; exact q⟩
theorem ok_quotient (F : Fun K "quotient_of" "quotient_of" F_quotient_of f fd) (UR : Use P w K mg base CX0 1 "ratio" ["upper", "lower"] spLowQ []) : FnOk P w K mg base CX0 2 f fd ["one", "other"] (spQuoQ K) := by
  refine F.ok scQuo (fun vs H Q E h => ?_) (fun cdv A outer s H vs Q E hr h => ?_)
  · obtain ⟨x, y, a, b, rfl, _⟩ := h
    rfl
  obtain ⟨x, y, a, b, rfl, hx, hy, ba, bb, b0, q⟩ := h
  obtain ⟨xa, rfl, sx, _⟩ := hx.sq
  obtain ⟨ya, rfl, sy, _⟩ := hy.sq
  refine ⟨_, pss_one (ps_ret (pe_use UR hr rfl pass0 (pa_cons (pe_op op_mulW (pe_ix ix_tup (pv 0) pe_int (fun _ _ => rfl)) (pe_ix ix_tup (pv 1) pe_int (fun _ _ => rfl)))
      (pa_cons (pe_op op_mulW (pe_ix ix_tup (pv 0) pe_int (fun _ _ => rfl)) (pe_ix ix_tup (pv 1) pe_int (fun _ _ => rfl))) pa_nil)))), ?_⟩
  exact ⟨_, rfl, xa, _, 0, _, rfl, rfl, sx, rfl, _, rfl, ya, _, 1, _, rfl, rfl, sy, rfl, a.num, (b.den : Nat), rfl, rfl, wide_mul ba.1 bb.dn (by decide) (by decide) (by decide),
      _, rfl, xa, _, 1, _, rfl, rfl, sx, rfl, _, rfl, ya, _, 0, _, rfl, rfl, sy, rfl, (a.den : Nat), b.num, rfl, rfl, wide_mul ba.dn bb.1 (by decide) (by decide) (by decide),
      _, _, rfl, Int.mul_ne_zero (den_ne a) (fun z => b0 (Rat.num_eq_zero.mp z)), Nat.lt_trans (log_bd (lt_mul ba.dn bb.1) (by decide)) (by decide), by rw [← rat_quo a b b0]; exact q⟩
theorem init_Z (F : Fun K "__init__" "DividedByZero.__init__" C_DividedByZero_init f fd) (T : XC K C) (n0 : PySem.W.findIn K (.ref C) "code" = some none) : FnOk P w K mg base CX0 1 f fd ["self"] (spIn C 0 (fs0 "DividedByZero")) := by
  refine F.ok (show FnScope ["self"] ["self"] (defScope C_DividedByZero_init) from ⟨rfl, rfl, rfl, by decide +kernel, rfl, by decide +kernel, by decide +kernel⟩) (fun vs H Q E h => ?_) (fun cdv A outer s H vs Q E hr h => ?_)
  · obtain ⟨a, ws, rfl, l, _⟩ := h
    exact congrArg Nat.succ l
  obtain ⟨a, ws, rfl, l, ha, q⟩ := h
  obtain rfl : ws = [] := List.eq_nil_of_length_eq_zero l
  refine ⟨_, pss_one (ps_xst (pv 0) pe_str), ?_⟩
  refine ⟨_, rfl, a, _, rfl, T, n0, .inl ⟨ha, fun e H1 ne he h1 h2 h3 => ?_⟩⟩
  exact q e _ ne he h1 h2 h3
theorem ok_ratioZ (F : Fun K "ratio" "ratio" F_ratio f fd) (mG : mg "gcd" = some (.builtin "math.gcd")) (Z : ErrC P w K mg base "DividedByZero" 0 (fs0 "DividedByZero") CZ) : FnOk P w K mg base (L2.CX P w) 3 f fd ["upper", "lower"] (spRatZ CZ) := by
  refine F.okX scRatio (fun vs H Q E h => ?_) (fun cdv A outer s H vs Q E hr h => ?_)
  · obtain ⟨p, q, rfl, _⟩ := h
    rfl
  obtain ⟨p, q, rfl, qq, qe⟩ := h
  obtain ⟨fI, fdI, ps, i1, i2, i3, i4⟩ := Z.i
  refine ⟨_, pss_cons (ps_if (pt_cmpR op_eq (pv 1) pe_int (nomark _)) (pss_one (ps_raise rfl (takes_of rfl rfl rfl rfl) (pmk_xo0 Z.T Z.ty i1 i2 i3 hr i4 pass0 rfl Z.m))) pss_nil)
    (pss_cons (ps_set (i := 2) scRatio.nd rfl (Or.inl rfl) (pe_callBfun cr_gcd rfl mG (pa_cons (pv 0) (pa_cons (pv 1) pa_nil))))
    (pss_cons (ps_if (pt_cmpR op_lt (pv 1) pe_int (nomark _)) (pss_one (ps_set (i := 2) scRatio.nd rfl (Or.inl rfl) (pe_un un_neg (pv 2)))) pss_nil)
    (pss_one (ps_ret (pe_tup (pa_cons (pe_op op_fdivA (pv 0) (pv 2)) (pa_cons (pe_op op_fdivA (pv 1) (pv 2)) pa_nil))))))), ?_⟩
  refine ⟨_, rfl, rfl, _, rfl, ite2 (fun c => ?_) (fun c => ?_)⟩
  · have q0 : q = 0 := V.int.inj (of_decide_eq_true c)
    exact ⟨by decide, fun a na => air_of (ws := []) na rfl (qe q0)⟩
  have hq : q ≠ 0 := fun e => by rw [e] at c; exact c (by decide)
  obtain ⟨hl, qr⟩ := qq hq
  have fin : ∀ g : Int, g = gS p q → (∀ t, H t = none → Q (.ref t) (upd H t (.tup [.int (p.fdiv g), .int (q.fdiv g)]))) ∧ g ≠ 0 ∧ g.natAbs.log2 < 9000 := by
    rintro g rfl
    refine ⟨fun t nt => ?_, gS_ne hq, Nat.lt_of_le_of_lt (log_le (gS_le hq)) hl⟩
    have := qr.upd nt
    rw [← low_HO hq] at this
    exact this
  refine ⟨_, rfl, _, rfl, p, q, rfl, ?_⟩
  refine ⟨_, rfl, q, 0, rfl, rfl, _, rfl, ite2 (fun c => ?_) (fun c => ?_)⟩
  · obtain ⟨q1, n0, l9⟩ := fin (-((Nat.gcd p.natAbs q.natAbs : Nat) : Int)) (by unfold gS; rw [if_pos (of_decide_eq_true c)])
    exact ⟨_, rfl, _, rfl, _, rfl, _, rfl, p, _, rfl, rfl, ⟨n0, l9⟩, _, rfl, _, rfl, q, _, rfl, rfl, ⟨n0, l9⟩, (by show 2 ≤ sizeLine; decide), q1⟩
  · obtain ⟨q1, n0, l9⟩ := fin ((Nat.gcd p.natAbs q.natAbs : Nat) : Int) (by unfold gS; rw [if_neg (of_decide_eq_false (Bool.eq_false_iff.mpr c))])
    exact ⟨_, rfl, _, rfl, p, _, rfl, rfl, ⟨n0, l9⟩, _, rfl, _, rfl, q, _, rfl, rfl, ⟨n0, l9⟩, (by show 2 ≤ sizeLine; decide), q1⟩
theorem ok_quotientZ (F : Fun K "quotient_of" "quotient_of" F_quotient_of f fd) (UR : Use P w K mg base (L2.CX P w) 3 "ratio" ["upper", "lower"] (spRatZ CZ) []) : FnOk P w K mg base (L2.CX P w) 4 f fd ["one", "other"] (spQuoZ K CZ) := by
  refine F.okX scQuo (fun vs H Q E h => ?_) (fun cdv A outer s H vs Q E hr h => ?_)
  · obtain ⟨x, y, a, b, rfl, _⟩ := h
    rfl
  obtain ⟨x, y, a, b, rfl, hx, hy, ba, bb, q1, q0⟩ := h
  obtain ⟨xa, rfl, sx, _⟩ := hx.sq
  obtain ⟨ya, rfl, sy, _⟩ := hy.sq
  refine ⟨_, pss_one (ps_ret (pe_use (E := E) UR hr rfl (passes_call (takes_of rfl rfl rfl rfl) (fun _ _ _ _ h => h)) (pa_cons (pe_op op_mulW (pe_ix ix_tup (pv 0) pe_int (fun _ _ => rfl)) (pe_ix ix_tup (pv 1) pe_int (fun _ _ => rfl)))
      (pa_cons (pe_op op_mulW (pe_ix ix_tup (pv 0) pe_int (fun _ _ => rfl)) (pe_ix ix_tup (pv 1) pe_int (fun _ _ => rfl))) pa_nil)))), ?_⟩
  refine ⟨_, rfl, xa, _, 0, _, rfl, rfl, sx, rfl, _, rfl, ya, _, 1, _, rfl, rfl, sy, rfl, a.num, (b.den : Nat), rfl, rfl, wide_mul ba.1 bb.dn (by decide) (by decide) (by decide),
      _, rfl, xa, _, 1, _, rfl, rfl, sx, rfl, _, rfl, ya, _, 0, _, rfl, rfl, sy, rfl, (a.den : Nat), b.num, rfl, rfl, wide_mul ba.dn bb.1 (by decide) (by decide) (by decide),
      _, _, rfl, fun z => ?_, fun z => ?_⟩
  · have b0 : b ≠ 0 := fun e => z (by rw [e]; exact Int.mul_zero _)
    exact ⟨Nat.lt_trans (log_bd (lt_mul ba.dn bb.1) (by decide)) (by decide), by rw [← rat_quo a b b0]; exact q1 b0⟩
  · refine q0 (Rat.num_eq_zero.mp ?_)
    rcases Int.mul_eq_zero.mp z with h | h
    · exact absurd h (den_ne a)
    · exact h
theorem scRcl : FnScope nRc ["numbers"] (defScope F_reciprocal_of) := ⟨rfl, rfl, rfl, by decide +kernel, rfl, by decide +kernel, by decide +kernel⟩
theorem ok_rcl (F : Fun K "reciprocal_of" "reciprocal_of" F_reciprocal_of f fd) (mn : mg "len" = none) (mr : mg "range" = none) (k1 : KP K o1 1 1) (mO : mg "ONE" = some (.ref o1)) (UZ : Use P w K mg base (L2.CX P w) 4 "quotient_of" ["one", "other"] (spQuoZ K CZ) []) (UQ : Use P w K mg base CX0 2 "quotient_of" ["one", "other"] (spQuoQ K) []) (UD : Use P w K mg base CX0 2 "dot" ["ones", "others"] (spDot K) []) (UN : Use P w K mg base CX0 1 "negative_of" ["value"] (spNegQ K) []) :
    FnOk P w K mg base (L2.CX P w) 5 f fd ["numbers"] (spRcL K CZ) := by
  refine F.okX scRcl (fun vs H Q E h => ?_) (fun cdv A outer s H vs Q E hr h => ?_)
  · obtain ⟨x, us, rfl, _⟩ := h
    rfl
  obtain ⟨x, us, rfl, ⟨xa, xs, rfl, hx, nx⟩, l1, l25, b0, qz, qg⟩ := h
  have hr1 := hr.mono (show 1 ≤ 4 by decide)
  have hr2 := hr.mono (show 2 ≤ 4 by decide)
  refine ⟨_, pss_cons (ps_set (i := 1) scRcl.nd rfl (Or.inl rfl) (pe_lst (pa_cons (pe_use (E := E) UZ hr rfl (passes_call (takes_of rfl rfl rfl rfl) (fun _ _ _ _ h => h)) (pa_cons (C8.pe_gc (v := .ref o1) rfl ⟨_, mO, rfl⟩) (pa_cons (pe_ix ix_list (pv 0) pe_int (fun _ _ => rfl)) pa_nil))) pa_nil)))
    (pss_cons (ps_for (passes_of rfl) rfl (pi_range2 rfl mr (pa_cons pe_int (pa_cons (pe_callB call_len_seq rfl mn PySem.boot_len (pa_cons (pv 0) pa_nil)) pa_nil))) (pg_name (i := 2) scRcl.nd rfl (Or.inl rfl))
      (pss_cons (ps_set (i := 3) scRcl.nd rfl (Or.inl rfl) (pe_use UD hr2 rfl pass0 (pa_cons (pv 1) (pa_cons (pe_backL (pv 0) (pv 2)) pa_nil))))
      (pss_one (ps_expr (pe_bm PySem.F.plainAttrs_list PySem.F.slot_list_append PySem.F.type_list_append mt_append (pv 1) (pa_cons (pe_use UQ hr2 rfl pass0 (pa_cons (pe_use UN hr1 rfl pass0 (pa_cons (pv 3) pa_nil)) (pa_cons (pe_ix ix_list (pv 0) pe_int (fun _ _ => rfl)) pa_nil))) pa_nil))))))
    (pss_one (ps_ret (pv 1)))), ?_⟩
  have lx : xs.length = us.length := nx.1
  obtain ⟨y0, ey, ny⟩ := nx.get' (i := 0) (by omega)
  have s0 : us[0] = ser us 0 := by
    have := ser_at (qs := us) (k := 0) (by omega)
    rw [List.getElem?_eq_getElem (by omega)] at this
    exact Option.some.inj this
  rw [s0] at ny
  have o1n : ∀ {G : Hp}, Nq K G (.ref o1) 1 := ⟨_, rfl, .inr k1⟩
  refine ⟨_, rfl, xa, xs, 0, y0, rfl, rfl, SqL.of hx, at_of (j := 0) rfl ey, .ref o1, y0, 1, ser us 0, rfl, o1n, ny, ⟨by decide, by decide⟩, b0, fun u0 => ?_, qz⟩
  obtain ⟨⟨b, e, g, ze, zg, m1⟩, qq⟩ := qg u0
  have bu : Bq 4000 (ser us 0) := b0
  intro t H1 s1 n1 e1
  refine ⟨(by show 1 ≤ sizeLine; decide), fun fb nf => ?_⟩
  have sf := new_same nf (HO.lst [V.ref t])
  have r1 : recL (rcF us) 1 = [1 / ser us 0] := rfl
  have le : b.m * e ≤ 3900 := Nat.le_trans (Nat.mul_le_mul_left _ (Nat.le_add_right e g)) m1
  have lg : b.m * g ≤ 3900 := Nat.le_trans (Nat.mul_le_mul_left _ (Nat.le_add_left g e)) m1
  refine ⟨_, rfl, xa, xs, rfl, .inl (SqL.of (sf _ _ (s1 _ _ hx))), 1, ((xs.length : Nat) : Int), rfl, ⟨by omega, by omega, by omega, by omega⟩, for_range (lo := 1) (n := (((xs.length : Nat) : Int) - 1).toNat) (fun i σ H' => Same H H' ∧ (∃ v2 v3, σ = [some (.ref xa), some (.ref fb), v2, v3]) ∧ ∃ zs, H' fb = some (.lst zs) ∧ Nl K H' zs (recL (rcF us) (i + 1))) ⟨s1.trans sf, ⟨none, none, rfl⟩, [.ref t], upd_same, by rw [r1]; exact Nl.cons (.at (sf _ _ e1)) Nl.nil⟩ ?_ ?_⟩
  · rintro i σ H3 hi ⟨s3, ⟨v2, v3, rfl⟩, zs, hz, nz⟩
    have hi' : i + 1 < us.length := by omega
    have zl : zs.length = i + 1 := by rw [nz.1, recL_len]
    refine ⟨_, rfl, _, rfl, _, rfl, (1 + (i : Int)), rfl, xa, xs, i + 1, rfl, (by show some (1 + (i : Int)) = some ((i + 1 : Nat) : Int); congr 1; omega), SqL.of (s3 _ _ hx), by omega, fun p np => ?_⟩
    have sp := new_same np (HO.lst (segL xs (i + 1)))
    have zr : AllZ b g (recL (rcF us) (i + 1)) := AllZ.rec zg (by omega)
    refine ⟨.ref fb, .ref p, recL (rcF us) (i + 1), segL us (i + 1), b, g, e, rfl, ⟨fb, zs, rfl, sp _ _ hz, nz.same sp⟩, ⟨p, _, rfl, upd_same, (nx.seg (i + 1)).same (s3.trans sp)⟩, by rw [recL_len]; omega, by rw [Nat.add_comm]; omega, zr, ze.seg _, fun td H4 s4 n4 e4 => ?_⟩
    have hz4 := s4 _ _ (sp _ _ hz)
    have hx4 := s4 _ _ (sp _ _ (s3 _ _ hx))
    have nxt : ser (rcL us) (i + 1) = -(dotL (recL (rcF us) (i + 1)) (segL us (i + 1))) / ser us 0 := by
      have e0 : ser (rcL us) (i + 1) = rcF us (recL (rcF us) (i + 1)) := recL_at _ hi'
      rw [e0, rcF_eq, recL_len, if_neg (by omega)]
      rfl
    have bd : Bq 4000 (-(dotL (recL (rcF us) (i + 1)) (segL us (i + 1)))) := by
      have ez : -(dotL (recL (rcF us) (i + 1)) (segL us (i + 1))) = ser (rcL us) (i + 1) * ser us 0 := by rw [nxt, Rat.div_mul_cancel u0]
      rw [ez]
      exact ((zg.getD (i + 1)).mulq (ze.getD 0)).b4 (by rw [Nat.add_comm]; exact m1)
    refine ⟨_, rfl, .inl ⟨rfl, _, SqL.of hz4⟩, _, rfl, .ref td, _, rfl, .at e4, fun tn H5 s5 n5 e5 => ?_⟩
    have s345 := s3.trans (sp.trans (s4.trans s5))
    refine ⟨_, rfl, xa, xs, 0, y0, rfl, rfl, SqL.of (s5 _ _ hx4), at_of (j := 0) rfl ey, .ref tn, y0, _, ser us 0, rfl, .at e5, ny.same s345, bd, bu, u0, fun tq H6 s6 n6 e6 => ?_⟩
    rw [← nxt] at e6
    have hz6 := s6 _ _ (s5 _ _ hz4)
    refine ⟨fb, zs, _, rfl, rfl, hz6, small1000 (by omega), ?_, ⟨_, _, rfl⟩, zs ++ [.ref tq], upd_same, ?_⟩
    · intro d o hd
      have nd : d ≠ fb := fun z => by rw [z, s1.free nf] at hd; cases hd
      rw [upd_ne nd]
      exact s6 _ _ (s345 _ _ hd)
    · refine Nl.setL ?_ hz6
      have e7 : recL (rcF us) (i + 1 + 1) = recL (rcF us) (i + 1) ++ [ser (rcL us) (i + 1)] := by
        have e0 : ser (rcL us) (i + 1) = rcF us (recL (rcF us) (i + 1)) := recL_at _ hi'
        rw [e0]
        rfl
      rw [e7]
      exact ((nz.same (sp.trans (s4.trans (s5.trans s6))))).snoc (.at e6)
  · rintro σ H3 ⟨s3, ⟨v2, v3, rfl⟩, zs, hz, nz⟩
    have e7 : (((xs.length : Nat) : Int) - 1).toNat + 1 = us.length := by omega
    rw [e7] at nz
    exact ⟨_, rfl, qq fb H3 zs s3 (s1.free nf) hz nz⟩
theorem scLsl : FnScope nRc ["numbers"] (defScope F_log_slopes) := ⟨rfl, rfl, rfl, by decide +kernel, rfl, by decide +kernel, by decide +kernel⟩
theorem nR_num (k : Nat) : (nR k).num = (k : Int) ∧ ((nR k).den : Int) = 1 := ⟨rfl, rfl⟩
theorem nR_at {K : PySem.W.Frag} {H : Hp} {t : Addr} {k : Int} {n : Nat} (e : k = (n : Int)) : Nq K (upd H t (.tup [.int k, .int 1])) (.ref t) (nR n) := ⟨t, rfl, .inl (by rw [e]; exact upd_same)⟩
theorem nR_b {n : Nat} (l : n ≤ 32) : Bq 4000 (nR n) := ((wide6.nat l).bqn (by show 30 * 1 < 31; decide)).mono (by decide)
theorem ok_lsl (F : Fun K "log_slopes" "log_slopes" F_log_slopes f fd) (mn : mg "len" = none) (mr : mg "range" = none) (UD : Use P w K mg base CX0 2 "dot" ["ones", "others"] (spDot K) []) (UF : Use P w K mg base CX0 2 "difference_of" ["one", "other"] (spDifQ K) []) (UP : Use P w K mg base CX0 2 "product_of" ["one", "other"] (spProQ K) []) :
    FnOk P w K mg base CX0 3 f fd ["numbers"] (spLsL K) := by
  refine F.ok scLsl (fun vs H Q E h => ?_) (fun cdv A outer s H vs Q E hr h => ?_)
  · obtain ⟨x, us, rfl, _⟩ := h
    rfl
  obtain ⟨x, us, rfl, ⟨xa, xs, rfl, hx, nx⟩, l1, l25, u0, ⟨b, e, g, ze, zg, wd, m1, m2, m3⟩, q⟩ := h
  refine ⟨_, pss_cons (ps_set (i := 1) scLsl.nd rfl (Or.inl rfl) (pe_lst pa_nil))
    (pss_cons (ps_for PassesOwn.never rfl (pi_range2 rfl mr (pa_cons pe_int (pa_cons (pe_callB call_len_seq rfl mn PySem.boot_len (pa_cons (pv 0) pa_nil)) pa_nil))) (pg_name (i := 2) scLsl.nd rfl (Or.inl rfl))
      (pss_cons (ps_set (i := 3) scLsl.nd rfl (Or.inl rfl) (pe_use UD hr rfl pass0 (pa_cons (pv 1) (pa_cons (pe_backL (pv 0) (pe_op op_sub (pv 2) pe_int)) pa_nil))))
      (pss_one (ps_expr (pe_bm PySem.F.plainAttrs_list PySem.F.slot_list_append PySem.F.type_list_append mt_append (pv 1) (pa_cons (pe_use UF hr rfl pass0 (pa_cons (pe_use UP hr rfl pass0 (pa_cons (pe_tup (pa_cons (pv 2) (pa_cons pe_int pa_nil))) (pa_cons (pe_ix ix_list (pv 0) (pv 2) (fun _ _ => rfl)) pa_nil))) (pa_cons (pv 3) pa_nil))) pa_nil))))))
    (pss_one (ps_ret (pv 1)))), ?_⟩
  have lx : xs.length = us.length := nx.1
  refine ⟨(by show 0 ≤ sizeLine; decide), fun fb nf => ?_⟩
  have sf := new_same nf (HO.lst [])
  refine ⟨_, rfl, xa, xs, rfl, .inl (SqL.of (sf _ _ hx)), 1, ((xs.length : Nat) : Int), rfl, ⟨by omega, by omega, by omega, by omega⟩, for_range (lo := 1) (n := (((xs.length : Nat) : Int) - 1).toNat) (fun i σ H' => Same H H' ∧ (∃ v2 v3, σ = [some (.ref xa), some (.ref fb), v2, v3]) ∧ ∃ zs, H' fb = some (.lst zs) ∧ Nl K H' zs (recL (lsF us) i)) ⟨sf, ⟨none, none, rfl⟩, [], upd_same, Nl.nil⟩ ?_ ?_⟩
  · rintro i σ H3 hi ⟨s3, ⟨v2, v3, rfl⟩, zs, hz, nz⟩
    have hi' : i + 1 < us.length := by omega
    have zl : zs.length = i := by rw [nz.1, recL_len]
    refine ⟨_, rfl, _, rfl, _, rfl, (1 + (i : Int)), 1, rfl, rfl, (1 + (i : Int) - 1), rfl, xa, xs, i, rfl, (by show some (1 + (i : Int) - 1) = some ((i : Nat) : Int); congr 1; omega), SqL.of (s3 _ _ hx), by omega, fun p np => ?_⟩
    have sp := new_same np (HO.lst (segL xs i))
    have zr : AllZ b g (recL (lsF us) i) := AllZ.rec zg (by omega)
    refine ⟨.ref fb, .ref p, recL (lsF us) i, segL us i, b, g, e, rfl, ⟨fb, zs, rfl, sp _ _ hz, nz.same sp⟩, ⟨p, _, rfl, upd_same, (nx.seg i).same (s3.trans sp)⟩, by rw [recL_len]; omega, by rw [Nat.add_comm]; exact m1, zr, ze.seg _, fun td H4 s4 n4 e4 => ?_⟩
    have hz4 := s4 _ _ (sp _ _ hz)
    have hx4 := s4 _ _ (sp _ _ (s3 _ _ hx))
    have nxt : ser (lsL us) i = nR (i + 1) * ser us (i + 1) - dotL (recL (lsF us) i) (segL us i) := by
      have e0 : ser (lsL us) i = lsF us (recL (lsF us) i) := recL_at _ (by omega)
      rw [e0, lsF_eq, recL_len]
      rfl
    have zp : Zq b (e + 1) (nR (i + 1) * ser us (i + 1)) := by
      have := (wd.nat (show i + 1 ≤ 32 by omega)).mulq (ze.getD (i + 1))
      rw [Nat.add_comm] at this
      exact this
    have w1 : b.m * (e + 1) ≤ 3900 := Nat.le_trans (Nat.mul_le_mul_left _ (by omega)) m2
    have bd : Bq 4000 (dotL (recL (lsF us) i) (segL us i)) := by
      have ez : dotL (recL (lsF us) i) (segL us i) = nR (i + 1) * ser us (i + 1) + -(ser (lsL us) i) := by rw [nxt]; grind
      rw [ez]
      rcases Nat.le_total (e + 1) g with c | c
      · exact ((zp.mono c).add (zg.getD i).neg).b4 m3
      · exact (zp.add ((zg.getD i).mono c).neg).b4 m2
    obtain ⟨y1, ey, ny⟩ := nx.get' (i := i + 1) hi'
    have s1' : us[i + 1] = ser us (i + 1) := by
      have := ser_at hi'
      rw [List.getElem?_eq_getElem hi'] at this
      exact Option.some.inj this
    rw [s1'] at ny
    refine ⟨_, rfl, .inl ⟨rfl, _, SqL.of hz4⟩, _, rfl, (by show 2 ≤ sizeLine; decide), fun tt ntt => ?_⟩
    have s5 := new_same ntt (HO.tup [V.int (1 + (i : Int)), .int 1])
    have nn : Nq K (upd H4 tt (HO.tup [V.int (1 + (i : Int)), .int 1])) (.ref tt) (nR (i + 1)) := nR_at (by omega)
    have s345 := s3.trans (sp.trans (s4.trans s5))
    refine ⟨_, rfl, _, rfl, xa, xs, _, y1, rfl, rfl, SqL.of (s5 _ _ hx4), at_of (j := i + 1) (by omega) ey, .ref tt, y1, nR (i + 1), ser us (i + 1), rfl, nn, ny.same s345, nR_b (by omega), (ze.getD (i + 1)).b4 (Nat.le_trans (Nat.mul_le_mul_left _ (by omega)) m2), fun tp H6 s6 n6 e6 => ?_⟩
    refine ⟨_, rfl, .ref tp, .ref td, _, _, rfl, .at e6, (show Nq K H4 (.ref td) _ from .at e4).same (s5.trans s6), zp.b4 w1, bd, fun tq H7 s7 n7 e7 => ?_⟩
    rw [← nxt] at e7
    have hz7 := s7 _ _ (s6 _ _ (s5 _ _ hz4))
    refine ⟨fb, zs, _, rfl, rfl, hz7, small1000 (by omega), ?_, ⟨_, _, rfl⟩, zs ++ [.ref tq], upd_same, ?_⟩
    · intro d o hd
      have nd : d ≠ fb := fun z => by rw [z, nf] at hd; cases hd
      rw [upd_ne nd]
      exact s7 _ _ (s6 _ _ (s345 _ _ hd))
    · refine Nl.setL ?_ hz7
      have e8 : recL (lsF us) (i + 1) = recL (lsF us) i ++ [ser (lsL us) i] := by
        have e0 : ser (lsL us) i = lsF us (recL (lsF us) i) := recL_at _ (by omega)
        rw [e0]
        rfl
      rw [e8]
      exact ((nz.same (sp.trans (s4.trans (s5.trans (s6.trans s7)))))).snoc (.at e7)
  · rintro σ H3 ⟨s3, ⟨v2, v3, rfl⟩, zs, hz, nz⟩
    rw [show (((xs.length : Nat) : Int) - 1).toNat = us.length - 1 by omega] at nz
    exact ⟨_, rfl, q fb H3 zs s3 nf hz nz⟩
theorem scLgl : FnScope nLg ["numbers"] (defScope F_unit_log) := ⟨rfl, rfl, rfl, by decide +kernel, rfl, by decide +kernel, by decide +kernel⟩
theorem ok_lgl (F : Fun K "unit_log" "unit_log" F_unit_log f fd) (me : mg "enumerate" = none) (k0 : KP K o0 0 1) (mZ : mg "ZERO" = some (.ref o0)) (UL : Use P w K mg base CX0 3 "log_slopes" ["numbers"] (spLsL K) []) (UQ : Use P w K mg base CX0 2 "quotient_of" ["one", "other"] (spQuoQ K) []) :
    FnOk P w K mg base CX0 4 f fd ["numbers"] (spLgL K) := by
  refine F.ok scLgl (fun vs H Q E h => ?_) (fun cdv A outer s H vs Q E hr h => ?_)
  · obtain ⟨x, us, rfl, _⟩ := h
    rfl
  obtain ⟨x, us, rfl, hL, l1, l25, u0, hc, q⟩ := h
  obtain ⟨b, e, g, ze, zg, wd, m1, m2, m3⟩ := id hc
  refine ⟨_, pss_one (ps_ret (pe_op op_cat (pe_lst (pa_cons (C8.pe_gc (v := .ref o0) rfl ⟨_, mZ, rfl⟩) pa_nil)) (pe_lc (own := [("at", 1), ("number", 2)]) (g := gTup K 2 (gCons (gName 1) (gCons (gName 2) gNil))) (tt := tYes) rfl scLgl.nd (pi_enum rfl me (pa_cons (pe_use UL hr rfl pass0 (pa_cons (pv 0) pa_nil)) pa_nil)) (blkOk_by (N := nLg) (sc := defScope F_unit_log) (by decide +kernel))
      (fun _ _ _ _ _ => pg_tup rfl (pgs_cons (pg_name (i := 1) scLgl.nd rfl (Or.inl rfl)) (pgs_cons (pg_name (i := 2) scLgl.nd rfl (Or.inl rfl)) pgs_nil))) (fun _ _ _ _ _ => pts_nil)
      (fun _ _ _ _ _ => pe_use UQ (hr.mono (by decide)) rfl pass0 (pa_cons (pv 2) (pa_cons (pe_tup (pa_cons (pe_op op_add (pv 1) pe_int) (pa_cons pe_int pa_nil))) pa_nil)))))), ?_⟩
  refine ⟨(by show 1 ≤ sizeLine; decide), fun a na => ?_⟩
  have s1 := new_same na (HO.lst [V.ref o0])
  refine ⟨_, rfl, x, us, rfl, hL.same s1, l1, l25, u0, hc, fun fb H2 zs s2 n2 hz nz => ?_⟩
  have lz : zs.length = us.length - 1 := by rw [nz.1, lsL_len]
  refine ⟨fb, zs, rfl, SqL.of hz, fun D nD => ?_⟩
  refine lc_nums (K := K) (walk_enum (K := K) (a := fb) (xs := zs)) ((List.range (us.length - 1)).map fun k => ser (lsL us) k / nR (k + 1)) (by rw [List.length_map, List.length_range, lz]) nD (by omega) (fun H' s => SqL.of (s _ _ hz)) ?_ (fun H' ws s hD nw => ?_)
  · rintro i r x H3 H4 k hq s3 ⟨T, y, z, rfl, hT, rfl, hy, hz3⟩ hk
    obtain rfl : y = .int ((i : Nat) : Int) := (Option.some.inj hy).symm
    have sT := new_same hT (.tup [V.int (i : Nat), z])
    have hi : i < us.length - 1 := by
      rcases Nat.lt_or_ge i (us.length - 1) with c | c
      · exact c
      · rw [List.getElem?_eq_none (by rw [List.length_map, List.length_range]; exact c)] at hq; cases hq
    rw [List.getElem?_map, List.getElem?_range hi] at hq
    obtain rfl := Option.some.inj hq
    have nz' := nz.2 i z (ser (lsL us) i) hz3 (ser_at (by rw [lsL_len]; exact hi))
    refine ⟨T, _, rfl, SqT.of upd_same, rfl, _, _, rfl, _, _, rfl, rfl, rfl, _, rfl, _, rfl, _, _, rfl, rfl, (by show 2 ≤ sizeLine; decide), fun tt ntt => ?_⟩
    have s5 := new_same ntt (HO.tup [V.int ((i : Nat) + 1 : Int), .int 1])
    refine ⟨z, .ref tt, ser (lsL us) i, nR (i + 1), rfl, (nz'.same (s3.trans sT)).same s5, nR_at (by omega), (zg.getD i).b4 (Nat.le_trans (Nat.mul_le_mul_left _ (by omega)) m3), nR_b (by omega), nR_ne (by omega), fun tq H6 s6 n6 e6 => hk _ _ (sT.trans (s5.trans s6)) (.at e6)⟩
  · have s12 := s1.trans (s2.trans s)
    refine ⟨a, D, _, _, rfl, rfl, s _ _ (s2 _ _ upd_same), hD, Nat.le_of_lt (small1000 (by rw [nw.1, List.length_map, List.length_range]; show 1 + _ ≤ _; omega)), fun c nc => ?_⟩
    have s3 := new_same nc (HO.lst ([V.ref o0] ++ ws))
    have z0 : ∀ {G : Hp}, Nq K G (.ref o0) 0 := ⟨_, rfl, .inr k0⟩
    exact q c _ _ (s12.trans s3) (s12.free nc) upd_same ((Nl.cons z0 nw).same s3)
theorem scPwl : FnScope nPw ["numbers", "t"] (defScope F_unit_power) := ⟨rfl, rfl, rfl, by decide +kernel, rfl, by decide +kernel, by decide +kernel⟩
theorem ok_pwl (F : Fun K "unit_power" "unit_power" F_unit_power f fd) (mn : mg "len" = none) (mr : mg "range" = none) (k1 : KP K o1 1 1) (mO : mg "ONE" = some (.ref o1)) (UL : Use P w K mg base CX0 3 "log_slopes" ["numbers"] (spLsL K) []) (UD : Use P w K mg base CX0 2 "dot" ["ones", "others"] (spDot K) []) (UP : Use P w K mg base CX0 2 "product_of" ["one", "other"] (spProQ K) []) (UQ : Use P w K mg base CX0 2 "quotient_of" ["one", "other"] (spQuoQ K) []) :
    FnOk P w K mg base CX0 4 f fd ["numbers", "t"] (spPwL K) := by
  refine F.ok scPwl (fun vs H Q E h => ?_) (fun cdv A outer s H vs Q E hr h => ?_)
  · obtain ⟨x, y, us, t, rfl, _⟩ := h
    rfl
  obtain ⟨x, y, us, t, rfl, hL, nt, l1, l25, u0, ⟨hc, bt, ⟨b, g, h', zg, zh, m1⟩, c1, c2⟩, q⟩ := h
  have hr2 := hr.mono (show 2 ≤ 3 by decide)
  refine ⟨_, C8.pss_cut (ps_set (i := 2) scPwl.nd rfl (Or.inl rfl) (pe_use UL hr rfl pass0 (pa_cons (pv 0) pa_nil)))
    (pss_cons (ps_set (i := 3) scPwl.nd rfl (Or.inl rfl) (pe_lst (pa_cons (C8.pe_gc (v := .ref o1) rfl ⟨_, mO, rfl⟩) pa_nil)))
    (pss_cons (ps_for PassesOwn.never rfl (pi_range2 rfl mr (pa_cons pe_int (pa_cons (pe_callB call_len_seq rfl mn PySem.boot_len (pa_cons (pv 0) pa_nil)) pa_nil))) (pg_name (i := 4) scPwl.nd rfl (Or.inl rfl))
      (pss_one (ps_expr (pe_bm PySem.F.plainAttrs_list PySem.F.slot_list_append PySem.F.type_list_append mt_append (pv 3) (pa_cons (pe_use UQ hr2 rfl pass0 (pa_cons (pe_use UP hr2 rfl pass0 (pa_cons (pv 1) (pa_cons (pe_use UD hr2 rfl pass0 (pa_cons (pv 2) (pa_cons (pe_revL (pv 3)) pa_nil))) pa_nil))) (pa_cons (pe_tup (pa_cons (pv 4) (pa_cons pe_int pa_nil))) pa_nil))) pa_nil)))))
    (pss_one (ps_ret (pv 3))))), ?_⟩
  refine ⟨fun σ G => ∃ v2, σ = [some x, some y, some v2, none, none] ∧ Same H G ∧ Ls K G v2 (lsL us), ?_, ?_⟩
  · exact ⟨_, rfl, x, us, rfl, hL, l1, l25, u0, hc, fun fb H2 zs s2 n2 hz nz => ⟨.ref fb, rfl, s2, ⟨fb, zs, rfl, hz, nz⟩⟩⟩
  rintro σ H0 ⟨v2, rfl, s0, hS⟩
  have hL0 := hL.same s0
  have nt0 := nt.same s0
  obtain ⟨xa, xs, rfl, hx, nx⟩ := hL0
  have lx : xs.length = us.length := nx.1
  refine ⟨(by show 1 ≤ sizeLine; decide), fun fb nf => ?_⟩
  have sf := new_same nf (HO.lst [V.ref o1])
  have o1n : ∀ {G : Hp}, Nq K G (.ref o1) 1 := ⟨_, rfl, .inr k1⟩
  refine ⟨_, rfl, xa, xs, rfl, .inl (SqL.of (sf _ _ hx)), 1, ((xs.length : Nat) : Int), rfl, ⟨by omega, by omega, by omega, by omega⟩, for_range (lo := 1) (n := (((xs.length : Nat) : Int) - 1).toNat) (fun i σ H' => Same H0 H' ∧ (∃ v4, σ = [some (.ref xa), some y, some v2, some (.ref fb), v4]) ∧ ∃ zs, H' fb = some (.lst zs) ∧ Nl K H' zs (recL (pwF (lsL us) t) (i + 1))) ⟨sf, ⟨none, rfl⟩, [.ref o1], upd_same, Nl.cons o1n Nl.nil⟩ ?_ ?_⟩
  · rintro i σ H3 hi ⟨s3, ⟨v4, rfl⟩, zs, hz, nz⟩
    have hi' : i + 1 < us.length := by omega
    have zl : zs.length = i + 1 := by rw [nz.1, recL_len]
    have zr : AllZ b h' (recL (pwF (lsL us) t) (i + 1)) := AllZ.rec zh (by omega)
    refine ⟨_, rfl, .inl ⟨rfl, _, SqL.of hz⟩, _, rfl, _, rfl, _, rfl, fb, zs, rfl, SqL.of hz, fun p np => ?_⟩
    have sp := new_same np (HO.lst zs.reverse)
    refine ⟨v2, .ref p, lsL us, (recL (pwF (lsL us) t) (i + 1)).reverse, b, g, h', rfl, (hS.same s3).same sp, ⟨p, _, rfl, upd_same, nz.rev.same sp⟩, by rw [lsL_len]; omega, m1, zg, zr.rev, fun td H4 s4 n4 e4 => ?_⟩
    have ed : dotL (lsL us) (recL (pwF (lsL us) t) (i + 1)).reverse = mulS (ser (lsL us)) (ser (pwL us t)) i := by
      have l := recL_len (pwF (lsL us) t) (i + 1)
      rw [dot_at (k := i + 1) (by rw [lsL_len]; omega) (by rw [List.length_reverse, l])]
      exact sum_congr fun j hj => by rw [ser_rev (by omega), l, show i + 1 - 1 - j = i - j by omega, ← recL_pre (pwF (lsL us) t) (i + 1) us.length (by omega) (i - j) (by omega)]; rfl
    rw [ed] at e4
    have hz4 := s4 _ _ (sp _ _ hz)
    refine ⟨y, .ref td, t, _, rfl, (nt0.same s3).same (sp.trans s4), .at e4, bt, c1 i (by omega), fun tp H5 s5 n5 e5 => ?_⟩
    refine ⟨_, rfl, (by show 2 ≤ sizeLine; decide), fun tt ntt => ?_⟩
    have s6 := new_same ntt (HO.tup [V.int (1 + (i : Int)), .int 1])
    refine ⟨.ref tp, .ref tt, _, nR (i + 1), rfl, (show Nq K H5 (.ref tp) _ from .at e5).same s6, nR_at (by omega), c2 i (by omega), nR_b (by omega), nR_ne (by omega), fun tq H7 s7 n7 e7 => ?_⟩
    rw [← pw_succ t (by omega)] at e7
    have s47 := s4.trans (s5.trans (s6.trans s7))
    have hz7 := s7 _ _ (s6 _ _ (s5 _ _ hz4))
    refine ⟨fb, zs, _, rfl, rfl, hz7, small1000 (by omega), ?_, ⟨_, rfl⟩, zs ++ [.ref tq], upd_same, ?_⟩
    · intro d o hd
      have nd : d ≠ fb := fun z => by rw [z, nf] at hd; cases hd
      rw [upd_ne nd]
      exact s47 _ _ (sp _ _ (s3 _ _ hd))
    · refine Nl.setL ?_ hz7
      have e8 : recL (pwF (lsL us) t) (i + 1 + 1) = recL (pwF (lsL us) t) (i + 1) ++ [ser (pwL us t) (i + 1)] := by
        have e0 : ser (pwL us t) (i + 1) = pwF (lsL us) t (recL (pwF (lsL us) t) (i + 1)) := recL_at _ hi'
        rw [e0]
        rfl
      rw [e8]
      exact ((nz.same (sp.trans s47))).snoc (.at e7)
  · rintro σ H3 ⟨s3, ⟨v4, rfl⟩, zs, hz, nz⟩
    rw [show (((xs.length : Nat) : Int) - 1).toNat + 1 = us.length by omega] at nz
    exact ⟨_, rfl, q fb H3 zs (s0.trans s3) (s0.free nf) hz nz⟩
end
end Kx
end
section
set_option maxHeartbeats 4000000
namespace Kx
open PySem PySem.Spec PyProof.Rows L2 RZ
section
variable {P : Program} {w : World} {K : PySem.W.Frag} {mg : Str → Option Value} {base : Heap} {f C : Addr} {fd : FuncData}
theorem scI1 : FnScope ["self", "value"] ["self", "value"] (defScope C_InvalidNumber_init) := ⟨rfl, rfl, rfl, by decide +kernel, rfl, by decide +kernel, by decide +kernel⟩
end
section
variable {P : Program} {w : World} {K : PySem.W.Frag} {mg : Str → Option Value} {base : Heap} {f C : Addr} {fd : FuncData}
theorem init_1 (F : Fun K "__init__" "InvalidNumber.__init__" C_InvalidNumber_init f fd) (T : XC K C) (n0 : PySem.W.findIn K (.ref C) "code" = some none) (n1 : PySem.W.findIn K (.ref C) "value" = some none) : FnOk P w K mg base CX0 1 f fd ["self", "value"] (spIn C 1 (fs1 "InvalidNumber" "value")) := by
  refine F.ok scI1 (fun vs H Q E h => ?_) (fun cdv A outer s H vs Q E hr h => ?_)
  · obtain ⟨a, ws, rfl, l, _⟩ := h
    exact congrArg Nat.succ l
  obtain ⟨a, ws, rfl, l, ha, q⟩ := h
  obtain ⟨v, rfl⟩ : ∃ v, ws = [v] := by match ws, l with | [v], _ => exact ⟨v, rfl⟩
  refine ⟨_, pss_cons (ps_xst (pv 0) pe_str) (pss_one (ps_xst (pv 0) (pv 1))), ?_⟩
  refine ⟨_, rfl, a, _, rfl, T, n0, .inl ⟨ha, fun e H1 ne he h1 h2 h3 => ?_⟩⟩
  refine ⟨_, rfl, _, rfl, a, _, rfl, T, n1, .inr ⟨e, _, h1, h2, (by show 1 ≤ 900; decide), ?_⟩⟩
  exact q e _ ne he (by rw [upd_ne (Ne.symm ne)]; exact h1) (by rw [upd_same]; rfl) (fun b b1 b2 => by rw [upd_ne b2]; exact h3 b b1 b2)
end
section
variable {P : Program} {w : World} {K : PySem.W.Frag} {mg : Str → Option Value} {base : Heap} {f fW CO CN CP CL CU : Addr} {fd fdW : FuncData}
theorem scCk : FnScope ["value"] ["value"] (defScope F_check_number) := ⟨rfl, rfl, rfl, by decide +kernel, rfl, by decide +kernel, by decide +kernel⟩
end
section
variable {P : Program} {w : World} {K : PySem.W.Frag} {mg : Str → Option Value} {base : Heap} {f fW CO CN CP CL CU : Addr} {fd fdW : FuncData}
theorem ok_cnum (G : Fun K "check_number" "check_number" F_check_number f fd) (UF : Use P w K mg base CX0 2 "is_fraction" ["value"] (spIsG K) []) (Z : ErrC P w K mg base "InvalidNumber" 1 (fs1 "InvalidNumber" "value") CN) : FnOk P w K mg base (L2.CX P w) 3 f fd ["value"] (spCk K CN) := by
  refine G.okX scCk (fun vs H Q E h => ?_) (fun cdv A outer s H vs Q E hr h => ?_)
  · obtain ⟨v, r, rfl, _⟩ := h
    rfl
  obtain ⟨v, r, rfl, hin, h1, h2⟩ := h
  obtain ⟨fI, fdI, ps, i1, i2, i3, i4⟩ := Z.i
  refine ⟨_, pss_one (ps_if (pt_not (pt_val (pe_use UF hr rfl pass0 (pa_cons (pv 0) pa_nil)))) (pss_one (ps_raise rfl (takes_of rfl rfl rfl rfl) (pmk_xo Z.T Z.ty i1 i2 i3 hr i4 pass0 rfl Z.m (pa_cons (pv 0) pa_nil)))) pss_nil), ?_⟩
  refine ⟨_, rfl, v, r, rfl, hin, _, rfl, ?_⟩
  cases r with
  | true => exact iteF (h1 rfl)
  | false => exact iteT ⟨_, rfl, (by show 1 ≤ 1000; decide), fun a na => air_of (C := CN) (n := 1) (ws := [v]) na rfl (h2 rfl)⟩
end
section
variable {P : Program} {w : World} {K : PySem.W.Frag} {mg : Str → Option Value} {base : Heap} {f fL o0 : Addr} {fd fdL : FuncData}
theorem scMo : FnScope nMo ["numbers", "t"] (defScope F_multiples_of) := ⟨rfl, rfl, rfl, by decide +kernel, rfl, by decide +kernel, by decide +kernel⟩
end
section
variable {P : Program} {w : World} {K : PySem.W.Frag} {mg : Str → Option Value} {base : Heap} {f fL o0 : Addr} {fd fdL : FuncData}
theorem ok_multiples (F : Fun K "multiples_of" "multiples_of" F_multiples_of f fd) (UP : Use P w K mg base CX0 2 "product_of" ["one", "other"] (spProQ K) []) : FnOk P w K mg base CX0 3 f fd ["numbers", "t"] (spMulsL K) := by
  refine F.ok scMo (fun vs H Q E h => ?_) (fun cdv A outer s H vs Q E hr h => ?_)
  · obtain ⟨x, y, qs, t, rfl, _⟩ := h
    rfl
  obtain ⟨x, y, qs, t, rfl, ⟨xa, xs, rfl, hx, nx⟩, ht, l1, bq, bt, q⟩ := h
  refine ⟨_, pss_one (ps_ret (pe_lc (own := [("number", 2)]) (g := gName 2) (tt := tYes) rfl scMo.nd (pi_list (pv 0)) (blkOk_by (N := nMo) (sc := defScope F_multiples_of) (by decide +kernel))
      (fun _ _ _ _ _ => pg_name (i := 2) scMo.nd rfl (Or.inl rfl)) (fun _ _ _ _ _ => pts_nil) (fun _ _ _ _ _ => pe_use UP hr rfl pass0 (pa_cons (pv 2) (pa_cons (pv 1) pa_nil))))), ?_⟩
  refine ⟨_, rfl, xa, rfl, ⟨_, SqL.of hx⟩, fun D nD => ?_⟩
  have lx : xs.length = qs.length := nx.1
  refine lc_nums (K := K) (walk_list (K := K) (a := xa) (xs := xs)) (qs.map (· * t)) (by rw [List.length_map]; omega) nD (by omega) (fun H' s => SqL.of (s _ _ hx)) ?_ (fun H' zs s h n => q D H' zs s nD h n)
  rintro i r x H2 H3 k hq s2 ⟨rfl, hx2⟩ hk
  rw [List.getElem?_map] at hq
  obtain ⟨a, ea, rfl⟩ := Option.map_eq_some_iff.mp hq
  exact ⟨rfl, _, rfl, _, rfl, _, _, a, t, rfl, (nx.2 i x a hx2 ea).same s2, ht.same s2, bq a (List.mem_of_getElem? ea), bt, fun t' H4 s4 n4 h4 => hk _ _ s4 (.at h4)⟩
end
section
variable {P : Program} {w : World} {K : PySem.W.Frag} {mg : Str → Option Value} {base : Heap} {f C S CF CO CN CP CL CU o0 : Addr} {fd : FuncData}
theorem scSc : FnScope ["self", "t"] ["self", "t"] (defScope C_Row_scaled) := ⟨rfl, rfl, rfl, by decide +kernel, rfl, by decide +kernel, by decide +kernel⟩
end
section
variable {P : Program} {w : World} {K : PySem.W.Frag} {mg : Str → Option Value} {base : Heap} {f C S CF CO CN CP CL CU o0 : Addr} {fd : FuncData}
theorem ok_scaled (G : Fun K "scaled" "Row.scaled" C_Row_scaled f fd) (k : RowK P w K mg base C CF CO) (UK : Use P w K mg base (L2.CX P w) 3 "check_number" ["value"] (spCk K CN) []) (UM : Use P w K mg base CX0 3 "multiples_of" ["numbers", "t"] (spMulsL K) []) : FnOk P w K mg base (L2.CX P w) 8 f fd ["self", "t"] (spSc K C CN) := by
  refine G.okX scSc (fun vs H Q E h => ?_) (fun cdv A outer s H vs Q E hr h => ?_)
  · obtain ⟨x, v, qs, r, rfl, _⟩ := h
    rfl
  obtain ⟨y, v, qs, r, rfl, hR, hin, h1, h2⟩ := h
  obtain ⟨x, dx, b, xs, fs, rfl, hx, hb, nx, f1, f2, f3, f4, l3, l25⟩ := hR.num k
  obtain ⟨fI, fdI, M, FI, bI, _⟩ := k.ini
  have hr3 := hr.mono (show 3 ≤ 7 by decide)
  refine ⟨_, pss_cons (ps_expr (pe_use (E := E) UK hr3 rfl (passes_call (takes_of rfl rfl rfl rfl) (fun _ _ _ _ h => h)) (pa_cons (pv 1) pa_nil)))
    (pss_one (ps_ret (pe_make (E := E) M FI hr rfl k.m bI .nil (passes_call (takes_of rfl rfl rfl rfl) (fun _ _ _ _ h => h)) (pa_cons (pe_use UM hr3 rfl pass0 (pa_cons (pe_fld (pv 0) rfl) (pa_cons (pv 1) pa_nil))) pa_nil)))), ?_⟩
  refine ⟨_, rfl, v, r, rfl, hin, fun hr' => ?_, h1⟩
  obtain ⟨t, ht, bq, bt, g⟩ := h2 hr'
  refine ⟨_, rfl, x, C, dx, _, _, rfl, hx, k.c, k.nA _ (by simp [rwN]), f1, _, rfl, _, v, qs, t, rfl, ⟨b, xs, rfl, hb, nx⟩, ht, by omega, bq, bt, fun d H1 ys s1 n1 e1 m1 => ?_⟩
  exact row_new s1 (.inl e1) m1 (by rw [List.length_map]; exact l3) (by rw [List.length_map]; exact l25) g
end
section
variable {P : Program} {w : World} {K : PySem.W.Frag} {mg : Str → Option Value} {base : Heap} {f C S CF CO pS gS : Addr} {mc : Value} {fd fdS : FuncData}
theorem scOdd : FnScope ["_law_bag_here", "_law_some"] ["_law_bag_here"] (defScope L_odd) := ⟨rfl, rfl, rfl, by decide +kernel, rfl, by decide +kernel, by decide +kernel⟩
end
section
variable {P : Program} {w : World} {K : PySem.W.Frag} {mg : Str → Option Value} {base : Heap} {f C S CF CO pS gS : Addr} {mc : Value} {fd fdS : FuncData}
theorem ok_odd (F : Fun K "_law_odd" "_law_odd" L_odd f fd) (k : StepK P w K mg base C S CF CO) (rS : ClX.CRead K S mc) (cS : CSta K S mc "still" pS gS) (FS : FnOk P w K mg base CX0 8 gS fdS ["order"] (spStil K S)) (bS : Binds K fdS ["order"] [])
    (UO : Use P w K mg base CX0 2 "_law_of" ["_law_bag_here", "_law_things"] spOfL []) : FnOk P w K mg base CX0 9 f fd ["_law_bag_here"] (spOdd K S) := by
  refine F.ok scOdd (fun vs H Q E h => ?_) (fun cdv A outer s H vs Q E hr h => ?_)
  · obtain ⟨B, p, rfl, _⟩ := h
    rfl
  obtain ⟨B, p, rfl, hb, q⟩ := h
  refine ⟨_, C8.pss_cut (ps_set (i := 1) scOdd.nd rfl (Or.inl rfl) (pe_lst (pa_cons pe_non (pa_cons pe_bl (pa_cons pe_bl (pa_cons pe_int (pa_cons pe_int (pa_cons pe_str (pa_cons pe_str (pa_cons pe_str (pa_cons (pe_tup (pa_cons pe_int (pa_cons pe_int pa_nil))) (pa_cons (pe_tup (pa_cons pe_int (pa_cons pe_int pa_nil))) (pa_cons (pe_tup (pa_cons pe_int (pa_cons pe_int pa_nil))) (pa_cons (pe_tup (pa_cons pe_int (pa_cons (pe_un un_neg pe_int) pa_nil))) (pa_cons (pe_tup (pa_cons pe_int (pa_cons pe_int pa_nil))) (pa_cons (pe_lst (pa_cons pe_int (pa_cons pe_int pa_nil))) (pa_cons (pe_tup (pa_cons pe_bl (pa_cons pe_int pa_nil))) (pa_cons (pe_tup (pa_cons pe_int (pa_cons pe_bl pa_nil))) pa_nil))))))))))))))))))
    (C8.pss_cut (ps_set (i := 1) scOdd.nd rfl (Or.inl rfl) (pe_op op_cat (pv 1) (pe_lst (pa_cons (pe_tup (pa_cons pe_int pa_nil)) (pa_cons (pe_tup (pa_cons pe_int (pa_cons pe_int (pa_cons pe_int pa_nil)))) (pa_cons (pe_tup pa_nil) (pa_cons (pe_lst pa_nil) (pa_cons (pe_tup (pa_cons (pe_tup (pa_cons pe_int (pa_cons pe_int pa_nil))) (pa_cons pe_int pa_nil))) (pa_cons (pe_tup (pa_cons pe_int (pa_cons pe_non pa_nil))) (pa_cons (pe_tup (pa_cons pe_str (pa_cons pe_int pa_nil))) (pa_cons (pe_lst (pa_cons (pe_tup (pa_cons pe_int (pa_cons pe_int pa_nil))) pa_nil)) (pa_cons (pe_static (C8.pe_gc (v := .ref S) rfl ⟨_, k.m, rfl⟩) rS cS FS hr bS pass0 (pa_cons pe_int pa_nil)) pa_nil))))))))))))
    (pss_one (ps_ret (pe_use UO (hr.mono (by decide)) rfl pass0 (pa_cons (pv 0) (pa_cons (pv 1) pa_nil)))))), ?_⟩
  refine ⟨fun σ H' => ∃ l xs, σ = [some (.ref B), some (.ref l)] ∧ H' l = some (.lst xs) ∧ H l = none ∧ xs.length = 16 ∧ (∀ x ∈ xs, Od K S H' x) ∧ Same H H', ?_, ?_⟩
  · refine ⟨(by show 2 ≤ sizeLine; decide), fun t1 n1 => ?_⟩
    have s1 := new_same n1 (HO.tup [V.int (2), V.int (4)])
    have h1 : (upd H t1 (HO.tup [V.int (2), V.int (4)])) t1 = some (HO.tup [V.int (2), V.int (4)]) := upd_same
    generalize upd H t1 (HO.tup [V.int (2), V.int (4)]) = G1 at s1 h1 ⊢
    refine ⟨(by show 2 ≤ sizeLine; decide), fun t2 n2 => ?_⟩
    have s2 := new_same n2 (HO.tup [V.int (1), V.int (0)])
    have h2 : (upd G1 t2 (HO.tup [V.int (1), V.int (0)])) t2 = some (HO.tup [V.int (1), V.int (0)]) := upd_same
    generalize upd G1 t2 (HO.tup [V.int (1), V.int (0)]) = G2 at s2 h2 ⊢
    refine ⟨(by show 2 ≤ sizeLine; decide), fun t3 n3 => ?_⟩
    have s3 := new_same n3 (HO.tup [V.int (0), V.int (2)])
    have h3 : (upd G2 t3 (HO.tup [V.int (0), V.int (2)])) t3 = some (HO.tup [V.int (0), V.int (2)]) := upd_same
    generalize upd G2 t3 (HO.tup [V.int (0), V.int (2)]) = G3 at s3 h3 ⊢
    refine ⟨_, rfl, (by show 2 ≤ sizeLine; decide), fun t4 n4 => ?_⟩
    have s4 := new_same n4 (HO.tup [V.int (1), V.int (-2)])
    have h4 : (upd G3 t4 (HO.tup [V.int (1), V.int (-2)])) t4 = some (HO.tup [V.int (1), V.int (-2)]) := upd_same
    generalize upd G3 t4 (HO.tup [V.int (1), V.int (-2)]) = G4 at s4 h4 ⊢
    refine ⟨(by show 2 ≤ sizeLine; decide), fun t5 n5 => ?_⟩
    have s5 := new_same n5 (HO.tup [V.int (0), V.int (0)])
    have h5 : (upd G4 t5 (HO.tup [V.int (0), V.int (0)])) t5 = some (HO.tup [V.int (0), V.int (0)]) := upd_same
    generalize upd G4 t5 (HO.tup [V.int (0), V.int (0)]) = G5 at s5 h5 ⊢
    refine ⟨(by show 2 ≤ sizeLine; decide), fun t6 n6 => ?_⟩
    have s6 := new_same n6 (HO.lst [V.int (1), V.int (2)])
    have h6 : (upd G5 t6 (HO.lst [V.int (1), V.int (2)])) t6 = some (HO.lst [V.int (1), V.int (2)]) := upd_same
    generalize upd G5 t6 (HO.lst [V.int (1), V.int (2)]) = G6 at s6 h6 ⊢
    refine ⟨(by show 2 ≤ sizeLine; decide), fun t7 n7 => ?_⟩
    have s7 := new_same n7 (HO.tup [V.bl true, V.int (1)])
    have h7 : (upd G6 t7 (HO.tup [V.bl true, V.int (1)])) t7 = some (HO.tup [V.bl true, V.int (1)]) := upd_same
    generalize upd G6 t7 (HO.tup [V.bl true, V.int (1)]) = G7 at s7 h7 ⊢
    refine ⟨(by show 2 ≤ sizeLine; decide), fun t8 n8 => ?_⟩
    have s8 := new_same n8 (HO.tup [V.int (1), V.bl true])
    have h8 : (upd G7 t8 (HO.tup [V.int (1), V.bl true])) t8 = some (HO.tup [V.int (1), V.bl true]) := upd_same
    generalize upd G7 t8 (HO.tup [V.int (1), V.bl true]) = G8 at s8 h8 ⊢
    refine ⟨(by show 16 ≤ sizeLine; decide), fun t9 n9 => ?_⟩
    have s9 := new_same n9 (HO.lst [V.non, V.bl true, V.bl false, V.int (0), V.int (1), V.str "1", V.str "", V.str "1/2", V.ref t1, V.ref t2, V.ref t3, V.ref t4, V.ref t5, V.ref t6, V.ref t7, V.ref t8])
    have h9 : (upd G8 t9 (HO.lst [V.non, V.bl true, V.bl false, V.int (0), V.int (1), V.str "1", V.str "", V.str "1/2", V.ref t1, V.ref t2, V.ref t3, V.ref t4, V.ref t5, V.ref t6, V.ref t7, V.ref t8])) t9 = some (HO.lst [V.non, V.bl true, V.bl false, V.int (0), V.int (1), V.str "1", V.str "", V.str "1/2", V.ref t1, V.ref t2, V.ref t3, V.ref t4, V.ref t5, V.ref t6, V.ref t7, V.ref t8]) := upd_same
    generalize upd G8 t9 (HO.lst [V.non, V.bl true, V.bl false, V.int (0), V.int (1), V.str "1", V.str "", V.str "1/2", V.ref t1, V.ref t2, V.ref t3, V.ref t4, V.ref t5, V.ref t6, V.ref t7, V.ref t8]) = G9 at s9 h9 ⊢
    refine ⟨t9, _, rfl, h9, ((((((((s1).trans s2).trans s3).trans s4).trans s5).trans s6).trans s7).trans s8).free n9, rfl, fun x hx => ?_, ((((((((s1).trans s2).trans s3).trans s4).trans s5).trans s6).trans s7).trans s8).trans s9⟩
    simp only [List.mem_cons, List.not_mem_nil, or_false] at hx
    rcases hx with rfl | rfl | rfl | rfl | rfl | rfl | rfl | rfl | rfl | rfl | rfl | rfl | rfl | rfl | rfl | rfl
    · exact ⟨.flat rfl, .flat rfl⟩
    · exact ⟨.flat rfl, .flat rfl⟩
    · exact ⟨.flat rfl, .flat rfl⟩
    · exact ⟨.flat rfl, .flat rfl⟩
    · exact ⟨.flat rfl, .flat rfl⟩
    · exact ⟨.flat rfl, .flat rfl⟩
    · exact ⟨.flat rfl, .flat rfl⟩
    · exact ⟨.flat rfl, .flat rfl⟩
    · exact ⟨.tup (s9 _ _ (s8 _ _ (s7 _ _ (s6 _ _ (s5 _ _ (s4 _ _ (s3 _ _ (s2 _ _ (h1))))))))) (by show 2 ≤ 60; decide) (fun x hx => by
            simp only [List.mem_cons, List.not_mem_nil, or_false] at hx
            rcases hx with rfl | rfl <;> exact .inl rfl), .bad (s9 _ _ (s8 _ _ (s7 _ _ (s6 _ _ (s5 _ _ (s4 _ _ (s3 _ _ (s2 _ _ (h1))))))))) (by decide) (by decide)⟩
    · exact ⟨.tup (s9 _ _ (s8 _ _ (s7 _ _ (s6 _ _ (s5 _ _ (s4 _ _ (s3 _ _ (h2)))))))) (by show 2 ≤ 60; decide) (fun x hx => by
            simp only [List.mem_cons, List.not_mem_nil, or_false] at hx
            rcases hx with rfl | rfl <;> exact .inl rfl), .bad (s9 _ _ (s8 _ _ (s7 _ _ (s6 _ _ (s5 _ _ (s4 _ _ (s3 _ _ (h2)))))))) (by decide) (by decide)⟩
    · exact ⟨.tup (s9 _ _ (s8 _ _ (s7 _ _ (s6 _ _ (s5 _ _ (s4 _ _ (h3))))))) (by show 2 ≤ 60; decide) (fun x hx => by
            simp only [List.mem_cons, List.not_mem_nil, or_false] at hx
            rcases hx with rfl | rfl <;> exact .inl rfl), .bad (s9 _ _ (s8 _ _ (s7 _ _ (s6 _ _ (s5 _ _ (s4 _ _ (h3))))))) (by decide) (by decide)⟩
    · exact ⟨.tup (s9 _ _ (s8 _ _ (s7 _ _ (s6 _ _ (s5 _ _ (h4)))))) (by show 2 ≤ 60; decide) (fun x hx => by
            simp only [List.mem_cons, List.not_mem_nil, or_false] at hx
            rcases hx with rfl | rfl <;> exact .inl rfl), .bad (s9 _ _ (s8 _ _ (s7 _ _ (s6 _ _ (s5 _ _ (h4)))))) (by decide) (by decide)⟩
    · exact ⟨.tup (s9 _ _ (s8 _ _ (s7 _ _ (s6 _ _ (h5))))) (by show 2 ≤ 60; decide) (fun x hx => by
            simp only [List.mem_cons, List.not_mem_nil, or_false] at hx
            rcases hx with rfl | rfl <;> exact .inl rfl), .bad (s9 _ _ (s8 _ _ (s7 _ _ (s6 _ _ (h5))))) (by decide) (by decide)⟩
    · exact ⟨.lst (s9 _ _ (s8 _ _ (s7 _ _ (h6)))) (by show 2 ≠ 5; decide) (by show 2 ≤ 60; decide) (fun x hx => by
            simp only [List.mem_cons, List.not_mem_nil, or_false] at hx
            rcases hx with rfl | rfl <;> exact .inl rfl), .lst (s9 _ _ (s8 _ _ (s7 _ _ (h6)))) (by show 2 ≠ 5; decide)⟩
    · exact ⟨.tup (s9 _ _ (s8 _ _ (h7))) (by show 2 ≤ 60; decide) (fun x hx => by
            simp only [List.mem_cons, List.not_mem_nil, or_false] at hx
            rcases hx with rfl | rfl <;> exact .inl rfl), .one (s9 _ _ (s8 _ _ (h7))) (.inr (.inl ⟨_, rfl⟩)) (.inr ⟨_, rfl⟩)⟩
    · exact ⟨.tup (s9 _ _ (h8)) (by show 2 ≤ 60; decide) (fun x hx => by
            simp only [List.mem_cons, List.not_mem_nil, or_false] at hx
            rcases hx with rfl | rfl <;> exact .inl rfl), .two (s9 _ _ (h8)) ⟨_, rfl⟩ (.inr (.inl ⟨_, rfl⟩))⟩
  rintro σ H1 ⟨l, xs, rfl, hl, nl, hlen, hod, sm⟩
  refine ⟨fun σ H' => ∃ l xs, σ = [some (.ref B), some (.ref l)] ∧ H' l = some (.lst xs) ∧ H l = none ∧ xs.length = 25 ∧ (∀ x ∈ xs, Od K S H' x) ∧ Same H H', ?_, ?_⟩
  · refine ⟨_, rfl, (by show 1 ≤ sizeLine; decide), fun t1 n1 => ?_⟩
    have s1 := new_same n1 (HO.tup [V.int (1)])
    have h1 : (upd H1 t1 (HO.tup [V.int (1)])) t1 = some (HO.tup [V.int (1)]) := upd_same
    generalize upd H1 t1 (HO.tup [V.int (1)]) = G1 at s1 h1 ⊢
    refine ⟨(by show 3 ≤ sizeLine; decide), fun t2 n2 => ?_⟩
    have s2 := new_same n2 (HO.tup [V.int (1), V.int (2), V.int (3)])
    have h2 : (upd G1 t2 (HO.tup [V.int (1), V.int (2), V.int (3)])) t2 = some (HO.tup [V.int (1), V.int (2), V.int (3)]) := upd_same
    generalize upd G1 t2 (HO.tup [V.int (1), V.int (2), V.int (3)]) = G2 at s2 h2 ⊢
    refine ⟨(by show 0 ≤ sizeLine; decide), fun t3 n3 => ?_⟩
    have s3 := new_same n3 (HO.tup [])
    have h3 : (upd G2 t3 (HO.tup [])) t3 = some (HO.tup []) := upd_same
    generalize upd G2 t3 (HO.tup []) = G3 at s3 h3 ⊢
    refine ⟨(by show 0 ≤ sizeLine; decide), fun t4 n4 => ?_⟩
    have s4 := new_same n4 (HO.lst [])
    have h4 : (upd G3 t4 (HO.lst [])) t4 = some (HO.lst []) := upd_same
    generalize upd G3 t4 (HO.lst []) = G4 at s4 h4 ⊢
    refine ⟨(by show 2 ≤ sizeLine; decide), fun t5 n5 => ?_⟩
    have s5 := new_same n5 (HO.tup [V.int (1), V.int (1)])
    have h5 : (upd G4 t5 (HO.tup [V.int (1), V.int (1)])) t5 = some (HO.tup [V.int (1), V.int (1)]) := upd_same
    generalize upd G4 t5 (HO.tup [V.int (1), V.int (1)]) = G5 at s5 h5 ⊢
    refine ⟨(by show 2 ≤ sizeLine; decide), fun t6 n6 => ?_⟩
    have s6 := new_same n6 (HO.tup [V.ref t5, V.int (1)])
    have h6 : (upd G5 t6 (HO.tup [V.ref t5, V.int (1)])) t6 = some (HO.tup [V.ref t5, V.int (1)]) := upd_same
    generalize upd G5 t6 (HO.tup [V.ref t5, V.int (1)]) = G6 at s6 h6 ⊢
    refine ⟨(by show 2 ≤ sizeLine; decide), fun t7 n7 => ?_⟩
    have s7 := new_same n7 (HO.tup [V.int (1), V.non])
    have h7 : (upd G6 t7 (HO.tup [V.int (1), V.non])) t7 = some (HO.tup [V.int (1), V.non]) := upd_same
    generalize upd G6 t7 (HO.tup [V.int (1), V.non]) = G7 at s7 h7 ⊢
    refine ⟨(by show 2 ≤ sizeLine; decide), fun t8 n8 => ?_⟩
    have s8 := new_same n8 (HO.tup [V.str "1", V.int (2)])
    have h8 : (upd G7 t8 (HO.tup [V.str "1", V.int (2)])) t8 = some (HO.tup [V.str "1", V.int (2)]) := upd_same
    generalize upd G7 t8 (HO.tup [V.str "1", V.int (2)]) = G8 at s8 h8 ⊢
    refine ⟨(by show 2 ≤ sizeLine; decide), fun t9 n9 => ?_⟩
    have s9 := new_same n9 (HO.tup [V.int (1), V.int (1)])
    have h9 : (upd G8 t9 (HO.tup [V.int (1), V.int (1)])) t9 = some (HO.tup [V.int (1), V.int (1)]) := upd_same
    generalize upd G8 t9 (HO.tup [V.int (1), V.int (1)]) = G9 at s9 h9 ⊢
    refine ⟨(by show 1 ≤ sizeLine; decide), fun t10 n10 => ?_⟩
    have s10 := new_same n10 (HO.lst [V.ref t9])
    have h10 : (upd G9 t10 (HO.lst [V.ref t9])) t10 = some (HO.lst [V.ref t9]) := upd_same
    generalize upd G9 t10 (HO.lst [V.ref t9]) = G10 at s10 h10 ⊢
    refine ⟨rfl, 3, rfl, by decide, by decide, fun G11 y11 s11 h11 => ?_⟩
    refine ⟨(by show 9 ≤ sizeLine; decide), fun t12 n12 => ?_⟩
    have s12 := new_same n12 (HO.lst [V.ref t1, V.ref t2, V.ref t3, V.ref t4, V.ref t6, V.ref t7, V.ref t8, V.ref t10, y11])
    have h12 : (upd G11 t12 (HO.lst [V.ref t1, V.ref t2, V.ref t3, V.ref t4, V.ref t6, V.ref t7, V.ref t8, V.ref t10, y11])) t12 = some (HO.lst [V.ref t1, V.ref t2, V.ref t3, V.ref t4, V.ref t6, V.ref t7, V.ref t8, V.ref t10, y11]) := upd_same
    generalize upd G11 t12 (HO.lst [V.ref t1, V.ref t2, V.ref t3, V.ref t4, V.ref t6, V.ref t7, V.ref t8, V.ref t10, y11]) = G12 at s12 h12 ⊢
    have sA : Same H1 G12 := (((((((((((s1).trans s2).trans s3).trans s4).trans s5).trans s6).trans s7).trans s8).trans s9).trans s10).trans s11).trans s12
    refine ⟨l, t12, xs, _, rfl, rfl, sA _ _ hl, h12, Nat.le_of_lt (small1000 (by rw [hlen]; show 16 + 9 ≤ 1000; decide)), fun m nm => ?_⟩
    have sm2 := new_same nm (HO.lst (xs ++ [V.ref t1, V.ref t2, V.ref t3, V.ref t4, V.ref t6, V.ref t7, V.ref t8, V.ref t10, y11]))
    refine ⟨m, _, rfl, upd_same, (sm.trans sA).free nm, by rw [List.length_append, hlen]; rfl, fun x hx => ?_, sm.trans (sA.trans sm2)⟩
    rcases List.mem_append.mp hx with hx | hx
    · exact (hod x hx).same (sA.trans sm2)
    · refine Od.same ?_ sm2
      simp only [List.mem_cons, List.not_mem_nil, or_false] at hx
      rcases hx with rfl | rfl | rfl | rfl | rfl | rfl | rfl | rfl | rfl
      · exact ⟨.tup (s12 _ _ (s11 _ _ (s10 _ _ (s9 _ _ (s8 _ _ (s7 _ _ (s6 _ _ (s5 _ _ (s4 _ _ (s3 _ _ (s2 _ _ (h1)))))))))))) (by show 1 ≤ 60; decide) (fun x hx => by
              simp only [List.mem_cons, List.not_mem_nil, or_false] at hx
              rcases hx with rfl <;> exact .inl rfl), .len (s12 _ _ (s11 _ _ (s10 _ _ (s9 _ _ (s8 _ _ (s7 _ _ (s6 _ _ (s5 _ _ (s4 _ _ (s3 _ _ (s2 _ _ (h1)))))))))))) (by show 1 ≠ 2; decide)⟩
      · exact ⟨.tup (s12 _ _ (s11 _ _ (s10 _ _ (s9 _ _ (s8 _ _ (s7 _ _ (s6 _ _ (s5 _ _ (s4 _ _ (s3 _ _ (h2))))))))))) (by show 3 ≤ 60; decide) (fun x hx => by
              simp only [List.mem_cons, List.not_mem_nil, or_false] at hx
              rcases hx with rfl | rfl | rfl <;> exact .inl rfl), .len (s12 _ _ (s11 _ _ (s10 _ _ (s9 _ _ (s8 _ _ (s7 _ _ (s6 _ _ (s5 _ _ (s4 _ _ (s3 _ _ (h2))))))))))) (by show 3 ≠ 2; decide)⟩
      · exact ⟨.tup (s12 _ _ (s11 _ _ (s10 _ _ (s9 _ _ (s8 _ _ (s7 _ _ (s6 _ _ (s5 _ _ (s4 _ _ (h3)))))))))) (by show 0 ≤ 60; decide) (fun x hx => nomatch hx), .len (s12 _ _ (s11 _ _ (s10 _ _ (s9 _ _ (s8 _ _ (s7 _ _ (s6 _ _ (s5 _ _ (s4 _ _ (h3)))))))))) (by show 0 ≠ 2; decide)⟩
      · exact ⟨.lst (s12 _ _ (s11 _ _ (s10 _ _ (s9 _ _ (s8 _ _ (s7 _ _ (s6 _ _ (s5 _ _ (h4))))))))) (by show 0 ≠ 5; decide) (by show 0 ≤ 60; decide) (fun x hx => nomatch hx), .lst (s12 _ _ (s11 _ _ (s10 _ _ (s9 _ _ (s8 _ _ (s7 _ _ (s6 _ _ (s5 _ _ (h4))))))))) (by show 0 ≠ 5; decide)⟩
      · exact ⟨.tup (s12 _ _ (s11 _ _ (s10 _ _ (s9 _ _ (s8 _ _ (s7 _ _ (h6))))))) (by show 2 ≤ 60; decide) (fun x hx => by
              simp only [List.mem_cons, List.not_mem_nil, or_false] at hx
              rcases hx with rfl | rfl
              · exact .inr ⟨_, _, rfl, s12 _ _ (s11 _ _ (s10 _ _ (s9 _ _ (s8 _ _ (s7 _ _ (s6 _ _ (h5))))))), (by show 2 ≤ 60; decide), fun y hy => by
                simp only [List.mem_cons, List.not_mem_nil, or_false] at hy
                rcases hy with rfl | rfl <;> rfl⟩
              · exact .inl rfl), .one (s12 _ _ (s11 _ _ (s10 _ _ (s9 _ _ (s8 _ _ (s7 _ _ (h6))))))) (.inr (.inr (.inr ⟨_, _, rfl, s12 _ _ (s11 _ _ (s10 _ _ (s9 _ _ (s8 _ _ (s7 _ _ (s6 _ _ (h5)))))))⟩))) (.inr ⟨_, rfl⟩)⟩
      · exact ⟨.tup (s12 _ _ (s11 _ _ (s10 _ _ (s9 _ _ (s8 _ _ (h7)))))) (by show 2 ≤ 60; decide) (fun x hx => by
              simp only [List.mem_cons, List.not_mem_nil, or_false] at hx
              rcases hx with rfl | rfl <;> exact .inl rfl), .two (s12 _ _ (s11 _ _ (s10 _ _ (s9 _ _ (s8 _ _ (h7)))))) ⟨_, rfl⟩ (.inl rfl)⟩
      · exact ⟨.tup (s12 _ _ (s11 _ _ (s10 _ _ (s9 _ _ (h8))))) (by show 2 ≤ 60; decide) (fun x hx => by
              simp only [List.mem_cons, List.not_mem_nil, or_false] at hx
              rcases hx with rfl | rfl <;> exact .inl rfl), .one (s12 _ _ (s11 _ _ (s10 _ _ (s9 _ _ (h8))))) (.inr (.inr (.inl ⟨_, rfl⟩))) (.inr ⟨_, rfl⟩)⟩
      · exact ⟨.lst (s12 _ _ (s11 _ _ (h10))) (by show 1 ≠ 5; decide) (by show 1 ≤ 60; decide) (fun x hx => by
              simp only [List.mem_cons, List.not_mem_nil, or_false] at hx
              rcases hx with rfl
              · exact .inr ⟨_, _, rfl, s12 _ _ (s11 _ _ (s10 _ _ (h9))), (by show 2 ≤ 60; decide), fun y hy => by
                simp only [List.mem_cons, List.not_mem_nil, or_false] at hy
                rcases hy with rfl | rfl <;> rfl⟩), .lst (s12 _ _ (s11 _ _ (h10))) (by show 1 ≠ 5; decide)⟩
      · exact ⟨.st ((h11).same s12), .st ((h11).same s12)⟩
  rintro σ H2 ⟨m, ys, rfl, hm, nm, ylen, yod, sm2⟩
  have b2 := hb.same sm2
  have mB : m ≠ B := (hb.at nm).1
  refine ⟨_, rfl, _, rfl, B, p, m, ys, rfl, hm, mB, by omega, by omega, b2, fun H3 x b3 u3 hx => ?_⟩
  exact q H3 x b3 ((But.same sm2).trans u3) ((yod x hx).go b2 (Go.of u3))
end
section
variable {P : Program} {w : World} {K : PySem.W.Frag} {mg : Str → Option Value} {base : Heap} {f fL : Addr} {fd fdL : FuncData}
theorem scIs : FnScope nIs ["_law_thing"] (defScope L_is) := ⟨rfl, rfl, rfl, by decide +kernel, rfl, by decide +kernel, by decide +kernel⟩
end
section
variable {P : Program} {w : World} {K : PySem.W.Frag} {mg : Str → Option Value} {base : Heap} {f fL : Addr} {fd fdL : FuncData}
theorem ok_is (F : Fun K "_law_is" "_law_is" L_is f fd) (mI : mg "isinstance" = none) (mt : mg "tuple" = none) (mn : mg "len" = none) (mi : mg "int" = none) (mb : mg "bool" = none) (ma : mg "all" = none)
    (UL : Use P w K mg base CX0 1 "_law_low" ["_law_p", "_law_q"] spLowQ []) : FnOk P w K mg base CX0 2 f fd ["_law_thing"] (spIs K) := by
  refine F.ok scIs (fun vs H Q E h => ?_) (fun cdv A outer s H vs Q E hr h => ?_)
  · obtain ⟨v, r, rfl, _⟩ := h
    rfl
  obtain ⟨v, r, rfl, hf, q⟩ := h
  refine ⟨_, pss_cons (ps_if (PW.pt (pw_or (pt_not (pt_val (pe_callB call_isi rfl mI (by decide +kernel) (pa_cons (pv 0) (pa_cons (pe_bltn rfl mt boot_tuple (rel_ty _)) pa_nil))))) (pw_or1 (pt_cmpR op_ne (pe_callB call_len_seq rfl mn PySem.boot_len (pa_cons (pv 0) pa_nil)) pe_int (nomark _))))) (pss_one (ps_ret pe_bl)) pss_nil)
    (pss_cons (ps_if (pt_not (pt_val (pe_callB (cr_all rfl) rfl ma (by decide +kernel) (pa_cons (pe_lc (own := [("_law_part", 1)]) (g := gName 1) (tt := tYes) rfl scIs.nd (pi_tup (pv 0)) (blkOk_by (N := nIs) (sc := defScope L_is) (by decide +kernel)) (fun _ _ _ _ _ => pg_name (i := 1) scIs.nd rfl (Or.inl rfl)) (fun _ _ _ _ _ => pts_nil)
        (fun _ _ _ _ _ => pe_and (pe_callB (isi_at K rfl) rfl mI (by decide +kernel) (pa_cons (pv 1) (pa_cons (pe_bltn rfl mi boot_int (rel_ty _)) pa_nil))) (pe_one (pe_not (pe_callB (isi_at K rfl) rfl mI (by decide +kernel) (pa_cons (pv 1) (pa_cons (pe_bltn rfl mb boot_bool (rel_ty _)) pa_nil))))))) pa_nil)))) (pss_one (ps_ret pe_bl)) pss_nil)
    (pss_one (ps_ret (pe_and (pe_cmpR op_ge (pe_ix ix_tup (pv 0) pe_int (fun _ _ => rfl)) pe_int (nomark _)) (pe_one (pe_cmpR (op_eqD hr.units) (pe_use UL hr rfl pass0 (pa_cons (pe_ix ix_tup (pv 0) pe_int (fun _ _ => rfl)) (pa_cons (pe_ix ix_tup (pv 0) pe_int (fun _ _ => rfl)) pa_nil))) (pv 0) (nomark _))))))), ?_⟩
  have tk : PySem.W.kitOne K (.type "tuple") (.type "tuple") = some true := kit_ty kb_l.2.2.2
  rcases hf with ⟨T, ty, k, rfl⟩ | ⟨a, xs, rfl, ha, ht, hl, rfl⟩ | ⟨a, x, y, b1, b2, rfl, ha, ht, hx, hy, hh⟩
  · exact ⟨_, rfl, v, _, T, _, false, rfl, .ty _, ty, k, _, rfl, iteT (q H (Same.refl H))⟩
  · refine ⟨_, rfl, _, _, _, _, true, rfl, .ty _, ht, tk, _, rfl, iteF ?_⟩
    refine ⟨_, rfl, a, xs, rfl, .inr ha, rfl, _, rfl, ?_⟩
    rw [decide_eq_false (fun e => hl (by have := V.int.inj e; omega))]
    exact iteT (q H (Same.refl H))
  refine ⟨_, rfl, _, _, _, _, true, rfl, .ty _, ht, tk, _, rfl, iteF ?_⟩
  refine ⟨_, rfl, a, _, rfl, .inr ha, rfl, _, rfl, iteF ?_⟩
  refine ⟨_, rfl, a, rfl, ⟨_, ha⟩, fun D nD => ?_⟩
  refine lc_tup (K := K) (a := a) (xs := [x, y]) (fun i H' => Same H H' ∧ H' D = some (.lst (([b1, b2].take i).map V.bl))) ⟨new_same nD _, upd_same⟩ (fun i H' _ h => sqt_same ha h.1) ?_ ?_
  · rintro i z H' hz ⟨g, hD⟩
    obtain ⟨b, hb, hw⟩ : ∃ b, [b1, b2][i]? = some b ∧ WhV K H z b := by
      match i, hz with
      | 0, hz => exact ⟨b1, rfl, by rw [← Option.some.inj hz]; exact hx⟩
      | 1, hz => exact ⟨b2, rfl, by rw [← Option.some.inj hz]; exact hy⟩
      | _ + 2, hz => cases hz
    obtain ⟨T, x1, y1, ty, k1, k2, rfl⟩ := hw H' g
    refine ⟨rfl, ?_⟩
    refine yesT ?_
    refine ⟨_, rfl, z, _, T, _, x1, rfl, .ty _, ty, k1, _, rfl, ?_⟩
    have fin : ∀ c : Bool, c = (x1 && !y1) → ∃ acc, H' D = some (.lst acc) ∧ acc.length < sizeLine ∧ Same H (upd H' D (.lst (acc ++ [V.bl c]))) ∧ (upd H' D (.lst (acc ++ [V.bl c]))) D = some (.lst (([b1, b2].take (i + 1)).map V.bl)) := by
      rintro c rfl
      refine ⟨_, hD, small1000 ?_, fun e o h => by rw [upd_ne (ne_of_none h nD)]; exact g _ _ h, ?_⟩
      · rw [List.length_map, List.length_take]
        show min _ 2 ≤ 1000
        omega
      · rw [upd_same, List.take_add_one, hb, List.map_append]
        rfl
    cases x1 with
    | false => exact iteF (fin false rfl)
    | true => exact iteT ⟨_, rfl, z, _, T, _, y1, rfl, .ty _, ty, k2, _, rfl, fin _ (by rw [Bool.true_and])⟩
  rintro H' ⟨g, hD⟩
  refine ⟨D, [b1, b2], rfl, SqL.of hD, _, rfl, ?_⟩
  rcases hh with ⟨hb, rfl⟩ | ⟨u, l, rfl, rfl, rfl, rfl, rfl, bl⟩
  · rw [show ([b1, b2].all id) = false by simpa using hb]
    exact iteT (q H' g)
  have sa := sqt_same ha g
  refine iteF ⟨_, rfl, a, _, 1, _, rfl, rfl, sa, rfl, l, 1, rfl, rfl, _, rfl, ?_⟩
  by_cases c : (1 : Int) ≤ l
  · rw [decide_eq_true c] at q ⊢
    refine iteT ⟨_, rfl, a, _, 0, _, rfl, rfl, sa, rfl, _, rfl, a, _, 1, _, rfl, rfl, sa, rfl, u, l, rfl, by omega, bl, fun t H2 s2 n2 e2 => ⟨_, rfl, ?_⟩⟩
    refine ⟨tupQ (Rat.divInt u l), .tuple [.int u, .int l], (Nq.at (K := K) e2).dp, .tup (sqt_same sa s2) (.cons (.int _) (.cons (.int _) .nil)), rfl, rfl, ?_⟩
    have e : PyData.eqv (tupQ (Rat.divInt u l)) (.tuple [.int u, .int l]) = (true && decide (Nat.gcd u.natAbs l.natAbs = 1)) := by
      rw [Bool.true_and, ← low_fix c]
      simp only [tupQ, PyData.eqv, PyData.eqvAll, Bool.and_true]
      rw [Bool.beq_eq_decide_eq, Bool.beq_eq_decide_eq]
    rw [e]
    exact q _ (g.trans s2)
  · rw [decide_eq_false c] at q ⊢
    exact iteF (q H' g)
end
def spCu1 (K : PySem.W.Frag) (C C1 : Addr) : Sp := fun vs H Q E => ∃ (v : V) (us : List Rat), vs = [v] ∧ RwAt K C H v us ∧ (ser us 0 = 1 → Q .non H) ∧ (ser us 0 ≠ 1 → ∀ x, Nq K H x (ser us 0) → Air H C1 (fs1 "NotOne" "first" [x]) E)
def spRecip (K : PySem.W.Frag) (C CZ : Addr) : Sp := fun vs H Q E => ∃ (v : V) (us : List Rat), vs = [v] ∧ RwAt K C H v us ∧ Bq 4000 (ser us 0) ∧ (ser us 0 = 0 → Air H CZ (fs0 "DividedByZero" []) E) ∧ (ser us 0 ≠ 0 → RcC us ∧ GivesR K C H Q (rcL us))
def spRpow (K : PySem.W.Frag) (C CN C1 : Addr) : Sp := fun vs H Q E => ∃ (v tv : V) (us : List Rat), vs = [v, tv] ∧ RwAt K C H v us ∧ (ser us 0 ≠ 1 → ∀ x, Nq K H x (ser us 0) → Air H C1 (fs1 "NotOne" "first" [x]) E) ∧
  (ser us 0 = 1 → (IsG K H tv false ∧ Air H CN (fs1 "InvalidNumber" "value" [tv]) E) ∨ ∃ t, Nq K H tv t ∧ PwC us t ∧ GivesR K C H Q (pwL us t))
def spRlog (K : PySem.W.Frag) (C C1 : Addr) : Sp := fun vs H Q E => ∃ (v : V) (us : List Rat), vs = [v] ∧ RwAt K C H v us ∧ (ser us 0 ≠ 1 → ∀ x, Nq K H x (ser us 0) → Air H C1 (fs1 "NotOne" "first" [x]) E) ∧
  (ser us 0 = 1 → LsC us ∧ GivesR K C H Q (lgL us))
section
variable {P : Program} {w : World} {K : PySem.W.Frag} {mg : Str → Option Value} {base : Heap} {f C S CF CO CU CZ C1 CN CP o0 o1 : Addr} {fd : FuncData}
theorem scN1 : FnScope ["self", "first"] ["self", "first"] (defScope C_NotOne_init) := ⟨rfl, rfl, rfl, by decide +kernel, rfl, by decide +kernel, by decide +kernel⟩
theorem init_N (F : Fun K "__init__" "NotOne.__init__" C_NotOne_init f fd) (T : XC K C) (n0 : PySem.W.findIn K (.ref C) "code" = some none) (n1 : PySem.W.findIn K (.ref C) "first" = some none) : FnOk P w K mg base CX0 1 f fd ["self", "first"] (spIn C 1 (fs1 "NotOne" "first")) := by
  refine F.ok scN1 (fun vs H Q E h => ?_) (fun cdv A outer s H vs Q E hr h => ?_)
  · obtain ⟨a, ws, rfl, l, _⟩ := h
    exact congrArg Nat.succ l
  obtain ⟨a, ws, rfl, l, ha, q⟩ := h
  obtain ⟨v, rfl⟩ : ∃ v, ws = [v] := by match ws, l with | [v], _ => exact ⟨v, rfl⟩
  refine ⟨_, pss_cons (ps_xst (pv 0) pe_str) (pss_one (ps_xst (pv 0) (pv 1))), ?_⟩
  refine ⟨_, rfl, a, _, rfl, T, n0, .inl ⟨ha, fun e H1 ne he h1 h2 h3 => ?_⟩⟩
  refine ⟨_, rfl, _, rfl, a, _, rfl, T, n1, .inr ⟨e, _, h1, h2, (by show 1 ≤ 900; decide), ?_⟩⟩
  exact q e _ ne he (by rw [upd_ne (Ne.symm ne)]; exact h1) (by rw [upd_same]; rfl) (fun b b1 b2 => by rw [upd_ne b2]; exact h3 b b1 b2)
theorem scCu1 : FnScope ["row"] ["row"] (defScope F_check_unit_row) := ⟨rfl, rfl, rfl, by decide +kernel, rfl, by decide +kernel, by decide +kernel⟩
theorem RwAt.its {v : V} {us : List Rat} {H : Hp} (h : RwAt K C H v us) : ∃ x dx fs, v = .ref x ∧ H x = some (.ins C dx fs) ∧ fs.lookup ("numbers" : Str) = none ∧ fs.lookup ("number" : Str) = none ∧ fs.lookup ("scaled" : Str) = none := by
  obtain ⟨x, dx, b, xs, e, h1, _⟩ := h
  exact ⟨x, dx, _, e, h1, rfl, rfl, rfl⟩
theorem RwAt.l3 {v : V} {us : List Rat} {H : Hp} (h : RwAt K C H v us) : 3 ≤ us.length ∧ us.length ≤ 25 := by
  obtain ⟨x, dx, b, xs, e, h1, h2, h3, h4, h5⟩ := h
  exact ⟨h4, h5⟩
theorem ok_cunit (G : Fun K "check_unit_row" "check_unit_row" F_check_unit_row f fd) (k1 : KP K o1 1 1) (mO : mg "ONE" = some (.ref o1)) (MN : MUse P w K mg base (L2.CX P w) 4 C "number" ["self", "place"] (spNm K C CP) []) (Z : ErrC P w K mg base "NotOne" 1 (fs1 "NotOne" "first") C1) : FnOk P w K mg base (L2.CX P w) 5 f fd ["row"] (spCu1 K C C1) := by
  refine G.okX scCu1 (fun vs H Q E h => ?_) (fun cdv A outer s H vs Q E hr h => ?_)
  · obtain ⟨v, us, rfl, _⟩ := h
    rfl
  obtain ⟨v, us, rfl, hR, h1, h2⟩ := h
  obtain ⟨l3, l25⟩ := hR.l3
  obtain ⟨fI, fdI, ps, i1, i2, i3, i4⟩ := Z.i
  refine ⟨_, pss_one (ps_if (pt_cmpR (op_neD hr.units) (pe_mu (E := E) MN (pv 0) hr (passes_call (takes_of rfl rfl rfl rfl) (fun _ _ _ _ h => h)) (pa_cons pe_int pa_nil)) (C8.pe_gc (v := .ref o1) rfl ⟨_, mO, rfl⟩) (nomark _)) (pss_one (ps_raise rfl (takes_of rfl rfl rfl rfl) (pmk_xo Z.T Z.ty i1 i2 i3 (hr.mono (by decide)) i4 pass0 rfl Z.m (pa_cons (pe_mu (E := E) MN (pv 0) hr (passes_call (takes_of rfl rfl rfl rfl) (fun _ _ _ _ h => h)) (pa_cons pe_int pa_nil)) pa_nil)))) pss_nil), ?_⟩
  obtain ⟨x, dx, fs, rfl, hx, _, hn, _⟩ := hR.its
  have rd : ∀ {R : VK}, (∀ y, Nq K H y (ser us 0) → R y H) → spNm K C CP [.ref x, .int 0] H R E := fun {R} q => ⟨.ref x, .int 0, us, true, rfl, hR, by
    have := InR.int (K := K) (H := H) (lo := 0) (hi := (us.length : Int) - 1) (i := 0)
    rw [decide_eq_true (show (0 : Int) ≤ 0 by omega), decide_eq_true (show (0 : Int) ≤ (us.length : Int) - 1 by omega)] at this
    exact this, fun z => Bool.noConfusion z, fun _ j y r e er ny => by
    obtain rfl : j = 0 := by have := V.int.inj e; omega
    have e0 := ser_at (qs := us) (k := 0) (by omega)
    rw [e0] at er
    rw [← Option.some.inj er] at ny
    exact q y ny⟩
  refine ⟨_, rfl, x, dx, fs, rfl, hx, hn, ?_⟩
  dsimp only [tCons, tC, tNil, List.append_nil, List.nil_append, List.cons_append]
  refine rd fun y ny => ?_
  refine ⟨tupQ (ser us 0), tupQ 1, ny.dp, k1.dp _, rfl, rfl, _, rfl, ?_⟩
  rw [eqv_num]
  by_cases c : ser us 0 = 1
  · rw [decide_eq_true c]
    exact iteF (h1 c)
  · rw [decide_eq_false c]
    refine iteT ?_
    refine ⟨_, rfl, x, dx, fs, rfl, hx, hn, ?_⟩
    dsimp only [tCons, tC, tNil, List.append_nil, List.nil_append, List.cons_append]
    exact rd fun y ny => ⟨(by show 1 ≤ 1000; decide), fun a na => air_of (C := C1) (n := 1) (ws := [y]) na rfl (h2 c y ny)⟩
theorem scRcp : FnScope ["row"] ["row"] (defScope F_reciprocal) := ⟨rfl, rfl, rfl, by decide +kernel, rfl, by decide +kernel, by decide +kernel⟩
theorem ok_recip (G : Fun K "reciprocal" "reciprocal" F_reciprocal f fd) (k : RowK P w K mg base C CF CO) (UN : MUse P w K mg base CX0 1 C "numbers" ["self"] (spNu K C) []) (UR : Use P w K mg base (L2.CX P w) 5 "reciprocal_of" ["numbers"] (spRcL K CZ) []) : FnOk P w K mg base (L2.CX P w) 8 f fd ["row"] (spRecip K C CZ) := by
  refine G.okX scRcp (fun vs H Q E h => ?_) (fun cdv A outer s H vs Q E hr h => ?_)
  · obtain ⟨v, us, rfl, _⟩ := h
    rfl
  obtain ⟨v, us, rfl, hR, b0, h0, h1⟩ := h
  obtain ⟨l3, l25⟩ := hR.l3
  obtain ⟨fI, fdI, M, FI, bI, _⟩ := k.ini
  refine ⟨_, pss_one (ps_ret (pe_make (E := E) M FI hr rfl k.m bI .nil (passes_call (takes_of rfl rfl rfl rfl) (fun _ _ _ _ h => h)) (pa_cons (pe_use (E := E) UR (hr.mono (by decide)) rfl (passes_call (takes_of rfl rfl rfl rfl) (fun _ _ _ _ h => h)) (pa_cons (pe_mu0 UN (pv 0) (hr.mono (by decide)) pass0) pa_nil)) pa_nil))), ?_⟩
  obtain ⟨x, dx, fs, rfl, hx, hn, _⟩ := hR.its
  refine ⟨_, rfl, x, dx, fs, rfl, hx, hn, .ref x, us, rfl, hR, fun d H1 zs s1 n1 e1 m1 => ?_⟩
  refine ⟨.ref d, us, rfl, ⟨d, zs, rfl, e1, m1⟩, by omega, l25, b0, fun z => (h0 z).same s1, fun u0 => ?_⟩
  obtain ⟨hc, g⟩ := h1 u0
  refine ⟨hc, fun d2 H2 ws s2 n2 e2 m2 => ?_⟩
  exact row_new (s1.trans s2) (.inl e2) m2 (by rw [rcL_len]; exact l3) (by rw [rcL_len]; exact l25) g
theorem scRpw : FnScope ["row", "t"] ["row", "t"] (defScope F_row_power) := ⟨rfl, rfl, rfl, by decide +kernel, rfl, by decide +kernel, by decide +kernel⟩
theorem ok_rpow (G : Fun K "row_power" "row_power" F_row_power f fd) (k : RowK P w K mg base C CF CO) (UN : MUse P w K mg base CX0 1 C "numbers" ["self"] (spNu K C) []) (UC : Use P w K mg base (L2.CX P w) 5 "check_unit_row" ["row"] (spCu1 K C C1) []) (UK : Use P w K mg base (L2.CX P w) 3 "check_number" ["value"] (spCk K CN) []) (UP : Use P w K mg base CX0 4 "unit_power" ["numbers", "t"] (spPwL K) []) : FnOk P w K mg base (L2.CX P w) 8 f fd ["row", "t"] (spRpow K C CN C1) := by
  refine G.okX scRpw (fun vs H Q E h => ?_) (fun cdv A outer s H vs Q E hr h => ?_)
  · obtain ⟨v, tv, us, rfl, _⟩ := h
    rfl
  obtain ⟨v, tv, us, rfl, hR, h0, h1⟩ := h
  obtain ⟨l3, l25⟩ := hR.l3
  obtain ⟨fI, fdI, M, FI, bI, _⟩ := k.ini
  refine ⟨_, pss_cons (ps_expr (pe_use (E := E) UC (hr.mono (by decide)) rfl (passes_call (takes_of rfl rfl rfl rfl) (fun _ _ _ _ h => h)) (pa_cons (pv 0) pa_nil)))
    (pss_cons (ps_expr (pe_use (E := E) UK (hr.mono (by decide)) rfl (passes_call (takes_of rfl rfl rfl rfl) (fun _ _ _ _ h => h)) (pa_cons (pv 1) pa_nil)))
    (pss_one (ps_ret (pe_make (E := E) M FI hr rfl k.m bI .nil (passes_call (takes_of rfl rfl rfl rfl) (fun _ _ _ _ h => h)) (pa_cons (pe_use UP (hr.mono (by decide)) rfl pass0 (pa_cons (pe_mu0 UN (pv 0) (hr.mono (by decide)) pass0) (pa_cons (pv 1) pa_nil))) pa_nil))))), ?_⟩
  refine ⟨_, rfl, v, us, rfl, hR, fun u1 => ?_, h0⟩
  rcases h1 u1 with ⟨ig, he⟩ | ⟨t, nt, pc, g⟩
  · exact ⟨_, rfl, tv, false, rfl, ig, fun z => Bool.noConfusion z, fun _ => he⟩
  · refine ⟨_, rfl, tv, true, rfl, nt.isG, fun _ => ?_, fun z => Bool.noConfusion z⟩
    obtain ⟨x, dx, fs, rfl, hx, hn, _⟩ := hR.its
    refine ⟨_, rfl, x, dx, fs, rfl, hx, hn, .ref x, us, rfl, hR, fun d H1 zs s1 n1 e1 m1 => ?_⟩
    refine ⟨_, rfl, .ref d, tv, us, t, rfl, ⟨d, zs, rfl, e1, m1⟩, nt.same s1, by omega, l25, u1, pc, fun d2 H2 ws s2 n2 e2 m2 => ?_⟩
    exact row_new (s1.trans s2) (.inl e2) m2 (by rw [pwL_len]; exact l3) (by rw [pwL_len]; exact l25) g
theorem scRlg : FnScope ["row"] ["row"] (defScope F_row_log) := ⟨rfl, rfl, rfl, by decide +kernel, rfl, by decide +kernel, by decide +kernel⟩
theorem ok_rlog (G : Fun K "row_log" "row_log" F_row_log f fd) (k : RowK P w K mg base C CF CO) (UN : MUse P w K mg base CX0 1 C "numbers" ["self"] (spNu K C) []) (UC : Use P w K mg base (L2.CX P w) 5 "check_unit_row" ["row"] (spCu1 K C C1) []) (UP : Use P w K mg base CX0 4 "unit_log" ["numbers"] (spLgL K) []) : FnOk P w K mg base (L2.CX P w) 8 f fd ["row"] (spRlog K C C1) := by
  refine G.okX scRlg (fun vs H Q E h => ?_) (fun cdv A outer s H vs Q E hr h => ?_)
  · obtain ⟨v, us, rfl, _⟩ := h
    rfl
  obtain ⟨v, us, rfl, hR, h0, h1⟩ := h
  obtain ⟨l3, l25⟩ := hR.l3
  obtain ⟨fI, fdI, M, FI, bI, _⟩ := k.ini
  refine ⟨_, pss_cons (ps_expr (pe_use (E := E) UC (hr.mono (by decide)) rfl (passes_call (takes_of rfl rfl rfl rfl) (fun _ _ _ _ h => h)) (pa_cons (pv 0) pa_nil)))
    (pss_one (ps_ret (pe_make (E := E) M FI hr rfl k.m bI .nil (passes_call (takes_of rfl rfl rfl rfl) (fun _ _ _ _ h => h)) (pa_cons (pe_use UP (hr.mono (by decide)) rfl pass0 (pa_cons (pe_mu0 UN (pv 0) (hr.mono (by decide)) pass0) pa_nil)) pa_nil)))), ?_⟩
  refine ⟨_, rfl, v, us, rfl, hR, fun u1 => ?_, h0⟩
  obtain ⟨pc, g⟩ := h1 u1
  obtain ⟨x, dx, fs, rfl, hx, hn, _⟩ := hR.its
  refine ⟨_, rfl, x, dx, fs, rfl, hx, hn, .ref x, us, rfl, hR, fun d H1 zs s1 n1 e1 m1 => ?_⟩
  refine ⟨.ref d, us, rfl, ⟨d, zs, rfl, e1, m1⟩, by omega, l25, u1, pc, fun d2 H2 ws s2 n2 e2 m2 => ?_⟩
  exact row_new (s1.trans s2) (.inl e2) m2 (by rw [lgL_len (by omega)]; exact l3) (by rw [lgL_len (by omega)]; exact l25) g
end
end Kx
end
section
set_option maxHeartbeats 4000000
namespace Kx
open PySem PySem.Spec PyProof.Rows L2 RZ
def spBig : Sp := fun vs H Q _ => ∃ B p : Addr, vs = [.ref B] ∧ Bag H B p ∧ ∀ H' (n : Int), Bag H' B p → But B H H' → n.natAbs < 2 ^ 208 → Q (.int n) H'
def spWid (K : PySem.W.Frag) : Sp := fun vs H Q _ => ∃ B p : Addr, vs = [.ref B] ∧ Bag H B p ∧ ∀ H' v q, Bag H' B p → But B H H' → Nq K H' v q → Bq 208 q → Q v H'
/-- a small exponent -/
def SmT (t : Rat) : Prop := t.den ∣ 12 ∧ t.num.natAbs ≤ 3
def spSml (K : PySem.W.Frag) : Sp := fun vs H Q _ => ∃ B p : Addr, vs = [.ref B] ∧ Bag H B p ∧ ∀ H' v q, Bag H' B p → But B H H' → Nq K H' v q → SmT q → Q v H'
def spRow4 (K : PySem.W.Frag) : Sp := fun vs H Q _ => ∃ (B p : Addr) (n : Nat) (v : V) (q : Rat), vs = [.ref B, .int (n : Nat), v] ∧ Bag H B p ∧ 2 ≤ n ∧ n ≤ 8 ∧ Nq K H v q ∧ Zq b6 1 q ∧
  ∀ H' u rs, Bag H' B p → But B H H' → Ls K H' u rs → rs.length = n + 1 → AllZ b6 1 rs → ser rs 0 = q → Q u H'
def spSlp (K : PySem.W.Frag) : Sp := fun vs H Q _ => ∃ (x : V) (us : List Rat), vs = [x] ∧ Ls K H x us ∧ 1 ≤ us.length ∧ us.length ≤ 25 ∧ AllB 4000 us ∧ GivesL K H Q (slL us)
abbrev nBig : List Str := ["_law_bag_here", "_law_p", "_law_k"]
abbrev nWid : List Str := ["_law_bag_here", "_law_p", "_law_q"]
abbrev nSml : List Str := ["_law_bag_here", "_law_p"]
abbrev nRo4 : List Str := ["_law_bag_here", "_law_size", "_law_first", "_law_gap", "_law_k"]
abbrev nSlp : List Str := ["_law_a", "_law_k"]
theorem rep_nl {K : PySem.W.Frag} {H : Hp} {t : Addr} {q : Rat} (h : Nq K H (.ref t) q) (n : Nat) : Nl K H (List.replicate n (.ref t)) (List.replicate n q) := by
  refine ⟨by rw [List.length_replicate, List.length_replicate], fun i x r h1 h2 => ?_⟩
  rw [List.getElem?_replicate] at h1 h2
  split at h1
  · rw [if_pos (by assumption)] at h2
    rw [← Option.some.inj h1, ← Option.some.inj h2]
    exact h
  · cases h1
section
variable {P : Program} {w : World} {K : PySem.W.Frag} {mg : Str → Option Value} {base : Heap} {f : Addr} {fd : FuncData}
theorem scBig : FnScope nBig ["_law_bag_here"] (defScope L_big) := ⟨rfl, rfl, rfl, by decide +kernel, rfl, by decide +kernel, by decide +kernel⟩
theorem scWid : FnScope nWid ["_law_bag_here"] (defScope L_wide) := ⟨rfl, rfl, rfl, by decide +kernel, rfl, by decide +kernel, by decide +kernel⟩
theorem scSml : FnScope nSml ["_law_bag_here"] (defScope L_small) := ⟨rfl, rfl, rfl, by decide +kernel, rfl, by decide +kernel, by decide +kernel⟩
theorem scRo4 : FnScope nRo4 ["_law_bag_here", "_law_size", "_law_first"] (defScope L_row) := ⟨rfl, rfl, rfl, by decide +kernel, rfl, by decide +kernel, by decide +kernel⟩
theorem scSlp : FnScope nSlp ["_law_a"] (defScope L_slope) := ⟨rfl, rfl, rfl, by decide +kernel, rfl, by decide +kernel, by decide +kernel⟩
theorem ok_big (F : Fun K "_law_big" "_law_big" L_big f fd) (mr : mg "range" = none) (UD : Use P w K mg base CX0 1 "_law_draw" ["_law_bag_here", "_law_limit"] spDraw []) (UO : Use P w K mg base CX0 2 "_law_of" ["_law_bag_here", "_law_things"] spOfL []) : FnOk P w K mg base CX0 3 f fd ["_law_bag_here"] spBig := by
  refine F.ok scBig (fun vs H Q E h => ?_) (fun cdv A outer s H vs Q E hr h => ?_)
  · obtain ⟨B, p, rfl, _⟩ := h
    rfl
  obtain ⟨B, p, rfl, hb, q⟩ := h
  have hr1 := hr.mono (show 1 ≤ 2 by decide)
  refine ⟨_, pss_cons (ps_set (i := 1) scBig.nd rfl (Or.inl rfl) (pe_use UD hr1 rfl pass0 (pa_cons (pv 0) (pa_cons (pe_use UO hr rfl pass0 (pa_cons (pv 0) (pa_cons (pe_lst (pa_cons pe_int (pa_cons pe_int (pa_cons pe_int (pa_cons pe_int (pa_cons pe_int (pa_cons pe_int pa_nil))))))) pa_nil))) pa_nil))))
    (pss_cons (ps_for PassesOwn.never rfl (pi_range1 rfl mr (pa_cons (pe_use UO hr rfl pass0 (pa_cons (pv 0) (pa_cons (pe_lst (pa_cons pe_int (pa_cons pe_int (pa_cons pe_int (pa_cons pe_int (pa_cons pe_int (pa_cons pe_int (pa_cons pe_int pa_nil)))))))) pa_nil))) pa_nil)) (pg_name (i := 2) scBig.nd rfl (Or.inl rfl))
      (pss_one (ps_set (i := 1) scBig.nd rfl (Or.inl rfl) (pe_op op_add (pe_op op_mulW (pv 1) (pe_op op_pow pe_int pe_int)) (pe_use UD hr1 rfl pass0 (pa_cons (pv 0) (pa_cons (pe_op op_pow pe_int pe_int) pa_nil)))))))
    (pss_one (ps_ret (pe_ifExp (pt_cmpR op_eq (pe_use UD hr1 rfl pass0 (pa_cons (pv 0) (pa_cons pe_int pa_nil))) pe_int (nomark _)) (pe_un un_neg (pv 1)) (pv 1))))), ?_⟩
  refine ⟨_, rfl, _, rfl, (by show 6 ≤ sizeLine; decide), fun a na => ⟨B, p, a, _, rfl, upd_same, (hb.at na).1, (by show 0 < 6; decide), (by show 6 ≤ 1000; decide), hb.put na, fun H1 x b1 u1 hx => ?_⟩⟩
  have u1 : But B H H1 := (But.new na).trans u1
  obtain ⟨L, rfl, L0, L1⟩ : ∃ L : Int, x = .int L ∧ 0 < L ∧ L ≤ 10000 := by
    simp only [List.mem_cons, List.not_mem_nil, or_false] at hx
    rcases hx with rfl | rfl | rfl | rfl | rfl | rfl <;> exact ⟨_, rfl, by decide, by decide⟩
  refine ⟨B, p, L, rfl, L0, by omega, b1, fun H2 k b2 u2 k0 k1 => ?_⟩
  have u2 := u1.trans u2
  refine ⟨_, rfl, (by show 7 ≤ sizeLine; decide), fun a2 na2 => ⟨B, p, a2, _, rfl, upd_same, (b2.at na2).1, (by show 0 < 7; decide), (by show 7 ≤ 1000; decide), b2.put na2, fun H3 x b3 u3 hx => ?_⟩⟩
  have u3 : But B H H3 := u2.trans ((But.new na2).trans u3)
  obtain ⟨m, rfl, m1⟩ : ∃ m : Nat, x = .int (m : Nat) ∧ m ≤ 8 := by
    simp only [List.mem_cons, List.not_mem_nil, or_false] at hx
    rcases hx with rfl | rfl | rfl | rfl | rfl | rfl | rfl
    · exact ⟨0, rfl, by decide⟩
    · exact ⟨0, rfl, by decide⟩
    · exact ⟨0, rfl, by decide⟩
    · exact ⟨0, rfl, by decide⟩
    · exact ⟨1, rfl, by decide⟩
    · exact ⟨2, rfl, by decide⟩
    · exact ⟨8, rfl, by decide⟩
  refine ⟨(m : Nat), rfl, by omega, by omega, for_range (lo := 0) (n := ((m : Nat) : Int).toNat) (fun i σ H' => ∃ (n : Int) (v : Option V), σ = [some (.ref B), some (.int n), v] ∧ Bag H' B p ∧ But B H H' ∧ 0 ≤ n ∧ n < 2 ^ (14 + 24 * i)) ⟨k, _, rfl, b3, u3, k0, ?_⟩ ?_ ?_⟩
  · show k < 2 ^ 14
    omega
  · rintro i σ H' hi ⟨n, v, rfl, b', u', n0, n1⟩
    have hi8 : i < 8 := by rw [Int.toNat_natCast] at hi; omega
    have nn : n.natAbs < 2 ^ (14 + 24 * i) := by
      have z : ((2 : Int) ^ (14 + 24 * i)) = ((2 ^ (14 + 24 * i) : Nat) : Int) := by push_cast; rfl
      rw [z] at n1
      omega
    refine ⟨_, rfl, 10, 7, rfl, rfl, ⟨by decide, by decide, by decide⟩, n, _, rfl, rfl, wide_mul (b := 24) nn (by decide) (by omega) (by decide) (by omega), ?_⟩
    refine ⟨_, rfl, 10, 7, rfl, rfl, ⟨by decide, by decide, by decide⟩, B, p, 10000000, rfl, by decide, by decide, b', fun H4 d b4 u4 d0 d1 => ?_⟩
    refine ⟨_, _, rfl, rfl, n * 10 ^ Int.toNat 7 + d, _, rfl, b4, u'.trans u4, ?_, ?_⟩
    · have : 0 ≤ n * 10 ^ Int.toNat 7 := Int.mul_nonneg n0 (by decide)
      omega
    · have e : (2 : Int) ^ (14 + 24 * (i + 1)) = 2 ^ (14 + 24 * i) * 16777216 := by
        rw [show 14 + 24 * (i + 1) = 14 + 24 * i + 24 by omega, Int.pow_add]
        rfl
      rw [e, show (10 : Int) ^ Int.toNat 7 = 10000000 from rfl]
      generalize (2 : Int) ^ (14 + 24 * i) = z at n1
      omega
  · rintro σ H' ⟨n, v, rfl, b', u', n0, n1⟩
    have nn : n.natAbs < 2 ^ 208 := by
      have z : ((2 : Int) ^ (14 + 24 * ((m : Nat) : Int).toNat)) ≤ ((2 ^ 208 : Nat) : Int) := by
        rw [Int.toNat_natCast, show ((2 : Int) ^ (14 + 24 * m)) = ((2 ^ (14 + 24 * m) : Nat) : Int) by push_cast; rfl]
        exact Int.ofNat_le.mpr (Nat.pow_le_pow_right (by decide) (by omega))
      omega
    refine ⟨_, rfl, B, p, 2, rfl, by decide, by decide, b', fun H4 c b4 u4 c0 c1 => ?_⟩
    refine ⟨rfl, _, rfl, ite2 (fun _ => ?_) (fun _ => ?_)⟩
    · exact ⟨_, rfl, n, rfl, q H4 (-n) b4 (u'.trans u4) (by rw [Int.natAbs_neg]; exact nn)⟩
    · exact ⟨_, rfl, q H4 n b4 (u'.trans u4) nn⟩
theorem ok_wid (F : Fun K "_law_wide" "_law_wide" L_wide f fd) (UD : Use P w K mg base CX0 1 "_law_draw" ["_law_bag_here", "_law_limit"] spDraw []) (UB : Use P w K mg base CX0 3 "_law_big" ["_law_bag_here"] spBig []) (UL : Use P w K mg base CX0 1 "_law_low" ["_law_p", "_law_q"] spLowQ []) : FnOk P w K mg base CX0 4 f fd ["_law_bag_here"] (spWid K) := by
  refine F.ok scWid (fun vs H Q E h => ?_) (fun cdv A outer s H vs Q E hr h => ?_)
  · obtain ⟨B, p, rfl, _⟩ := h
    rfl
  obtain ⟨B, p, rfl, hb, q⟩ := h
  have hr1 := hr.mono (show 1 ≤ 3 by decide)
  refine ⟨_, pss_cons (ps_set (i := 1) scWid.nd rfl (Or.inl rfl) (pe_use UB hr rfl pass0 (pa_cons (pv 0) pa_nil)))
    (C8.pss_cut (ps_set (i := 2) scWid.nd rfl (Or.inl rfl) (pe_ifExp (pt_cmpR op_gt (pe_use UD hr1 rfl pass0 (pa_cons (pv 0) (pa_cons pe_int pa_nil))) pe_int (nomark _)) (pe_use UB hr rfl pass0 (pa_cons (pv 0) pa_nil)) pe_int))
    (pss_one (ps_ret (pe_use UL hr1 rfl pass0 (pa_cons (pv 1) (pa_cons (pe_ifExp (pt_cmpR op_ne (pv 2) pe_int (nomark _)) (pv 2) pe_int) pa_nil)))))), ?_⟩
  refine ⟨_, rfl, B, p, rfl, hb, fun H1 n b1 u1 hn => ?_⟩
  refine ⟨fun σ' H' => ∃ m : Int, σ' = [some (.ref B), some (.int n), some (.int m)] ∧ Bag H' B p ∧ But B H H' ∧ m.natAbs < 2 ^ 208, ?_, ?_⟩
  · refine ⟨_, rfl, B, p, 3, rfl, by decide, by decide, b1, fun H2 c b2 u2 c0 c1 => ⟨c, 0, rfl, rfl, _, rfl, ite2 (fun _ => ?_) (fun _ => ⟨_, rfl, b2, u1.trans u2, by decide⟩)⟩⟩
    exact ⟨_, rfl, B, p, rfl, b2, fun H3 m b3 u3 hm => ⟨_, rfl, b3, u1.trans (u2.trans u3), hm⟩⟩
  rintro σ' H2 ⟨m, rfl, b2, u2, hm⟩
  have fin : ∀ k : Int, k ≠ 0 → k.natAbs < 2 ^ 208 → spLowQ [.int n, .int k] H2 Q E0 := fun k k0 kb => ⟨n, k, rfl, k0, Nat.lt_trans (log_bd kb (by decide)) (by decide), fun t H3 s3 n3 e3 => q H3 _ _ (b2.same s3) (u2.trans (But.same s3)) (.at e3) (div_bd k0 hn kb)⟩
  refine ⟨_, rfl, _, rfl, rfl, _, rfl, ite2 (fun c => ?_) (fun _ => ?_)⟩
  · have m0 : m ≠ 0 := fun e => by
      rw [e] at c
      exact absurd c (by decide)
    exact ⟨_, rfl, fin m m0 hm⟩
  · exact fin 1 (by decide) (by decide)
theorem ok_sml (F : Fun K "_law_small" "_law_small" L_small f fd) (UD : Use P w K mg base CX0 1 "_law_draw" ["_law_bag_here", "_law_limit"] spDraw []) (UO : Use P w K mg base CX0 2 "_law_of" ["_law_bag_here", "_law_things"] spOfL []) (UL : Use P w K mg base CX0 1 "_law_low" ["_law_p", "_law_q"] spLowQ []) : FnOk P w K mg base CX0 3 f fd ["_law_bag_here"] (spSml K) := by
  refine F.ok scSml (fun vs H Q E h => ?_) (fun cdv A outer s H vs Q E hr h => ?_)
  · obtain ⟨B, p, rfl, _⟩ := h
    rfl
  obtain ⟨B, p, rfl, hb, q⟩ := h
  have hr1 := hr.mono (show 1 ≤ 2 by decide)
  refine ⟨_, pss_cons (ps_set (i := 1) scSml.nd rfl (Or.inl rfl) (pe_op op_sub (pe_use UD hr1 rfl pass0 (pa_cons (pv 0) (pa_cons pe_int pa_nil))) pe_int))
    (pss_one (ps_ret (pe_use UL hr1 rfl pass0 (pa_cons (pv 1) (pa_cons (pe_use UO hr rfl pass0 (pa_cons (pv 0) (pa_cons (pe_lst (pa_cons pe_int (pa_cons pe_int (pa_cons pe_int (pa_cons pe_int (pa_cons pe_int pa_nil)))))) pa_nil))) pa_nil))))), ?_⟩
  refine ⟨_, rfl, B, p, 7, rfl, by decide, by decide, hb, fun H1 k b1 u1 k0 k1 => ⟨k, 3, rfl, rfl, ?_⟩⟩
  refine ⟨_, rfl, _, rfl, (by show 5 ≤ sizeLine; decide), fun a na => ⟨B, p, a, _, rfl, upd_same, (b1.at na).1, (by show 0 < 5; decide), (by show 5 ≤ 1000; decide), b1.put na, fun H2 x b2 u2 hx => ?_⟩⟩
  have uu : But B H H2 := u1.trans ((But.new na).trans u2)
  obtain ⟨L, rfl, L0, Ld, Lb⟩ : ∃ L : Int, x = .int L ∧ L ≠ 0 ∧ L.natAbs ∣ 12 ∧ L.natAbs < 2 ^ 4 := by
    simp only [List.mem_cons, List.not_mem_nil, or_false] at hx
    rcases hx with rfl | rfl | rfl | rfl | rfl <;> exact ⟨_, rfl, by decide, by decide, by decide⟩
  refine ⟨k - 3, L, rfl, L0, Nat.lt_trans (log_bd Lb (by decide)) (by decide), fun t H3 s3 n3 e3 => q H3 _ _ (b2.same s3) (uu.trans (But.same s3)) (.at e3) ⟨?_, ?_⟩⟩
  · rw [Rat.den_divInt, if_neg L0]
    exact Nat.dvd_trans (Nat.div_dvd_of_dvd (Nat.gcd_dvd_left _ _)) Ld
  · have h := (div_bd (p := k - 3) (n := 2) (m := 4) L0 (by show _ < 4; omega) Lb).1
    have : (2 : Nat) ^ 2 = 4 := rfl
    omega
theorem ok_row4 (F : Fun K "_law_row" "_law_row" L_row f fd) (mr : mg "range" = none) (UO : Use P w K mg base CX0 2 "_law_of" ["_law_bag_here", "_law_things"] spOfL []) (UN : Use P w K mg base CX0 3 "_law_number" ["_law_bag_here"] (spNum K) []) : FnOk P w K mg base CX0 4 f fd ["_law_bag_here", "_law_size", "_law_first"] (spRow4 K) := by
  refine F.ok scRo4 (fun vs H Q E h => ?_) (fun cdv A outer s H vs Q E hr h => ?_)
  · obtain ⟨B, p, n, v, q, rfl, _⟩ := h
    rfl
  obtain ⟨B, p, n, v, q0, rfl, hb, n2, n8, nv, bv, q⟩ := h
  have hr2 := hr.mono (show 2 ≤ 3 by decide)
  refine ⟨_, C8.pss_cut (ps_set (i := 3) scRo4.nd rfl (Or.inl rfl) (pe_use UO hr2 rfl pass0 (pa_cons (pv 0) (pa_cons (pe_lst (pa_cons pe_int (pa_cons pe_int (pa_cons pe_int (pa_cons pe_int (pa_cons pe_int (pa_cons (pv 1) pa_nil))))))) pa_nil))))
    (pss_one (ps_ret (pe_slice sl_list (pe_op op_cat (pe_op op_cat (pe_lst (pa_cons (pv 2) pa_nil)) (pe_op op_rep (pe_lst (pa_cons (pe_tup (pa_cons pe_int (pa_cons pe_int pa_nil))) pa_nil)) (pv 3)))
      (pe_lc (own := [("_law_k", 4)]) (g := gName 4) (tt := tYes) rfl scRo4.nd (pi_range1 rfl mr (pa_cons (pv 1) pa_nil)) (blkOk_by (N := nRo4) (sc := defScope L_row) (by decide +kernel)) (fun _ _ _ _ _ => pg_name (i := 4) scRo4.nd rfl (Or.inl rfl)) (fun _ _ _ _ _ => pts_nil) (fun _ _ _ _ _ => pe_use UN hr rfl pass0 (pa_cons (pv 0) pa_nil))))
      po_none (po_some (pe_op op_add (pv 1) pe_int))))), ?_⟩
  refine ⟨fun σ H1 => ∃ g : Nat, σ = [some (.ref B), some (.int (n : Nat)), some v, some (.int (g : Nat)), none] ∧ g ≤ 8 ∧ Bag H1 B p ∧ But B H H1, ?_, ?_⟩
  · refine ⟨_, rfl, _, rfl, (by show 6 ≤ sizeLine; decide), fun l nl => ⟨B, p, l, _, rfl, upd_same, (hb.at nl).1, (by show 0 < 6; decide), (by show 6 ≤ 1000; decide), hb.put nl, fun H1 x b1 u1 hx => ?_⟩⟩
    have u1 : But B H H1 := (But.new nl).trans u1
    obtain ⟨g, rfl, g3⟩ : ∃ g : Nat, x = .int (g : Nat) ∧ g ≤ 8 := by
      simp only [List.mem_cons, List.not_mem_nil, or_false] at hx
      rcases hx with rfl | rfl | rfl | rfl | rfl | rfl
      · exact ⟨0, rfl, by decide⟩
      · exact ⟨0, rfl, by decide⟩
      · exact ⟨1, rfl, by decide⟩
      · exact ⟨2, rfl, by decide⟩
      · exact ⟨0, rfl, by decide⟩
      · exact ⟨n, rfl, n8⟩
    exact ⟨g, rfl, g3, b1, u1⟩
  rintro σ H1 ⟨g, rfl, g3, b1, u1⟩
  have nv1 := nv.go hb (Go.of u1)
  refine ⟨_, rfl, (by show 1 ≤ sizeLine; decide), fun a na => ⟨(by show 2 ≤ sizeLine; decide), fun t nt => ⟨(by show 1 ≤ sizeLine; decide), fun c nc => ⟨_, rfl, c, (g : Int), [.ref t], rfl, rfl, upd_same, by omega, by omega, (by show 1 * _ ≤ sizeLine; exact Nat.le_of_lt (small1000 (by omega))), fun d nd => ?_⟩⟩⟩⟩
  have rep : (List.replicate ((g : Nat) : Int).toNat [V.ref t]).flatten = List.replicate g (.ref t) := by
    rw [Int.toNat_natCast, List.flatten_replicate_singleton]
  rw [rep]
  have s1 := new_same na (HO.lst [v])
  have s2 := new_same nt (HO.tup [.int 0, .int 1])
  have s3 := new_same nc (HO.lst [V.ref t])
  have s4 := new_same nd (HO.lst (List.replicate g (V.ref t)))
  refine ⟨a, d, _, _, rfl, rfl, s4 _ _ (s3 _ _ (s2 _ _ upd_same)), upd_same, Nat.le_of_lt (small1000 (by rw [List.length_replicate]; show 1 + _ ≤ _; omega)), fun e ne => ?_⟩
  have s5 := new_same ne (HO.lst ([v] ++ List.replicate g (V.ref t)))
  have sA := s1.trans (s2.trans (s3.trans (s4.trans s5)))
  have z0 : Nq K _ (.ref t) 0 := .at (K := K) ((s3.trans (s4.trans s5)) _ _ (show _ = some (rT 0) from upd_same))
  have nE := Nl.cons (nv1.same sA) (rep_nl z0 g)
  have eE : upd (upd (upd (upd (upd H1 a (HO.lst [v])) t (HO.tup [.int 0, .int 1])) c (HO.lst [V.ref t])) d (HO.lst (List.replicate g (V.ref t)))) e (HO.lst ([v] ++ List.replicate g (V.ref t))) e = some (HO.lst (v :: List.replicate g (V.ref t))) := upd_same
  have bE := b1.same sA
  have eB : e ≠ B := ((b1.same (s1.trans (s2.trans (s3.trans s4)))).at ne).1
  generalize upd (upd (upd (upd (upd H1 a (HO.lst [v])) t (HO.tup [.int 0, .int 1])) c (HO.lst [V.ref t])) d (HO.lst (List.replicate g (V.ref t)))) e (HO.lst ([v] ++ List.replicate g (V.ref t))) = HE at sA nE eE bE
  have u1 := u1.trans (But.same sA)
  refine ⟨_, rfl, _, rfl, by omega, by omega, fun D nD => ?_⟩
  have DB := bE.at nD
  refine lc_range (lo := 0) (n := ((n : Nat) : Int).toNat) (fun i H' => Bag H' B p ∧ But B HE H' ∧ ∃ ys rs, H' D = some (.lst ys) ∧ Nl K H' ys rs ∧ rs.length = i ∧ AllZ b6 1 rs) ⟨bE.put nD, But.new nD, [], [], upd_same, Nl.nil, rfl, fun _ h => nomatch h⟩ ?_ ?_
  · rintro i H' hi ⟨b', u', ys, rs, hD, ny, rl, br⟩
    have yl : ys.length = i := by rw [ny.1, rl]
    refine ⟨rfl, yesT ⟨_, rfl, B, p, rfl, b', fun H5 y r b5 u5 nr brr => ?_⟩⟩
    have hD5 := u5 _ _ DB.1 hD
    refine ⟨ys, hD5, small1000 (by omega), ?_, ?_, ys ++ [y], rs ++ [r], upd_same, ?_, by rw [List.length_append, rl]; rfl, ?_⟩
    · exact b5.upd DB.1 DB.2
    · intro b o hb he
      rw [upd_ne (fun z => by rw [z, nD] at he; cases he)]
      exact u5 _ _ hb (u' _ _ hb he)
    · exact ((ny.go b' (Go.of u5)).snoc nr).wk (.set hD5)
    · intro t ht
      rcases List.mem_append.mp ht with ht | ht
      · exact br t ht
      · rw [List.mem_singleton.mp ht]; exact brr
  · rintro H3 ⟨b3, u3, ys, rs, hD, ny, rl, br⟩
    rw [Int.toNat_natCast] at rl
    have he3 := u3 _ _ eB eE
    have nx3 := nE.go bE (Go.of u3)
    have yl : ys.length = n := by rw [ny.1, rl]
    refine ⟨e, D, _, _, rfl, rfl, he3, hD, Nat.le_of_lt (small1000 (by rw [List.length_cons, List.length_replicate]; omega)), fun k nk => ?_⟩
    have s4 := new_same nk (HO.lst ((v :: List.replicate g (V.ref t)) ++ ys))
    refine ⟨_, rfl, (n : Int), 1, rfl, rfl, (n : Int) + 1, rfl, k, _, rfl, SqL.of upd_same, fun m nm => ?_⟩
    have ec : cutV ((v :: List.replicate g (V.ref t)) ++ ys) none (some ((n : Int) + 1)) = ((v :: List.replicate g (V.ref t)) ++ ys).take (n + 1) := cut_take _ (n + 1)
    rw [ec]
    have s5 := new_same nm (HO.lst (((v :: List.replicate g (V.ref t)) ++ ys).take (n + 1)))
    have s45 := s4.trans s5
    refine q _ _ (((q0 :: List.replicate g 0) ++ rs).take (n + 1)) (b3.same s45) ((u1.trans u3).trans (But.same s45)) ⟨m, _, rfl, upd_same, ((nx3.app ny).take (n + 1)).same s45⟩ (by rw [List.length_take, List.length_append, List.length_cons, List.length_replicate]; omega) (fun t ht => ?_) rfl
    rcases List.mem_append.mp (List.mem_of_mem_take ht) with h | h
    · rcases List.mem_cons.mp h with h | h
      · rw [h]; exact bv
      · rw [List.eq_of_mem_replicate h]; exact Zq.zero
    · exact br t h
theorem ok_slp (F : Fun K "_law_slope" "_law_slope" L_slope f fd) (mn : mg "len" = none) (mr : mg "range" = none) (UM : Use P w K mg base CX0 2 "_law_mul" ["_law_a", "_law_b"] (spMulQ K) []) : FnOk P w K mg base CX0 3 f fd ["_law_a"] (spSlp K) := by
  refine F.ok scSlp (fun vs H Q E h => ?_) (fun cdv A outer s H vs Q E hr h => ?_)
  · obtain ⟨x, us, rfl, _⟩ := h
    rfl
  obtain ⟨x, us, rfl, ⟨xa, xs, rfl, hx, nx⟩, l1, l25, bu, q⟩ := h
  refine ⟨_, pss_one (ps_ret (pe_lc (own := [("_law_k", 1)]) (g := gName 1) (tt := tYes) rfl scSlp.nd (pi_range2 rfl mr (pa_cons pe_int (pa_cons (pe_callB call_len_seq rfl mn PySem.boot_len (pa_cons (pv 0) pa_nil)) pa_nil))) (blkOk_by (N := nSlp) (sc := defScope L_slope) (by decide +kernel)) (fun _ _ _ _ _ => pg_name (i := 1) scSlp.nd rfl (Or.inl rfl)) (fun _ _ _ _ _ => pts_nil)
    (fun _ _ _ _ _ => pe_use UM hr rfl pass0 (pa_cons (pe_tup (pa_cons (pv 1) (pa_cons pe_int pa_nil))) (pa_cons (pe_ix (ixl_at K rfl) (pv 0) (pv 1) (fun _ _ => rfl)) pa_nil))))), ?_⟩
  have lx : xs.length = us.length := nx.1
  refine ⟨_, rfl, xa, xs, rfl, .inl (SqL.of hx), 1, ((xs.length : Nat) : Int), rfl, ⟨by omega, by omega, by omega, by omega⟩, fun D nD => ?_⟩
  refine lc_nums (K := K) (walk_range (lo := 1) (n := (((xs.length : Nat) : Int) - 1).toNat)) (slL us) (by unfold slL; rw [toL_len]; omega) nD (by omega) (fun _ _ => trivial) ?_ (fun H' zs s h n => q D H' zs s nD h n)
  rintro i r x H2 H3 k hq s2 ⟨rfl, rfl⟩ hk
  have hi : i < us.length - 1 := by
    rcases Nat.lt_or_ge i (us.length - 1) with c | c
    · exact c
    · rw [List.getElem?_eq_none (by unfold slL; rw [toL_len]; exact c)] at hq; cases hq
  unfold slL at hq
  rw [toL_get hi] at hq
  obtain rfl := Option.some.inj hq
  obtain ⟨y, ey, ny⟩ := nx.get' (i := i + 1) (by omega)
  have e1 := ser_at (qs := us) (k := i + 1) (by omega)
  have s1' : us[i + 1] = ser us (i + 1) := by
    rw [List.getElem?_eq_getElem (by omega)] at e1
    exact Option.some.inj e1
  rw [s1'] at ny
  refine ⟨rfl, _, rfl, (by show 2 ≤ sizeLine; decide), fun tt ntt => ?_⟩
  have s3 := new_same ntt (HO.tup [V.int (1 + (i : Int)), .int 1])
  refine ⟨_, rfl, _, rfl, xa, xs, _, y, rfl, rfl, SqL.of (s3 _ _ (s2 _ _ hx)), at_of (j := i + 1) (by omega) ey, .ref tt, y, nR (i + 1), ser us (i + 1), rfl, nR_at (by omega), ny.same (s2.trans s3), nR_b (by omega), bu _ (List.mem_of_getElem? e1), fun t' H4 s4 n4 h4 => hk _ _ (s3.trans s4) (.at h4)⟩
end
end Kx
end
section
set_option maxHeartbeats 4000000
namespace Kx
open PySem PySem.Spec PyProof.Rows L2 RZ
/-- the three errors' classes -/
structure Errs3 (P : Program) (w : World) (K : PySem.W.Frag) (mg : Str → Option Value) (base : Heap) (cs : Fin 3 → Addr) : Prop where
  e0 : ErrC P w K mg base "InvalidNumber" 1 (fs1 "InvalidNumber" "value") (cs 0)
  e1 : ErrC P w K mg base "NotOne" 1 (fs1 "NotOne" "first") (cs 1)
  e2 : ErrC P w K mg base "DividedByZero" 0 (fs0 "DividedByZero") (cs 2)
  co : ∀ i, PySem.W.findIn K (.ref (cs i)) "code" = some none
  f00 : PySem.W.findIn K (.ref (cs 0)) "value" = some none
  f10 : PySem.W.findIn K (.ref (cs 1)) "first" = some none
  kt : ∀ i j : Fin 3, PySem.W.kitOne K (.ref (cs i)) (.ref (cs j)) = some (decide (i = j))
/-- which of the errors is caught, and what fault makes of it -/
def Flt3 (H : Hp) (cs : Fin 3 → Addr) (cls : Value) (d : Option Addr) (Q : VK) : Prop :=
  (cls = .ref (cs 0) ∧ ∃ (dd : Addr) (v : V), d = some dd ∧ H dd = some (.xd (fs1 "InvalidNumber" "value" [v])) ∧ ∀ t H', Same H H' → H t = none → H' t = some (.lst [.str "InvalidNumber", v]) → Q (.ref t) H') ∨
  (cls = .ref (cs 1) ∧ ∃ (dd : Addr) (v : V), d = some dd ∧ H dd = some (.xd (fs1 "NotOne" "first" [v])) ∧ ∀ t H', Same H H' → H t = none → H' t = some (.lst [.str "NotOne", v]) → Q (.ref t) H') ∨
  (cls = .ref (cs 2) ∧ ∃ (dd : Addr), d = some dd ∧ H dd = some (.xd (fs0 "DividedByZero" [])) ∧ ∀ t H', Same H H' → H t = none → H' t = some (.lst [.str "DividedByZero"]) → Q (.ref t) H')
def spFlt3 (cs : Fin 3 → Addr) : Addr → Value → Option Addr → Sp := fun a cls d vs H Q _ => vs = [.ref a] ∧ Flt3 H cs cls d Q
section
variable {P : Program} {w : World} {K : PySem.W.Frag} {mg : Str → Option Value} {base : Heap} {f : Addr} {cs : Fin 3 → Addr} {fd : FuncData}
theorem scFlt3 : FnScope ["_law_error"] ["_law_error"] (defScope L_fault) := ⟨rfl, rfl, rfl, by decide +kernel, rfl, by decide +kernel, by decide +kernel⟩
theorem ok_fault3 (F : Fun K "_law_fault" "_law_fault" L_fault f fd) (mI : mg "isinstance" = none) (Z : Errs3 P w K mg base cs) : FnP P w K mg base C8.CX0 1 f fd ["_law_error"] (spFlt3 cs) := by
  refine fn_ofP F scFlt3 (fun a cls d vs H Q E h => ?_) (fun cdv A outer s H vs Q E a oe cls d hz hf hr h => ?_)
  · obtain ⟨rfl, _⟩ := h
    rfl
  obtain ⟨rfl, h⟩ := h
  have hp : (a, oe) ∈ (L2H.cxH C8.CX0 P w K mg base ["_law_error"] "_law_fault" (defScope L_fault) f cdv A outer s H E (a, oe)).pn := List.mem_cons_self
  have hrC : ∀ i u, RelV (.ref (cs i)) u → u = .ref (cs i) := fun i u e => e
  rcases h with ⟨rfl, dd, v, rfl, hd, q⟩ | ⟨rfl, dd, v, rfl, hd, q⟩ | ⟨rfl, dd, rfl, hd, q⟩
  · refine ⟨_, pss_cons (ps_if (pt_val (pe_callB (call_isP (dd := dd) hp Z.e0.T hz hf) rfl mI (by decide +kernel) (pa_cons (pv 0) (pa_cons (C8.pe_gc (v := .ref (cs 0)) rfl ⟨_, Z.e0.m, rfl⟩) pa_nil)))) (pss_one (ps_ret (pe_lst (pa_cons (pe_xfP hp Z.e0.T (Z.co 0) hz hf (pv 0)) (pa_cons (pe_xfP hp Z.e0.T Z.f00 hz hf (pv 0)) pa_nil))))) pss_nil) (pss_cons ps_never (pss_cons ps_never (pss_one ps_never))), ?_⟩
    refine ⟨_, rfl, .ref (cs 0), .ref (cs 0), true, _, rfl, hd, hrC 0, Z.kt 0 0, _, rfl, iteT ?_⟩
    refine ⟨_, rfl, rfl, rfl, dd, _, _, rfl, hd, rfl, _, rfl, rfl, rfl, dd, _, _, rfl, hd, rfl, (by show 2 ≤ sizeLine; decide), fun t nt => q t _ (new_same nt _) nt upd_same⟩
  · refine ⟨_, pss_cons (ps_if (pt_val (pe_callB (call_isP (dd := dd) hp Z.e1.T hz hf) rfl mI (by decide +kernel) (pa_cons (pv 0) (pa_cons (C8.pe_gc (v := .ref (cs 0)) rfl ⟨_, Z.e0.m, rfl⟩) pa_nil)))) (pss_one ps_never) pss_nil) (pss_cons (ps_if (pt_val (pe_callB (call_isP (dd := dd) hp Z.e1.T hz hf) rfl mI (by decide +kernel) (pa_cons (pv 0) (pa_cons (C8.pe_gc (v := .ref (cs 1)) rfl ⟨_, Z.e1.m, rfl⟩) pa_nil)))) (pss_one (ps_ret (pe_lst (pa_cons (pe_xfP hp Z.e1.T (Z.co 1) hz hf (pv 0)) (pa_cons (pe_xfP hp Z.e1.T Z.f10 hz hf (pv 0)) pa_nil))))) pss_nil) (pss_cons ps_never (pss_one ps_never))), ?_⟩
    refine ⟨_, rfl, .ref (cs 0), .ref (cs 0), false, _, rfl, hd, hrC 0, Z.kt 1 0, _, rfl, iteF ?_⟩
    refine ⟨_, rfl, .ref (cs 1), .ref (cs 1), true, _, rfl, hd, hrC 1, Z.kt 1 1, _, rfl, iteT ?_⟩
    refine ⟨_, rfl, rfl, rfl, dd, _, _, rfl, hd, rfl, _, rfl, rfl, rfl, dd, _, _, rfl, hd, rfl, (by show 2 ≤ sizeLine; decide), fun t nt => q t _ (new_same nt _) nt upd_same⟩
  · refine ⟨_, pss_cons (ps_if (pt_val (pe_callB (call_isP (dd := dd) hp Z.e2.T hz hf) rfl mI (by decide +kernel) (pa_cons (pv 0) (pa_cons (C8.pe_gc (v := .ref (cs 0)) rfl ⟨_, Z.e0.m, rfl⟩) pa_nil)))) (pss_one ps_never) pss_nil) (pss_cons (ps_if (pt_val (pe_callB (call_isP (dd := dd) hp Z.e2.T hz hf) rfl mI (by decide +kernel) (pa_cons (pv 0) (pa_cons (C8.pe_gc (v := .ref (cs 1)) rfl ⟨_, Z.e1.m, rfl⟩) pa_nil)))) (pss_one ps_never) pss_nil) (pss_cons (ps_if (pt_val (pe_callB (call_isP (dd := dd) hp Z.e2.T hz hf) rfl mI (by decide +kernel) (pa_cons (pv 0) (pa_cons (C8.pe_gc (v := .ref (cs 2)) rfl ⟨_, Z.e2.m, rfl⟩) pa_nil)))) (pss_one (ps_ret (pe_lst (pa_cons (pe_xfP hp Z.e2.T (Z.co 2) hz hf (pv 0)) pa_nil)))) pss_nil) (pss_one ps_never))), ?_⟩
    refine ⟨_, rfl, .ref (cs 0), .ref (cs 0), false, _, rfl, hd, hrC 0, Z.kt 2 0, _, rfl, iteF ?_⟩
    refine ⟨_, rfl, .ref (cs 1), .ref (cs 1), false, _, rfl, hd, hrC 1, Z.kt 2 1, _, rfl, iteF ?_⟩
    refine ⟨_, rfl, .ref (cs 2), .ref (cs 2), true, _, rfl, hd, hrC 2, Z.kt 2 2, _, rfl, iteT ?_⟩
    refine ⟨_, rfl, rfl, rfl, dd, _, _, rfl, hd, rfl, (by show 1 ≤ sizeLine; decide), fun t nt => q t _ (new_same nt _) nt upd_same⟩
end
/-- what ask makes of the lambda's reading -/
def TAsk3 (cs : Fin 3 → Addr) : (XK → Hp → VK → Prop) → Hp → VK → Prop := fun tl H Q =>
  tl (fun cls d H' => Flt3 H' cs cls d Q) H (fun v H1 => 2 ≤ sizeLine ∧ ∀ t, H1 t = none → Q (.ref t) (upd H1 t (.lst [.str "told", v])))
def askT3 (cs : Fin 3 → Addr) : Addr → Value → Option Addr → TS := fun a cls d => tRet (tCallP a cls d (spFlt3 cs) (tCons (tVar 1) tNil))
def askL3 (CE CN : Addr) (cs : Fin 3 → Addr) : List Hd3 := [(.ref CE, 1, askT3 cs), (.ref CN, 1, askT3 cs)]
section
variable {X : Cx} {q : Str} {g fF CE CN : Addr} {cs : Fin 3 → Addr} {cdg : Value} {fdF : FuncData}
theorem scAsk : FnScope nAsk ["_law_deed"] (defScope L_ask) := ⟨rfl, rfl, rfl, by decide +kernel, rfl, by decide +kernel, by decide +kernel⟩
theorem ask_gives3 (hr : Room 2 X.A) (F : FnP X.prog X.w X.K X.mg X.base C8.CX0 1 fF fdF ["_law_error"] (spFlt3 cs)) (bF : Binds X.K fdF ["_law_error"] []) (kF : PySem.W.keepIn X.K (.ref fF) = true) (mF : X.mg "_law_fault" = some (.ref fF))
    (mC : X.mg "CreepError" = some (.ref CE)) (mN : X.mg "NoAnswer" = some (.ref CN)) (e0 : PySem.W.exmOne X.K (.ref (cs 0)) (.ref CE) = some true) (e1 : PySem.W.exmOne X.K (.ref (cs 1)) (.ref CE) = some true) (e2 : PySem.W.exmOne X.K (.ref (cs 2)) (.ref CE) = some false) (e3 : PySem.W.exmOne X.K (.ref (cs 2)) (.ref CN) = some true) :
    LamX.GivesTo X nAsk "_law_ask" (defScope L_ask) g cdg (defBody L_ask) "_law_deed" q (TAsk3 cs) := by
  intro f c' s H Q tl act hc h
  let XX := (cxOf C8.CX0 X.prog X.w X.K X.mg X.base nAsk "_law_ask" (defScope L_ask) g cdg X.A X.stack s H C8.E0).nox
  refine ⟨_, pss_one (ps_try_manyAs (X := XX) (l := askL3 CE CN cs) (tb := fun W D σ H => ∃ Ech : XK, (∀ cls d σ' H', Ech cls d H' → σ'.length = 2 → W cls d σ' H') ∧ σ[0]? = some (some (.ref f)) ∧ H c' = some (LamX.CodeO c' q) ∧
      tl Ech H (fun v H1 => 2 ≤ sizeLine ∧ ∀ t, H1 t = none → D.rt (.ref t) (upd H1 t (.lst [.str "told", v]))))
      rfl rfl scAsk.nd LamX.takes0 (fun W pn xe tk _ => ?_) ?_), ?_⟩
  · refine ⟨fun pins s' σ H' D I h' => ?_⟩
    obtain ⟨Ech, hW, h1, h2, h3⟩ := h'
    have hp := act (fun cls d σ H => σ.length = 2 → W cls d σ H) pn xe Ech
    have hq : ∀ (j : Nat) (p1 p2 p3 p4 p5 : Pos), PSs (XX.tr pn xe) [.Return (some (.List [.Constant (.str "told") j p3, .Call (.Name "_law_deed" p1) [] [] p2] p4)) p5] (tRet (tLst (tCons (tC (.str "told")) (tCons (fun σZ HZ Q => σZ[0]? = some (some (V.ref f)) ∧ HZ c' = some (LamX.CodeO c' q) ∧ tl Ech HZ Q) tNil)))) :=
      fun j p1 p2 p3 p4 p5 => pss_one (ps_ret (pe_lst (pa_cons pe_str (pa_cons (hp p1 p2 (takes_len tk) hW) pa_nil))))
    exact (hq _ _ _ _ _ _).run pins s' σ H' D I ⟨h1, h2, h3⟩
  · have cl : ∀ (a : Addr) (oe : Obj) (cls : Value) (d : Option Addr) (pn : List (Addr × Obj)) (p1 p2 p3 p4 : Pos), Zc cls d oe → (∃ vs, oe.data = .fields vs) → PSs (XX.suite a ((a, oe) :: pn)) [.Return (some (.Call (.Name "_law_fault" p1) [.Name "_law_error" p2] [] p3)) p4] (askT3 cs a cls d) :=
      fun a oe cls d pn p1 p2 p3 p4 hz hf => pss_one (ps_ret (pe_callP List.mem_cons_self hz hf F (L2H.roomH_mark (hr.deeper _) _) rfl mF kF bF (pa_cons (pv 1) pa_nil)))
    exact .cons rfl rfl ⟨rfl, by decide, .inl mC⟩ (fun a oe cls d pn hz hf => cl a oe cls d pn _ _ _ _ hz hf) (.cons rfl rfl ⟨rfl, by decide, .inl mN⟩ (fun a oe cls d pn hz hf => cl a oe cls d pn _ _ _ _ hz hf) .nil)
  · refine ⟨fun cls d H' => Flt3 H' cs cls d Q, fun cls d σ' H' hf hl => ?_, rfl, hc, ?_⟩
    · have g1 : ∀ a : Addr, (σ'.set 1 (some (V.ref a)))[1]? = some (some (V.ref a)) := fun a => List.getElem?_set_self (by omega)
      rcases hf with ⟨rfl, r⟩ | ⟨rfl, r⟩ | ⟨rfl, r⟩
      · exact ⟨true, e0, fun _ a na => ⟨_, g1 a, rfl, .inl ⟨rfl, r⟩⟩, fun z => Bool.noConfusion z⟩
      · exact ⟨true, e1, fun _ a na => ⟨_, g1 a, rfl, .inr (.inl ⟨rfl, r⟩)⟩, fun z => Bool.noConfusion z⟩
      · exact ⟨false, e2, fun z => Bool.noConfusion z, fun _ => ⟨true, e3, fun _ a na => ⟨_, g1 a, rfl, .inr (.inr ⟨rfl, r⟩)⟩, fun z => Bool.noConfusion z⟩⟩
    · exact h
end
/-! ### powers and logs held against their slopes -/
theorem cut_init (xs : List V) : cutV xs none (some (-1)) = xs.take (xs.length - 1) := by
  unfold cutV
  rw [show HT.sIx xs.length 0 none = 0 from rfl, List.drop_zero, Nat.sub_zero]
  have e : HT.sIx xs.length xs.length (some (-1)) = xs.length - 1 := by
    unfold HT.sIx
    show (if (-1 : Int) < 0 then _ else _ : Nat) = _
    rw [if_pos (by decide)]
    omega
  rw [e]
theorem Ls.dp {K : PySem.W.Frag} {H : Hp} {v : V} {qs : List Rat} (h : Ls K H v qs) : Dp K H v (datL qs) := by
  obtain ⟨a, xs, rfl, ha, nx⟩ := h
  exact nx.dp ha
theorem Wide.m10 {b : Bs} (h : Wide b) : 10 ≤ b.m := by
  rcases Nat.lt_or_ge b.m 10 with c | c
  · have h1 : 1024 * b.D ≤ 2 ^ b.m := h
    have h2 : 2 ^ b.m ≤ 2 ^ 9 := Nat.pow_le_pow_right (by decide) (by omega)
    have := b.D0
    have h3 : (2 : Nat) ^ 9 = 512 := rfl
    omega
  · exact c
theorem RW.gl {b : Bs} {s : Nat} {us : List Rat} (h : RW b s us) (n : Nat) : GL b s 1 (us.take n) := fun j hj => by
  rw [List.length_take] at hj
  have e : (us.take n).getD j 0 = ser us j := by
    show _ = us.getD j 0
    rw [List.getD_eq_getElem?_getD, List.getElem?_take, if_pos (by omega), ← List.getD_eq_getElem?_getD]
  rw [e]
  match j, hj with
  | 0, _ =>
    rw [h.u0]
    exact Zq.one (by omega)
  | j + 1, hj => exact (h.w (j + 1) (by omega) (by omega)).mono (by omega)
theorem sl_getD {us : List Rat} {k : Nat} (h : k < us.length - 1) : (slL us).getD k 0 = nR (k + 1) * ser us (k + 1) := by
  unfold slL
  rw [List.getD_eq_getElem?_getD, toL_get h]
  rfl
theorem slL_len (us : List Rat) : (slL us).length = us.length - 1 := toL_len _ _
theorem RW.sl {b : Bs} {s : Nat} {us : List Rat} (h : RW b s us) (hb : Wide b) (l : us.length ≤ 25) : GL b s (s + 1) (slL us) := fun j hj => by
  rw [slL_len] at hj
  rw [sl_getD hj]
  have := (hb.nat (show j + 1 ≤ 32 by omega)).mulq (h.w (j + 1) (by omega) (by omega))
  rw [show 1 + s * (j + 1) = s * j + (s + 1) by rw [Nat.mul_add]; omega] at this
  exact this
theorem RW.b4 {b : Bs} {s : Nat} {us : List Rat} (h : RW b s us) (w : b.m * (s * (us.length - 1) + 2) ≤ 3900) : AllB 4000 us := fun q hq => by
  obtain ⟨j, hj⟩ := List.getElem?_of_mem hq
  have hl : j < us.length := by
    rcases Nat.lt_or_ge j us.length with c | c
    · exact c
    · rw [List.getElem?_eq_none c] at hj; cases hj
  have e : ser us j = q := by
    have := ser_at hl
    rw [this] at hj
    exact Option.some.inj hj
  rw [← e]
  match j, hl with
  | 0, _ =>
    rw [h.u0]
    exact (Zq.one (b := b) (e := 1) (by decide)).b4 (Nat.le_trans (Nat.mul_le_mul_left _ (by omega)) w)
  | j + 1, hl => exact (h.w (j + 1) (by omega) hl).b4 (Nat.le_trans (Nat.mul_le_mul_left _ (Nat.le_trans (Nat.mul_le_mul_left s (show j + 1 ≤ us.length - 1 by omega)) (by omega))) w)
theorem mul_gb {b : Bs} {s c d : Nat} {us ws : List Rat} (h : GL b s c us) (h' : GL b s d ws) (l : us.length = ws.length) (l25 : us.length ≤ 25) (w : b.m * (s * (us.length - 1) + (c + d)) ≤ 3900) : AllB 4000 (mulL us ws) := fun q hq => by
  obtain ⟨k, hk, rfl⟩ := List.mem_map.mp hq
  rw [List.mem_range] at hk
  exact ((cvT_gz h h' l k hk (k + 1) (by omega)).red (by omega)).b4 (Nat.le_trans (Nat.mul_le_mul_left _ (Nat.add_le_add_right (Nat.mul_le_mul_left s (by omega)) _)) w)
theorem lg_sl {us : List Rat} : slL (lgL us) = lsL us ∨ us.length = 0 := by
  rcases Nat.eq_zero_or_pos us.length with h | h
  · exact .inr h
  · left
    refine ext_ser (by rw [slL_len, lgL_len h, lsL_len]) fun k hk => ?_
    rw [slL_len, lgL_len h] at hk
    show (slL (lgL us)).getD k 0 = _
    rw [sl_getD (by rw [lgL_len h]; exact hk)]
    exact lg_dS k hk
theorem lg_b4 {b : Bs} {s : Nat} {us : List Rat} (h : RW b s us) (hb : Wide b) (l1 : 1 ≤ us.length) (l : us.length ≤ 25) (w : b.m * (s * (us.length - 1) + 2) ≤ 3900) : AllB 4000 (lgL us) := fun q hq => by
  obtain ⟨j, hj⟩ := List.getElem?_of_mem hq
  have hl : j < (lgL us).length := by
    rcases Nat.lt_or_ge j (lgL us).length with c | c
    · exact c
    · rw [List.getElem?_eq_none c] at hj; cases hj
  have e : ser (lgL us) j = q := by
    have := ser_at hl
    rw [this] at hj
    exact Option.some.inj hj
  rw [lgL_len l1] at hl
  rw [← e]
  match j, hl with
  | 0, _ =>
    show Bq 4000 (0 : Rat)
    exact ⟨by decide +kernel, by decide +kernel⟩
  | k + 1, hl =>
    rw [lg_at (by omega), rat_quo _ _ (nR_ne (by omega))]
    have z := (ls_w hb h l k (by omega)).bqn (n := 3892) (by
      have h1 : s * k + (s + 1) ≤ s * (us.length - 1) + 1 := by
        have := Nat.mul_le_mul_left s (show k + 1 ≤ us.length - 1 by omega)
        rw [Nat.mul_add] at this
        omega
      have h2 := Nat.mul_le_mul_left b.m h1
      have h3 : b.m * (s * (us.length - 1) + 2) = b.m * (s * (us.length - 1) + 1) + b.m := by rw [show s * (us.length - 1) + 2 = s * (us.length - 1) + 1 + 1 by omega, Nat.mul_add b.m _ 1, Nat.mul_one]
      have := hb.m10
      omega)
    have n1 : (nR (k + 1)).num = ((k + 1 : Nat) : Int) := rfl
    have d1 : (nR (k + 1)).den = 1 := rfl
    rw [n1, d1]
    have dk : (((ser (lsL us) k).den : Int) * ((k + 1 : Nat) : Int)).natAbs < 2 ^ 3900 := by
      have := lt_mul (a := 3892) (b := 5) (i := ((ser (lsL us) k).den : Int)) (j := ((k + 1 : Nat) : Int)) (by rw [Int.natAbs_natCast]; exact z.2) (by rw [Int.natAbs_natCast]; show _ < 32; omega)
      exact Nat.lt_of_lt_of_le this (Nat.pow_le_pow_right (by decide) (by decide))
    have nk : ((ser (lsL us) k).num * ((1 : Nat) : Int)).natAbs < 2 ^ 3892 := by rw [show (((1 : Nat) : Int)) = 1 from rfl, Int.mul_one]; exact z.1
    have := div_bd (p := (ser (lsL us) k).num * ((1 : Nat) : Int)) (Int.mul_ne_zero (den_ne _) (by omega)) nk dk
    exact ⟨Nat.lt_of_lt_of_le this.1 (Nat.pow_le_pow_right (by decide) (by decide)), Nat.lt_of_lt_of_le this.2 (Nat.pow_le_pow_right (by decide) (by decide))⟩
def spPso (K : PySem.W.Frag) : Sp := fun vs H Q _ => ∃ (x y v : V) (us : List Rat) (t : Rat) (b : Bs) (s : Nat), vs = [x, y, v] ∧ Ls K H x (pwL us t) ∧ Ls K H y us ∧ Nq K H v t ∧ 3 ≤ us.length ∧ us.length ≤ 25 ∧ Bq 4000 t ∧ Wide b ∧ 1 ≤ s ∧ RW b s us ∧ RW b s (pwL us t) ∧ b.m * (s * (us.length - 1) + 2) ≤ 3900 ∧ ∀ H', Same H H' → Q (.bl true) H'
def spLso (K : PySem.W.Frag) : Sp := fun vs H Q _ => ∃ (x y : V) (us : List Rat) (b : Bs) (s : Nat), vs = [x, y] ∧ Ls K H x (lgL us) ∧ Ls K H y us ∧ 3 ≤ us.length ∧ us.length ≤ 25 ∧ Wide b ∧ 1 ≤ s ∧ RW b s us ∧ b.m * (s * (us.length - 1) + 2) ≤ 3900 ∧ ∀ H', Same H H' → Q (.bl true) H'
abbrev nPso : List Str := ["_law_told", "_law_a", "_law_c", "_law_b", "_law_one"]
abbrev nLso : List Str := ["_law_told", "_law_a", "_law_b"]
section
variable {P : Program} {w : World} {K : PySem.W.Frag} {mg : Str → Option Value} {base : Heap} {f : Addr} {fd : FuncData}
theorem scPso : FnScope nPso ["_law_told", "_law_a", "_law_c"] (defScope L_power_so) := ⟨rfl, rfl, rfl, by decide +kernel, rfl, by decide +kernel, by decide +kernel⟩
theorem scLso : FnScope nLso ["_law_told", "_law_a"] (defScope L_log_so) := ⟨rfl, rfl, rfl, by decide +kernel, rfl, by decide +kernel, by decide +kernel⟩
theorem bools_eq {n : Nat} {ys : List V} (hl : ys.length = n) (hR : ∀ (i : Nat) y, ys[i]? = some y → y = .bl true) : ys = (List.replicate n true).map V.bl := by
  apply List.ext_getElem?
  intro i
  rw [List.getElem?_map, List.getElem?_replicate]
  by_cases c : i < n
  · rw [if_pos c]
    have e := List.getElem?_eq_getElem (l := ys) (i := i) (by omega)
    rw [e, hR i _ e]
    rfl
  · rw [if_neg c, List.getElem?_eq_none (by omega)]
    rfl
theorem all_true (n : Nat) : (List.replicate n true).all id = true := List.all_eq_true.mpr fun b hb => List.eq_of_mem_replicate hb
theorem ok_powerso (F : Fun K "_law_power_so" "_law_power_so" L_power_so f fd) (mn : mg "len" = none) (ma : mg "all" = none) (UI : Use P w K mg base CX0 2 "_law_is" ["_law_thing"] (spIs K) []) (UT : Use P w K mg base CX0 3 "_law_times" ["_law_u", "_law_w"] (spTimes K) []) (US : Use P w K mg base CX0 3 "_law_slope" ["_law_a"] (spSlp K) []) (UC : Use P w K mg base CX0 3 "_law_scale" ["_law_u", "_law_c"] (spScale K) []) :
    FnOk P w K mg base CX0 4 f fd ["_law_told", "_law_a", "_law_c"] (spPso K) := by
  refine F.ok scPso (fun vs H Q E h => ?_) (fun cdv A outer s H vs Q E hr h => ?_)
  · obtain ⟨x, y, v, us, t, b, s, rfl, _⟩ := h
    rfl
  obtain ⟨x, y, v, us, t, b, s', rfl, hP, hU, nt, l3, l25, bt, wb, s1, ru, rp, w1, q⟩ := h
  have hr2 := hr.mono (show 2 ≤ 3 by decide)
  refine ⟨_, C8.pss_cut (ps_if (PW.pt (pw_or (pt_cmpR op_ne (pe_callB call_len_seq rfl mn PySem.boot_len (pa_cons (pv 0) pa_nil)) (pe_callB call_len_seq rfl mn PySem.boot_len (pa_cons (pv 1) pa_nil)) (nomark _))
      (pw_or (pt_not (pt_val (pe_callB (cr_all rfl) rfl ma (by decide +kernel) (pa_cons (pe_lc (own := [("_law_b", 3)]) (g := gName 3) (tt := tYes) rfl scPso.nd (pi_list (pv 0)) (blkOk_by (N := nPso) (sc := defScope L_power_so) (by decide +kernel)) (fun _ _ _ _ _ => pg_name (i := 3) scPso.nd rfl (Or.inl rfl)) (fun _ _ _ _ _ => pts_nil)
        (fun _ _ _ _ _ => pe_use UI hr2 rfl pass0 (pa_cons (pv 3) pa_nil))) pa_nil))))
      (pw_or1 (pt_cmpR (op_neD hr.units) (pe_ix ix_list (pv 0) pe_int (fun _ _ => rfl)) (pe_tup (pa_cons pe_int (pa_cons pe_int pa_nil))) (nomark _)))))) (pss_one (ps_ret pe_bl)) pss_nil)
    (C8.pss_cut (ps_set (i := 4) scPso.nd rfl (Or.inl rfl) (pe_use UT hr rfl pass0 (pa_cons (pe_slice sl_list (pv 1) po_none (po_some (pe_un un_neg pe_int))) (pa_cons (pe_use US hr rfl pass0 (pa_cons (pv 0) pa_nil)) pa_nil))))
    (pss_one (ps_ret (pe_cmpR (op_eqD hr.units) (pv 4) (pe_use UC hr rfl pass0 (pa_cons (pe_use UT hr rfl pass0 (pa_cons (pe_use US hr rfl pass0 (pa_cons (pv 1) pa_nil)) (pa_cons (pe_slice sl_list (pv 0) po_none (po_some (pe_un un_neg pe_int))) pa_nil))) (pa_cons (pv 2) pa_nil))) (nomark _))))), ?_⟩
  have lp := pwL_len us t
  have bp : AllB 4000 (pwL us t) := rp.b4 (by rw [lp]; exact w1)
  have bu : AllB 4000 us := ru.b4 w1
  obtain ⟨xa, xs, rfl, hx, nx⟩ := id hP
  obtain ⟨ya, ys, rfl, hy, ny⟩ := id hU
  have lx : xs.length = us.length := by rw [nx.1, lp]
  have ly : ys.length = us.length := ny.1
  refine ⟨fun σ G => σ = [some (.ref xa), some (.ref ya), some v, none, none] ∧ Same H G, ?_, ?_⟩
  · refine ⟨_, rfl, xa, xs, rfl, .inl (SqL.of hx), _, rfl, ya, ys, rfl, .inl (SqL.of hy), rfl, _, rfl, ?_⟩
    rw [lx, ly, decide_eq_true (rfl : V.int (us.length : Nat) = V.int (us.length : Nat))]
    refine iteF ⟨_, rfl, xa, rfl, ⟨_, SqL.of hx⟩, fun D nD => ?_⟩
    refine lc_acc (walk_list (K := K) (a := xa) (xs := xs)) (fun i _ y => y = .bl true) (fun i H H' y l h _ _ => h) nD (by omega) (fun H2 s => SqL.of (s _ _ hx)) ?_ ?_
    · rintro i y H4 H5 k' hi s4 ⟨rfl, hy'⟩ hk
      obtain ⟨q', hq'⟩ : ∃ q', (pwL us t)[i]? = some q' := ⟨_, List.getElem?_eq_getElem (by omega)⟩
      have nq := (nx.2 i y q' hy' hq').same s4
      exact ⟨rfl, _, rfl, y, true, rfl, nq.isB ((bp q' (List.mem_of_getElem? hq')).mono (by decide)), fun H6 s6 => hk _ _ s6 rfl⟩
    · intro H4 zs s4 hD hl hR
      refine ⟨D, List.replicate xs.length true, rfl, SqL.of (by rw [hD, bools_eq hl hR]), ?_⟩
      rw [all_true]
      refine ⟨_, rfl, iteF ?_⟩
      obtain ⟨y0, ey, n0⟩ := nx.get' (i := 0) (by omega)
      have e0 : (pwL us t)[0] = 1 := by
        have := ser_at (qs := pwL us t) (k := 0) (by omega)
        rw [List.getElem?_eq_getElem (by omega), pw_zero t (by omega)] at this
        exact Option.some.inj this
      rw [e0] at n0
      refine ⟨_, rfl, xa, xs, 0, y0, rfl, rfl, SqL.of (s4 _ _ hx), at_of (j := 0) rfl ey, (by show 2 ≤ sizeLine; decide), fun tt ntt => ?_⟩
      have s5 := new_same ntt (HO.tup [V.int 1, .int 1])
      have n1 : Nq K (upd H4 tt (HO.tup [V.int 1, .int 1])) (.ref tt) 1 := ⟨tt, rfl, .inl upd_same⟩
      refine ⟨tupQ 1, tupQ 1, (n0.same (s4.trans s5)).dp, n1.dp, rfl, rfl, _, rfl, ?_⟩
      rw [eqv_num, decide_eq_true rfl]
      exact iteF ⟨rfl, s4.trans s5⟩
  rintro σ G ⟨rfl, sG⟩
  have gu := ru.gl (us.length - 1)
  have gs := rp.sl wb (by rw [lp]; exact l25)
  have lt : (us.take (us.length - 1)).length = us.length - 1 := by rw [List.length_take]; omega
  have lt2 : ((pwL us t).take (us.length - 1)).length = us.length - 1 := by rw [List.length_take, lp]; omega
  have ws : ∀ n, n = us.length - 1 → b.m * (s' * (n - 1) + (1 + (s' + 1))) ≤ 3900 := fun n e => by
    rw [e]
    have : s' * (us.length - 1 - 1) + s' = s' * (us.length - 1) := by rw [← Nat.mul_succ]; congr 1; omega
    rw [show s' * (us.length - 1 - 1) + (1 + (s' + 1)) = s' * (us.length - 1) + 2 by omega]
    exact w1
  refine ⟨fun σ G' => ∃ v4, σ = [some (.ref xa), some (.ref ya), some v, none, some v4] ∧ Same G G' ∧ Ls K G' v4 (mulL (us.take (us.length - 1)) (slL (pwL us t))), ?_, ?_⟩
  · refine ⟨_, rfl, 1, rfl, -1, rfl, ya, ys, rfl, SqL.of (sG _ _ hy), fun p np => ?_⟩
    rw [cut_init]
    have s2 := new_same np (HO.lst (ys.take (ys.length - 1)))
    refine ⟨_, rfl, .ref xa, pwL us t, rfl, (hP.same sG).same s2, by omega, by omega, bp, fun b' H3 zs s3 n3 e3 m3 => ?_⟩
    refine ⟨.ref p, .ref b', us.take (us.length - 1), slL (pwL us t), b, s', 1, s' + 1, rfl, ⟨p, _, rfl, s3 _ _ upd_same, by rw [ly]; exact ((ny.take (us.length - 1)).same (sG.trans s2)).same s3⟩, ⟨b', zs, rfl, e3, m3⟩, by rw [lt, slL_len, lp], by omega, ws _ lt, gu, gs, fun c H4 ws' s4 n4 e4 m4 => ⟨.ref c, rfl, s2.trans (s3.trans s4), ⟨c, ws', rfl, e4, m4⟩⟩⟩
  rintro σ G1 ⟨v4, rfl, s1', hM⟩
  have sA := sG.trans s1'
  refine ⟨_, rfl, _, rfl, .ref ya, us, rfl, hU.same sA, by omega, l25, bu, fun b' H3 zs s3 n3 e3 m3 => ?_⟩
  refine ⟨_, rfl, 1, rfl, -1, rfl, xa, xs, rfl, SqL.of (s3 _ _ (sA _ _ hx)), fun p np => ?_⟩
  rw [cut_init]
  have s4 := new_same np (HO.lst (xs.take (xs.length - 1)))
  have gsu := ru.sl wb l25
  have gp := rp.gl (us.length - 1)
  have ls := slL_len us
  have wt : b.m * (s' * ((slL us).length - 1) + (s' + 1 + 1)) ≤ 3900 := by
    rw [show s' + 1 + 1 = 1 + (s' + 1) by omega]
    exact ws _ ls
  refine ⟨.ref b', .ref p, slL us, (pwL us t).take (us.length - 1), b, s', s' + 1, 1, rfl, ⟨b', zs, rfl, s4 _ _ e3, m3.same s4⟩, ⟨p, _, rfl, upd_same, by have h := (nx.take (xs.length - 1)).same (sA.trans (s3.trans s4)); rw [show (pwL us t).take (us.length - 1) = (pwL us t).take (xs.length - 1) by rw [lx]]; exact h⟩, by rw [ls, lt2], by omega, wt, gsu, gp, fun c H5 ws' s5 n5 e5 m5 => ?_⟩
  have sB := s3.trans (s4.trans s5)
  refine ⟨_, rfl, .ref c, v, _, t, rfl, ⟨c, ws', rfl, e5, m5⟩, nt.same (sA.trans sB), by rw [mulL_len', ls]; omega, mul_gb gsu gp (by rw [ls, lt2]) (by omega) wt, bt, fun d H6 us' s6 n6 e6 m6 => ?_⟩
  refine ⟨datL _, datL _, (hM.same (sB.trans s6)).dp, Ls.dp ⟨d, us', rfl, e6, m6⟩, shaped_list _, shaped_list _, ?_⟩
  rw [eqv_list, decide_eq_true (pw_law t ru.u0 (by omega))]
  exact q _ (sA.trans (sB.trans s6))
theorem ok_logso (F : Fun K "_law_log_so" "_law_log_so" L_log_so f fd) (mn : mg "len" = none) (ma : mg "all" = none) (UI : Use P w K mg base CX0 2 "_law_is" ["_law_thing"] (spIs K) []) (UT : Use P w K mg base CX0 3 "_law_times" ["_law_u", "_law_w"] (spTimes K) []) (US : Use P w K mg base CX0 3 "_law_slope" ["_law_a"] (spSlp K) []) :
    FnOk P w K mg base CX0 4 f fd ["_law_told", "_law_a"] (spLso K) := by
  refine F.ok scLso (fun vs H Q E h => ?_) (fun cdv A outer s H vs Q E hr h => ?_)
  · obtain ⟨x, y, us, b, s, rfl, _⟩ := h
    rfl
  obtain ⟨x, y, us, b, s', rfl, hP, hU, l3, l25, wb, s1, ru, w1, q⟩ := h
  have hr2 := hr.mono (show 2 ≤ 3 by decide)
  refine ⟨_, C8.pss_cut (ps_if (PW.pt (pw_or (pt_cmpR op_ne (pe_callB call_len_seq rfl mn PySem.boot_len (pa_cons (pv 0) pa_nil)) (pe_callB call_len_seq rfl mn PySem.boot_len (pa_cons (pv 1) pa_nil)) (nomark _))
      (pw_or (pt_not (pt_val (pe_callB (cr_all rfl) rfl ma (by decide +kernel) (pa_cons (pe_lc (own := [("_law_b", 2)]) (g := gName 2) (tt := tYes) rfl scLso.nd (pi_list (pv 0)) (blkOk_by (N := nLso) (sc := defScope L_log_so) (by decide +kernel)) (fun _ _ _ _ _ => pg_name (i := 2) scLso.nd rfl (Or.inl rfl)) (fun _ _ _ _ _ => pts_nil)
        (fun _ _ _ _ _ => pe_use UI hr2 rfl pass0 (pa_cons (pv 2) pa_nil))) pa_nil))))
      (pw_or1 (pt_cmpR (op_neD hr.units) (pe_ix ix_list (pv 0) pe_int (fun _ _ => rfl)) (pe_tup (pa_cons pe_int (pa_cons pe_int pa_nil))) (nomark _)))))) (pss_one (ps_ret pe_bl)) pss_nil)
    (pss_one (ps_ret (pe_cmpR (op_eqD hr.units) (pe_use UT hr rfl pass0 (pa_cons (pe_slice sl_list (pv 1) po_none (po_some (pe_un un_neg pe_int))) (pa_cons (pe_use US hr rfl pass0 (pa_cons (pv 0) pa_nil)) pa_nil))) (pe_use US hr rfl pass0 (pa_cons (pv 1) pa_nil)) (nomark _)))), ?_⟩
  have lp := lgL_len (us := us) (by omega)
  have bp : AllB 4000 (lgL us) := lg_b4 ru wb (by omega) l25 w1
  have bu : AllB 4000 us := ru.b4 w1
  obtain ⟨xa, xs, rfl, hx, nx⟩ := id hP
  obtain ⟨ya, ys, rfl, hy, ny⟩ := id hU
  have lx : xs.length = us.length := by rw [nx.1, lp]
  have ly : ys.length = us.length := ny.1
  refine ⟨fun σ G => σ = [some (.ref xa), some (.ref ya), none] ∧ Same H G, ?_, ?_⟩
  · refine ⟨_, rfl, xa, xs, rfl, .inl (SqL.of hx), _, rfl, ya, ys, rfl, .inl (SqL.of hy), rfl, _, rfl, ?_⟩
    rw [lx, ly, decide_eq_true (rfl : V.int (us.length : Nat) = V.int (us.length : Nat))]
    refine iteF ⟨_, rfl, xa, rfl, ⟨_, SqL.of hx⟩, fun D nD => ?_⟩
    refine lc_acc (walk_list (K := K) (a := xa) (xs := xs)) (fun i _ y => y = .bl true) (fun i H H' y l h _ _ => h) nD (by omega) (fun H2 s => SqL.of (s _ _ hx)) ?_ ?_
    · rintro i y H4 H5 k' hi s4 ⟨rfl, hy'⟩ hk
      obtain ⟨q', hq'⟩ : ∃ q', (lgL us)[i]? = some q' := ⟨_, List.getElem?_eq_getElem (by omega)⟩
      have nq := (nx.2 i y q' hy' hq').same s4
      exact ⟨rfl, _, rfl, y, true, rfl, nq.isB ((bp q' (List.mem_of_getElem? hq')).mono (by decide)), fun H6 s6 => hk _ _ s6 rfl⟩
    · intro H4 zs s4 hD hl hR
      refine ⟨D, List.replicate xs.length true, rfl, SqL.of (by rw [hD, bools_eq hl hR]), ?_⟩
      rw [all_true]
      refine ⟨_, rfl, iteF ?_⟩
      obtain ⟨y0, ey, n0⟩ := nx.get' (i := 0) (by omega)
      have e0 : (lgL us)[0] = 0 := rfl
      rw [e0] at n0
      refine ⟨_, rfl, xa, xs, 0, y0, rfl, rfl, SqL.of (s4 _ _ hx), at_of (j := 0) rfl ey, (by show 2 ≤ sizeLine; decide), fun tt ntt => ?_⟩
      have s5 := new_same ntt (HO.tup [V.int 0, .int 1])
      have n1 : Nq K (upd H4 tt (HO.tup [V.int 0, .int 1])) (.ref tt) 0 := ⟨tt, rfl, .inl upd_same⟩
      refine ⟨tupQ 0, tupQ 0, (n0.same (s4.trans s5)).dp, n1.dp, rfl, rfl, _, rfl, ?_⟩
      rw [eqv_num, decide_eq_true rfl]
      exact iteF ⟨rfl, s4.trans s5⟩
  rintro σ G ⟨rfl, sG⟩
  have gu := ru.gl (us.length - 1)
  have es : slL (lgL us) = lsL us := lg_sl.resolve_right (by omega)
  have gs : GL b s' (s' + 1) (slL (lgL us)) := fun j hj => by
    rw [slL_len, lp] at hj
    rw [es]
    exact ls_w wb ru l25 j hj
  have lt : (us.take (us.length - 1)).length = us.length - 1 := by rw [List.length_take]; omega
  have ws : ∀ n, n = us.length - 1 → b.m * (s' * (n - 1) + (1 + (s' + 1))) ≤ 3900 := fun n e => by
    rw [e]
    have : s' * (us.length - 1 - 1) + s' = s' * (us.length - 1) := by rw [← Nat.mul_succ]; congr 1; omega
    rw [show s' * (us.length - 1 - 1) + (1 + (s' + 1)) = s' * (us.length - 1) + 2 by omega]
    exact w1
  refine ⟨_, rfl, 1, rfl, -1, rfl, ya, ys, rfl, SqL.of (sG _ _ hy), fun p np => ?_⟩
  rw [cut_init]
  have s2 := new_same np (HO.lst (ys.take (ys.length - 1)))
  refine ⟨_, rfl, .ref xa, lgL us, rfl, (hP.same sG).same s2, by omega, by omega, bp, fun b' H3 zs s3 n3 e3 m3 => ?_⟩
  refine ⟨.ref p, .ref b', us.take (us.length - 1), slL (lgL us), b, s', 1, s' + 1, rfl, ⟨p, _, rfl, s3 _ _ upd_same, by rw [ly]; exact ((ny.take (us.length - 1)).same (sG.trans s2)).same s3⟩, ⟨b', zs, rfl, e3, m3⟩, by rw [lt, slL_len, lp], by omega, ws _ lt, gu, gs, fun c H4 ws' s4 n4 e4 m4 => ?_⟩
  have sB := sG.trans (s2.trans (s3.trans s4))
  refine ⟨_, rfl, .ref ya, us, rfl, hU.same sB, by omega, l25, bu, fun d H5 us' s5 n5 e5 m5 => ?_⟩
  refine ⟨datL _, datL _, Ls.dp ((show Ls K H4 (.ref c) _ from ⟨c, ws', rfl, e4, m4⟩).same s5), Ls.dp ⟨d, us', rfl, e5, m5⟩, shaped_list _, shaped_list _, ?_⟩
  rw [eqv_list, decide_eq_true (lg_law ru.u0 (by omega))]
  exact q _ (sB.trans s5)
end
end Kx
end
section
set_option maxHeartbeats 4000000
namespace Kx
open PySem PySem.Spec PyProof.Rows L2 RZ
/-! ### bases with room for powers -/
def exB (b0 : Bs) (E m' : Nat) (h0 : 0 < E) (h : E ≤ 2 ^ m') : Bs := ⟨b0.D * E, b0.m + m', Nat.mul_pos b0.D0 h0, by
  rw [Nat.pow_add, ← Nat.mul_assoc]
  exact Nat.mul_le_mul b0.Dm h⟩
theorem exB_wide {b0 : Bs} {E m' : Nat} {h0 : 0 < E} {h : E ≤ 2 ^ m'} (w : Wide b0) : Wide (exB b0 E m' h0 h) := by
  show 1024 * (b0.D * E) ≤ 2 ^ (b0.m + m')
  rw [Nat.pow_add, ← Nat.mul_assoc]
  exact Nat.mul_le_mul w h
theorem Ex.wide {b0 b : Bs} {t : Rat} (h : Ex b0 b t) (w : Wide b0) : Wide b := by
  obtain ⟨E, m', E0, hD, hm, hE, _⟩ := h.ex
  show 1024 * b.D ≤ 2 ^ b.m
  rw [hD, hm, Nat.pow_add, ← Nat.mul_assoc]
  exact Nat.mul_le_mul w hE
theorem dvd2520 : ∀ k : _root_.Fin 10, 1 ≤ k.val → k.val ∣ 2520 := by decide
theorem div_place {x : Rat} {u : Int} {F k : Nat} (h : x * (F : Rat) = (u : Rat)) (k1 : 1 ≤ k) (k9 : k ≤ 9) : x / nR k * ((2520 * F : Nat) : Rat) = ((u * ((2520 / k : Nat) : Int) : Int) : Rat) := by
  obtain ⟨c, hc⟩ := dvd2520 ⟨k, by omega⟩ k1
  have hc' : 2520 = k * c := hc
  have e : 2520 / k = c := by rw [hc', Nat.mul_div_cancel_left _ (by omega)]
  rw [e, Rat.intCast_mul, ← h, hc', Rat.natCast_mul, Rat.natCast_mul]
  have n0 := nR_ne (show k ≠ 0 by omega)
  have : ((c : Int) : Rat) = (c : Rat) := rfl
  rw [this]
  show x / nR k * (nR k * (c : Rat) * (F : Rat)) = _
  have : x / nR k * (nR k * (c : Rat) * (F : Rat)) = x / nR k * nR k * ((c : Rat) * (F : Rat)) := by grind
  rw [this, Rat.div_mul_cancel n0]
  grind
/-- F below makes t whole, and small -/
theorem ex_mk {b0 : Bs} {F m' : Nat} {t : Rat} {u : Int} (h0 : 0 < 2520 * F) (h : 2520 * F ≤ 2 ^ m') (hu : t * (F : Rat) = (u : Rat)) (hb : 32 * (u.natAbs * 2520) ≤ 2 ^ m') : Ex b0 (exB b0 (2520 * F) m' h0 h) t :=
  ⟨⟨2520 * F, m', h0, rfl, rfl, h, fun k k1 k9 => ⟨_, div_place hu k1 k9, by
    rw [Int.natAbs_mul, Int.natAbs_natCast]
    have := Nat.mul_le_mul_left u.natAbs (Nat.div_le_self 2520 k)
    omega⟩⟩⟩
theorem den_whole (t : Rat) : t * ((t.den : Nat) : Rat) = ((t.num : Int) : Rat) := by
  have := up_val (q := t) (L := t.den) (Nat.dvd_refl _)
  rw [Int.ediv_self (den_ne t), Int.mul_one] at this
  exact this.symm
/-- any t has a base -/
theorem ex_of (b0 : Bs) {n : Nat} {t : Rat} (h : Bq n t) : ∃ b, Ex b0 b t ∧ b.m = b0.m + (n + 17) := by
  have d0 : 0 < t.den := Nat.pos_of_ne_zero t.den_nz
  have p : 2 ^ (n + 17) = 131072 * 2 ^ n := by rw [Nat.pow_add, Nat.mul_comm]
  have h1 := h.1
  have h2 := h.2
  exact ⟨_, ex_mk (b0 := b0) (F := t.den) (m' := n + 17) (u := t.num) (by omega) (by rw [p]; omega) (den_whole t) (by rw [p]; omega), rfl⟩
/-- exponents over 144 -/
def S144 (t : Rat) : Prop := ∃ u : Int, t * ((144 : Nat) : Rat) = (u : Rat) ∧ u.natAbs ≤ 1296
def bX (b0 : Bs) : Bs := exB b0 (2520 * 144) 27 (by decide) (by decide)
theorem S144.ex {t : Rat} (h : S144 t) (b0 : Bs) : Ex b0 (bX b0) t := by
  obtain ⟨u, hu, lu⟩ := h
  exact ex_mk (F := 144) (by decide) (by decide) hu (by
    have : (2 : Nat) ^ 27 = 134217728 := rfl
    omega)
theorem SmT.u12 {t : Rat} (h : SmT t) : ∃ v : Int, t * ((12 : Nat) : Rat) = (v : Rat) ∧ v.natAbs ≤ 36 := by
  obtain ⟨d, l⟩ := h
  refine ⟨t.num * ((12 : Nat) / (t.den : Int)), (up_val d).symm, ?_⟩
  have e : (((12 : Nat) : Int) / (t.den : Int)) = ((12 / t.den : Nat) : Int) := rfl
  rw [e, Int.natAbs_mul, Int.natAbs_natCast]
  exact Nat.mul_le_mul l (Nat.div_le_self _ _)
theorem SmT.s {t : Rat} (h : SmT t) : S144 t := by
  obtain ⟨v, hv, lv⟩ := h.u12
  refine ⟨v * 12, ?_, by rw [Int.natAbs_mul]; have : (12 : Int).natAbs = 12 := rfl; rw [this]; omega⟩
  rw [Rat.intCast_mul, ← hv]
  have e : ((144 : Nat) : Rat) = ((12 : Nat) : Rat) * ((12 : Int) : Rat) := by decide +kernel
  rw [e]
  grind
theorem SmT.add {s t : Rat} (h : SmT s) (h' : SmT t) : S144 (s + t) := by
  obtain ⟨v, hv, lv⟩ := h.u12
  obtain ⟨x, hx, lx⟩ := h'.u12
  refine ⟨(v + x) * 12, ?_, by rw [Int.natAbs_mul]; have : (12 : Int).natAbs = 12 := rfl; rw [this]; have := Int.natAbs_add_le v x; omega⟩
  rw [Rat.intCast_mul, Rat.intCast_add, ← hv, ← hx]
  have e : ((144 : Nat) : Rat) = ((12 : Nat) : Rat) * ((12 : Int) : Rat) := by decide +kernel
  rw [e]
  grind
theorem SmT.mul {s t : Rat} (h : SmT s) (h' : SmT t) : S144 (s * t) := by
  obtain ⟨v, hv, lv⟩ := h.u12
  obtain ⟨x, hx, lx⟩ := h'.u12
  refine ⟨v * x, ?_, by rw [Int.natAbs_mul]; exact Nat.mul_le_mul lv lx⟩
  rw [Rat.intCast_mul, ← hv, ← hx]
  have e : ((144 : Nat) : Rat) = ((12 : Nat) : Rat) * ((12 : Nat) : Rat) := by decide +kernel
  rw [e]
  grind
theorem s144_int {k : Int} (h : k.natAbs ≤ 9) : S144 ((k : Int) : Rat) := by
  refine ⟨k * 144, ?_, by rw [Int.natAbs_mul]; have : (144 : Int).natAbs = 144 := rfl; rw [this]; omega⟩
  rw [Rat.intCast_mul]
  rfl
theorem S144.bq {t : Rat} (h : S144 t) : Bq 21 t := by
  obtain ⟨u, hu, lu⟩ := h
  have e : t = Rat.divInt u 144 := by
    rw [Rat.divInt_eq_div, ← hu]
    have n0 : ((144 : Nat) : Rat) ≠ 0 := by decide +kernel
    have : (((144 : Int)) : Rat) = ((144 : Nat) : Rat) := rfl
    rw [this, Rat.mul_div_cancel n0]
  rw [e]
  have := div_bd (p := u) (q := 144) (n := 11) (m := 8) (by decide) (by show _ < 2048; omega) (by decide)
  exact ⟨Nat.lt_of_lt_of_le this.1 (by decide), Nat.lt_of_lt_of_le this.2 (by decide)⟩
/-! ### what the program's reckoning wants -/
theorem RW.ls {b : Bs} {s : Nat} {us : List Rat} (h : RW b s us) (hb : Wide b) (l : us.length ≤ 25) : AllZ b (s * us.length + 1) (lsL us) := fun q hq => by
  obtain ⟨j, hj⟩ := List.getElem?_of_mem hq
  have hl : j < (lsL us).length := by
    rcases Nat.lt_or_ge j (lsL us).length with c | c
    · exact c
    · rw [List.getElem?_eq_none c] at hj; cases hj
  have e : ser (lsL us) j = q := by
    have := ser_at hl
    rw [this] at hj
    exact Option.some.inj hj
  rw [lsL_len] at hl
  rw [← e]
  refine (ls_w hb h l j hl).mono ?_
  have := Nat.mul_le_mul_left s (show j + 1 ≤ us.length by omega)
  rw [Nat.mul_add] at this
  omega
theorem lsC_of {b : Bs} {s : Nat} {us : List Rat} (hb : Wide b) (h : RW b s us) (s1 : 1 ≤ s) (l : us.length ≤ 25) (m1 : b.m * (2 * (s * us.length) + 1) ≤ 6000) (m2 : b.m * (s * us.length + 2) ≤ 3900) : LsC us :=
  ⟨b, s * us.length, s * us.length + 1, h.all s1, h.ls hb l, hb, Nat.le_trans (Nat.mul_le_mul_left _ (by omega)) m1, m2, m2⟩
theorem RW.z1 {b : Bs} {s : Nat} {us : List Rat} (h : RW b s us) {k : Nat} (hk : k < us.length) : Zq b (s * k + 1) (ser us k) := by
  match k, hk with
  | 0, _ =>
    rw [h.u0]
    exact Zq.one (by omega)
  | k + 1, hk => exact (h.w (k + 1) (by omega) hk).mono (by omega)
theorem pwC_of {b0 b : Bs} {s : Nat} {us : List Rat} {t : Rat} (w0 : Wide b0) (hx : Ex b0 b t) (h : RW b0 s us) (s1 : 1 ≤ s) (l3 : 3 ≤ us.length) (l : us.length ≤ 9) (bt : Bq 4000 t)
    (m1 : b.m * (2 * (s * us.length) + us.length + 1) ≤ 6000) (m2 : b.m * (s * us.length + us.length) ≤ 3900) : PwC us t := by
  have wb := hx.wide w0
  have mm : b0.m ≤ b.m := by
    obtain ⟨E, m', E0, hD, hm, _⟩ := hx.ex
    omega
  have rp := pw_w w0 hx h (by omega) l
  refine ⟨lsC_of w0 h s1 (by omega) (Nat.le_trans (Nat.mul_le_mul mm (by omega)) m1) (Nat.le_trans (Nat.mul_le_mul mm (by omega)) m2), bt, ⟨b, s * us.length + 1, (s + 1) * us.length, hx.all (h.ls w0 (by omega)), ?_, ?_⟩, fun k hk => ?_, fun k hk => ?_⟩
  · have := rp.all (by omega)
    rw [pwL_len] at this
    exact this
  · rw [show s * us.length + 1 + (s + 1) * us.length = 2 * (s * us.length) + us.length + 1 by rw [Nat.add_mul]; omega]
    exact m1
  · have z : Zw b ((s + 1) * k + (s + 2)) (k + 1) 1024 (mulS (ser (lsL us)) (ser (pwL us t)) k) := zw_sum (k + 1) fun i hi => by
      have a := (hx.base (ls_w w0 h (by omega) i (by omega))).mul (rp.z1 (k := k - i) (by rw [pwL_len]; omega))
      refine a.up_e ?_
      have e : (s + 1) * i + (s + 1) * (k - i) = (s + 1) * k := by rw [← Nat.mul_add, show i + (k - i) = k by omega]
      have e2 : (s + 1) * i = s * i + i := by rw [Nat.add_mul, Nat.one_mul]
      omega
    refine (z.red (by omega)).b4 (Nat.le_trans (Nat.mul_le_mul_left _ ?_) m2)
    have e : (s + 1) * (k + 2) ≤ (s + 1) * us.length := Nat.mul_le_mul_left _ (by omega)
    rw [Nat.mul_add, Nat.add_mul s 1 us.length] at e
    omega
  · have e : t * mulS (ser (lsL us)) (ser (pwL us t)) k = nR (k + 1) * ser (pwL us t) (k + 1) := by
      rw [pw_succ t hk, Rat.mul_comm (nR (k + 1)), Rat.div_mul_cancel (nR_ne (by omega))]
    rw [e]
    have z := (wb.nat (show k + 1 ≤ 32 by omega)).mulq (rp.w (k + 1) (by omega) (by rw [pwL_len]; omega))
    refine z.b4 (Nat.le_trans (Nat.mul_le_mul_left _ ?_) m2)
    have e2 : (s + 1) * (k + 2) ≤ (s + 1) * us.length := Nat.mul_le_mul_left _ (by omega)
    rw [Nat.add_mul s 1 us.length] at e2
    have e3 : (s + 1) * (k + 1) + (s + 1) = (s + 1) * (k + 2) := by rw [← Nat.mul_succ]
    omega
/-! ### products one after another -/
def prL (us : List Rat) : Nat → List Rat
  | 0 => stR us.length
  | k + 1 => mulL (prL us k) us
theorem prL_len {us : List Rat} (l1 : 1 ≤ us.length) : ∀ k, (prL us k).length = us.length
  | 0 => stR_len l1
  | k + 1 => by
    show (mulL _ _).length = _
    rw [mulL_len', prL_len l1 k]
theorem pw_nat {us : List Rat} (l1 : 1 ≤ us.length) (u0 : ser us 0 = 1) : ∀ k : Nat, pwL us (((k : Nat) : Int) : Rat) = prL us k
  | 0 => pw_none l1
  | k + 1 => by
    have e : ((((k + 1 : Nat) : Int)) : Rat) = (((k : Nat) : Int) : Rat) + 1 := by
      rw [show ((k + 1 : Nat) : Int) = ((k : Nat) : Int) + 1 by omega, Rat.intCast_add]
      rfl
    rw [e, pw_add _ _ l1, pw_nat l1 u0 k, pw_one l1 u0]
    rfl
theorem pw_neg {us : List Rat} (l1 : 1 ≤ us.length) (u0 : ser us 0 = 1) : ∀ k : Nat, pwL us ((-((k : Nat) : Int) : Int) : Rat) = prL (rcL us) k
  | 0 => by
    have e : ((-((0 : Nat) : Int) : Int) : Rat) = 0 := rfl
    rw [e, pw_none l1]
    show _ = stR (rcL us).length
    rw [rcL_len]
  | k + 1 => by
    have e : ((-((k + 1 : Nat) : Int) : Int) : Rat) = ((-((k : Nat) : Int) : Int) : Rat) + (-1) := by
      rw [show (-((k + 1 : Nat) : Int)) = -((k : Nat) : Int) + (-1) by omega, Rat.intCast_add]
      rfl
    rw [e, pw_add _ _ l1, pw_neg l1 u0 k, pw_rc l1 u0]
    rfl
theorem GL.mul {b : Bs} {s c d : Nat} {us ws : List Rat} (h : GL b s c us) (h' : GL b s d ws) (l : us.length = ws.length) (l25 : us.length ≤ 25) : GL b s (c + d) (mulL us ws) := fun j hj => by
  rw [mulL_len'] at hj
  have e : (mulL us ws).getD j 0 = cnv us ws j := by
    show List.getD ((List.range us.length).map _) j 0 = _
    rw [List.getD_eq_getElem?_getD, List.getElem?_map, List.getElem?_range hj]
    rfl
  rw [e]
  exact (cvT_gz h h' l j hj (j + 1) (by omega)).red (by omega)
theorem prL_gl {b : Bs} {s c : Nat} {us : List Rat} (h : GL b s c us) (l1 : 1 ≤ us.length) (l25 : us.length ≤ 25) : ∀ k, GL b s (c * k + 1) (prL us k)
  | 0 => fun j hj => by
    show Zq b _ (ser (stR us.length) j)
    rw [stR_ser]
    show Zq b _ (if j = 0 then 1 else 0)
    split
    · exact Zq.one (by omega)
    · exact Zq.zero
  | k + 1 => by
    have := (prL_gl h l1 l25 k).mul h (prL_len l1 k) (by rw [prL_len l1]; exact l25)
    rw [show c * (k + 1) + 1 = c * k + 1 + c by rw [Nat.mul_add]; omega]
    exact this
theorem rc_gl {b : Bs} {s : Nat} {us : List Rat} (u0 : ser us 0 ≠ 0) (v0 : Zq b 1 (1 / ser us 0)) (h : ∀ k, 1 ≤ k → k < us.length → Zq b (s * k) (ser us k)) (l : us.length ≤ 25) : GL b (s + 1) 1 (rcL us) := fun j hj => by
  rw [rcL_len] at hj
  exact rc_w u0 v0 h l j hj
theorem GL.all {b : Bs} {s c : Nat} {us : List Rat} (h : GL b s c us) : AllZ b (s * us.length + c) us := fun q hq => by
  obtain ⟨j, hj⟩ := List.getElem?_of_mem hq
  have hl : j < us.length := by
    rcases Nat.lt_or_ge j us.length with c | c
    · exact c
    · rw [List.getElem?_eq_none c] at hj; cases hj
  have e : us.getD j 0 = q := by rw [List.getD_eq_getElem?_getD, hj]; rfl
  rw [← e]
  exact (h j hl).mono (Nat.add_le_add_right (Nat.mul_le_mul_left s (by omega)) c)
theorem GL.mono {b : Bs} {s t c d : Nat} {us : List Rat} (h : GL b s c us) (l : s ≤ t) (l' : c ≤ d) : GL b t d us := fun j hj => (h j hj).mono (Nat.add_le_add (Nat.mul_le_mul_right j l) l')
end Kx
end
section
set_option maxHeartbeats 4000000
namespace Kx
open PySem PySem.Spec PyProof.Rows L2 RZ
/-! ### what all later defs stand on -/
structure Kit4 (P : Program) (w : World) (K : PySem.W.Frag) (mg : Str → Option Value) (base : Heap) (C S CF CO CU CE CN : Addr) (cs : Fin 3 → Addr) : Prop where
  rk : RowK P w K mg base C CF CO
  sk : StepK P w K mg base C S CF CO
  rkit : PySem.W.kitOne K (.ref C) (.ref C) = some true
  rnum : MUse P w K mg base CX0 1 C "numbers" ["self"] (spNu K C) []
  rsc : MUse P w K mg base (L2.CX P w) 8 C "scaled" ["self", "t"] (spSc K C (cs 0)) []
  radd : OpM P w K mg base (L2.CX P w) 8 C "__add__" (spOp K C CU 4000 (List.zipWith (· + ·)))
  rmul : OpM P w K mg base (L2.CX P w) 8 C "__mul__" (spOpM K C CU)
  rcp : Use P w K mg base (L2.CX P w) 8 "reciprocal" ["row"] (spRecip K C (cs 2)) [["row"]]
  rpw : Use P w K mg base (L2.CX P w) 8 "row_power" ["row", "t"] (spRpow K C (cs 0) (cs 1)) [["t", "row"]]
  rlg : Use P w K mg base (L2.CX P w) 8 "row_log" ["row"] (spRlog K C (cs 1)) [["row"]]
  draw : Use P w K mg base CX0 1 "_law_draw" ["_law_bag_here", "_law_limit"] spDraw []
  ofL : Use P w K mg base CX0 2 "_law_of" ["_law_bag_here", "_law_things"] spOfL []
  low : Use P w K mg base CX0 1 "_law_low" ["_law_p", "_law_q"] spLowQ []
  add : Use P w K mg base CX0 2 "_law_add" ["_law_a", "_law_b"] (spAddQ K) []
  mul : Use P w K mg base CX0 2 "_law_mul" ["_law_a", "_law_b"] (spMulQ K) []
  times : Use P w K mg base CX0 3 "_law_times" ["_law_u", "_law_w"] (spTimes K) []
  num : Use P w K mg base CX0 3 "_law_number" ["_law_bag_here"] (spNum K) []
  wid : Use P w K mg base CX0 4 "_law_wide" ["_law_bag_here"] (spWid K) []
  sml : Use P w K mg base CX0 3 "_law_small" ["_law_bag_here"] (spSml K) []
  row4 : Use P w K mg base CX0 4 "_law_row" ["_law_bag_here", "_law_size", "_law_first"] (spRow4 K) []
  odd : Use P w K mg base CX0 9 "_law_odd" ["_law_bag_here"] (spOdd K S) []
  is : Use P w K mg base CX0 2 "_law_is" ["_law_thing"] (spIs K) []
  pso : Use P w K mg base CX0 4 "_law_power_so" ["_law_told", "_law_a", "_law_c"] (spPso K) []
  lso : Use P w K mg base CX0 4 "_law_log_so" ["_law_told", "_law_a"] (spLso K) []
  lik : Use P w K mg base CX0 7 "_law_like" ["_law_told", "_law_due"] (spLike K S 5) []
  flt : ∃ (fF : Addr) (fdF : FuncData), FnP P w K mg base C8.CX0 1 fF fdF ["_law_error"] (spFlt3 cs) ∧ Binds K fdF ["_law_error"] [] ∧ PySem.W.keepIn K (.ref fF) = true ∧ mg "_law_fault" = some (.ref fF)
  ask : ∃ (g : Addr) (fd : FuncData), Fun K "_law_ask" "_law_ask" L_ask g fd ∧ Binds K fd ["_law_deed"] [] ∧ mg "_law_ask" = some (.ref g)
  mC : mg "CreepError" = some (.ref CE)
  mN : mg "NoAnswer" = some (.ref CN)
  e0 : PySem.W.exmOne K (.ref (cs 0)) (.ref CE) = some true
  e1 : PySem.W.exmOne K (.ref (cs 1)) (.ref CE) = some true
  e2 : PySem.W.exmOne K (.ref (cs 2)) (.ref CE) = some false
  e3 : PySem.W.exmOne K (.ref (cs 2)) (.ref CN) = some true
  mn : mg "len" = none
  mI : mg "isinstance" = none
  mr : mg "range" = none
  ma : mg "all" = none
  mabs : mg "abs" = none
section
variable {P : Program} {w : World} {K : PySem.W.Frag} {mg : Str → Option Value} {base : Heap} {C S CF CO : Addr} {H : Hp}
/-- Row(..) from a list of numbers -/
theorem row_newG {a : Addr} {xs : List V} {qs : List Rat} {E : XK} {R : VK} {x dx : Addr} (ha : SqH H a xs) (hn : Nl K H xs qs) (l1 : 3 ≤ qs.length) (l2 : qs.length ≤ 25) (nx : H x = none) (ndx : H dx = none) (ne : dx ≠ x)
    (q : ∀ H', Same H H' → RwAt K C H' (.ref x) qs → R .non H') :
    spRI K C CF CO [.ref x, .ref a] (upd (upd H dx (.own x)) x (.ins C dx [])) R E := by
  have hx2 : upd (upd H dx (.own x)) x (.ins C dx []) x = some (.ins C dx []) := upd_same
  have sm : Same H (upd (upd H dx (.own x)) x (.ins C dx [])) := (new_same ndx _).trans (new_same (by rw [upd_ne (Ne.symm ne)]; exact nx) _)
  refine ⟨x, dx, .ref a, rfl, fun e => ?_, hx2, .inr ⟨a, xs, rfl, ha.same sm, .inr ⟨by rw [hn.1]; omega, by rw [hn.1]; omega, .inr ⟨qs, hn.same sm, fun H' b u nb hx hb => ?_⟩⟩⟩⟩
  · rw [V.ref.inj e] at ha
    rcases ha with h | h <;> rw [nx] at h <;> cases h
  · have s' : Same H H' := fun e o he => u e o (fun z => by rw [z, nx] at he; cases he) (sm e o he)
    exact q H' s' ⟨x, dx, b, xs, rfl, hx, hb, hn.same s', l1, l2⟩
theorem RwAt.ref {v : V} {qs : List Rat} (h : RwAt K C H v qs) : ∃ x, v = .ref x := by
  obtain ⟨x, _, _, _, e, _⟩ := h
  exact ⟨x, e⟩
/-- the first number of a list -/
theorem first_at {xs : List V} {qs : List Rat} (nx : Nl K H xs qs) (l : 1 ≤ qs.length) : ∃ y, atI xs 0 = some y ∧ Nq K H y (ser qs 0) := by
  obtain ⟨y, ey, ny⟩ := nx.get' (i := 0) (by omega)
  have e : qs[0] = ser qs 0 := by
    have := ser_at (qs := qs) (k := 0) (by omega)
    rw [List.getElem?_eq_getElem (by omega)] at this
    exact Option.some.inj this
  rw [e] at ny
  exact ⟨y, at_of (j := 0) rfl ey, ny⟩
theorem gl_of {b : Bs} {s : Nat} {us : List Rat} (h : AllZ b 1 us) : GL b s 1 us := fun j hj => (h.getD j).mono (by omega)
/-- [(1, 1)] + [(0, 1)] * .. -/
theorem unit_ls {t1 t2 d : Addr} {n : Nat} (h1 : H t1 = some (.tup [.int 1, .int 1])) (h2 : H t2 = some (.tup [.int 0, .int 1])) (hd : H d = some (.lst ([V.ref t1] ++ List.replicate (n - 1) (V.ref t2)))) : Ls K H (.ref d) (stR n) :=
  ⟨d, _, rfl, hd, Nl.cons (.at (K := K) (show _ = some (rT 1) from h1)) (rep_nl (.at (K := K) (show _ = some (rT 0) from h2)) _)⟩
end
abbrev nWso : List Str := ["_law_bag_here", "_law_a", "_law_u", "_law_k", "_law_due", "_law_j"]
def spWso (K : PySem.W.Frag) : Sp := fun vs H Q _ => ∃ (B p : Addr) (x : V) (us : List Rat), vs = [.ref B, x] ∧ Bag H B p ∧ Ls K H x us ∧ 3 ≤ us.length ∧ us.length ≤ 9 ∧ AllZ b6 1 us ∧ ser us 0 = 1 ∧ ∀ H', Bag H' B p → But B H H' → Q (.bl true) H'
section
variable {P : Program} {w : World} {K : PySem.W.Frag} {mg : Str → Option Value} {base : Heap} {f c Pt C S CF CO CU CE CN : Addr} {cs : Fin 3 → Addr} {fd : FuncData} {T : List (Addr × Str)}
theorem scWso : FnScope nWso ["_law_bag_here", "_law_a"] (defScope L_whole_so) := ⟨rfl, rfl, rfl, by decide +kernel, rfl, by decide +kernel, by decide +kernel⟩
theorem ok_wholeso (F : Fun K "_law_whole_so" "_law_whole_so" L_whole_so f fd) (U : Kit4 P w K mg base C S CF CO CU CE CN cs) : FnOk P w K mg base CX0 9 f fd ["_law_bag_here", "_law_a"] (spWso K) := by
  refine F.ok scWso (fun vs H Q E h => ?_) (fun cdv A outer s H vs Q E hr h => ?_)
  · obtain ⟨B, p, x, us, rfl, _⟩ := h
    rfl
  obtain ⟨B, p, x0, us, rfl, hb, hU, l3, l9, zu, u0, q⟩ := h
  have hr1 := hr.mono (show 1 ≤ 8 by decide)
  have hr3 := hr.mono (show 3 ≤ 8 by decide)
  have hr7 := hr.mono (show 7 ≤ 8 by decide)
  obtain ⟨fR, fdR, MR, FR, bR, bRK⟩ := U.rk.ini
  refine ⟨_, C8.pss_cut (ps_set (i := 2) scWso.nd rfl (Or.inl rfl) (pe_make (E := fun _ _ _ => False) MR FR hr7 rfl U.rk.m bR .nil passF (pa_cons (pv 1) pa_nil)))
    (C8.pss_cut (ps_set (i := 3) scWso.nd rfl (Or.inl rfl) (pe_op op_sub (pe_use U.draw hr1 rfl pass0 (pa_cons (pv 0) (pa_cons pe_int pa_nil))) pe_int))
    (C8.pss_cut (ps_set (i := 4) scWso.nd rfl (Or.inl rfl) (pe_op op_cat (pe_lst (pa_cons (pe_tup (pa_cons pe_int (pa_cons pe_int pa_nil))) pa_nil)) (pe_op op_rep (pe_lst (pa_cons (pe_tup (pa_cons pe_int (pa_cons pe_int pa_nil))) pa_nil)) (pe_op op_sub (pe_callB call_len_seq rfl U.mn PySem.boot_len (pa_cons (pv 1) pa_nil)) pe_int))))
    (C8.pss_cut (ps_for PassesOwn.never rfl (pi_range1 rfl U.mr (pa_cons (pe_callB call_abs rfl U.mabs (by decide +kernel) (pa_cons (pv 3) pa_nil)) pa_nil)) (pg_name (i := 5) scWso.nd rfl (Or.inl rfl)) (pss_one (ps_set (i := 4) scWso.nd rfl (Or.inl rfl) (pe_use U.times hr3 rfl pass0 (pa_cons (pv 4) (pa_cons (pe_ifExp (pt_cmpR op_gt (pv 3) pe_int (nomark _)) (pv 1) (pe_mu0 U.rnum (pe_use (E := fun _ _ _ => False) U.rcp hr rfl passF (pa_cons (pv 2) pa_nil)) hr1 pass0)) pa_nil))))))
    (pss_one (ps_ret (pe_use U.lik hr7 rfl pass0 (pa_cons (pe_mu0 U.rnum (pe_use (E := fun _ _ _ => False) U.rpw hr rfl passF (pa_cons (pv 2) (pa_cons (pe_tup (pa_cons (pv 3) (pa_cons pe_int pa_nil))) pa_nil))) hr1 pass0) (pa_cons (pv 4) pa_nil)))))))), ?_⟩
  obtain ⟨a, xs, rfl, ha, nx⟩ := id hU
  have lx : xs.length = us.length := nx.1
  have l1 : 1 ≤ us.length := by omega
  have u1 : ser us 0 ≠ 0 := by rw [u0]; decide
  refine ⟨fun σ G => ∃ x, σ = [some (.ref B), some (.ref a), some (.ref x), none, none, none] ∧ Same H G ∧ RwAt K C G (.ref x) us, ?_, ?_⟩
  · refine ⟨_, rfl, fun x dx xn dn en => ?_⟩
    exact row_newG (.inl ha) nx l3 (by omega) xn dn en fun G s1 hX => ⟨rfl, x, rfl, s1, hX⟩
  rintro σ G ⟨x, rfl, sF, hX⟩
  have b0 := hb.same sF
  have uF : But B H G := But.same sF
  have hA := hU.same sF
  clear hb hU sF
  refine ⟨fun σ G' => ∃ k : Int, σ = [some (.ref B), some (.ref a), some (.ref x), some (.int k), none, none] ∧ Bag G' B p ∧ But B H G' ∧ RwAt K C G' (.ref x) us ∧ Ls K G' (.ref a) us ∧ -3 ≤ k ∧ k ≤ 6, ?_, ?_⟩
  · exact ⟨_, rfl, B, p, 10, rfl, by decide, by decide, b0, fun G2 k b2 u2 k0 k1 => ⟨k, 3, rfl, rfl, k - 3, rfl, b2, uF.trans u2, hX.go b0 (Go.of u2), hA.go (by omega) b0 (Go.of u2), by omega, by omega⟩⟩
  clear b0 uF hX hA
  rintro σ G ⟨k, rfl, bG, uG, hX, hA, k0, k1⟩
  refine ⟨fun σ G' => ∃ v4, σ = [some (.ref B), some (.ref a), some (.ref x), some (.int k), some v4, none] ∧ Same G G' ∧ Ls K G' v4 (stR us.length), ?_, ?_⟩
  · obtain ⟨a', xs', e', ha', nx'⟩ := id hA
    obtain rfl := V.ref.inj e'
    have lx' : xs'.length = us.length := nx'.1
    refine ⟨(by show 2 ≤ sizeLine; decide), fun t1 m1 => ⟨(by show 1 ≤ sizeLine; decide), fun b1 n1 => ⟨(by show 2 ≤ sizeLine; decide), fun t2 m2 => ⟨(by show 1 ≤ sizeLine; decide), fun b2 n2 => ?_⟩⟩⟩⟩
    have s1 := new_same m1 (HO.tup [.int 1, .int 1])
    have s2 := new_same n1 (HO.lst [V.ref t1])
    have s3 := new_same m2 (HO.tup [.int 0, .int 1])
    have s4 := new_same n2 (HO.lst [V.ref t2])
    have s14 := s1.trans (s2.trans (s3.trans s4))
    refine ⟨_, rfl, a, xs', rfl, .inl (SqL.of (s14 _ _ ha')), (xs'.length : Int), 1, rfl, rfl, b2, (xs'.length : Int) - 1, [.ref t2], rfl, rfl, upd_same, by omega, by omega, (by show 1 * _ ≤ sizeLine; exact Nat.le_of_lt (small1000 (by omega))), fun c nc => ?_⟩
    have rep : (List.replicate ((xs'.length : Int) - 1).toNat [V.ref t2]).flatten = List.replicate (us.length - 1) (.ref t2) := by
      rw [List.flatten_replicate_singleton]
      congr 1
      omega
    rw [rep]
    have s5 := new_same nc (HO.lst (List.replicate (us.length - 1) (V.ref t2)))
    refine ⟨b1, c, _, _, rfl, rfl, s5 _ _ (s4 _ _ (s3 _ _ upd_same)), upd_same, Nat.le_of_lt (small1000 (by rw [List.length_replicate]; show 1 + _ ≤ _; omega)), fun d nd => ?_⟩
    have s6 := new_same nd (HO.lst ([V.ref t1] ++ List.replicate (us.length - 1) (V.ref t2)))
    have sA := s14.trans (s5.trans s6)
    exact ⟨.ref d, rfl, sA, unit_ls ((s2.trans (s3.trans (s4.trans (s5.trans s6)))) _ _ upd_same) ((s4.trans (s5.trans s6)) _ _ upd_same) upd_same⟩
  rintro σ G1 ⟨v4, rfl, s1, hD⟩
  have rw1 : RW b6 1 us := rw_of u0 zu
  have v0 : Zq b6 1 (1 / ser us 0) := by
    rw [u0, show (1 : Rat) / 1 = 1 by decide +kernel]
    exact Zq.one1
  have gr : GL b6 2 1 (rcL us) := rc_gl (s := 1) u1 v0 (fun k k1 hk => (zu.getD k).mono (by omega)) (by omega)
  have ga : GL b6 2 1 us := gl_of zu
  have hc : RcC us := ⟨b6, 1, 2 * us.length + 1, zu, by have := gr.all; rw [rcL_len] at this; exact this, by show 30 * (1 + (2 * us.length + 1)) ≤ 3900; omega⟩
  let Fk : List Rat := if 0 < k then us else rcL us
  have gF : GL b6 2 1 Fk := by
    show GL b6 2 1 (if 0 < k then us else rcL us)
    split
    · exact ga
    · exact gr
  have lF : Fk.length = us.length := by
    show (if 0 < k then us else rcL us).length = _
    split
    · rfl
    · exact rcL_len us
  refine ⟨fun σ G' => ∃ v4 v5, σ = [some (.ref B), some (.ref a), some (.ref x), some (.int k), some v4, v5] ∧ Same G1 G' ∧ Ls K G' v4 (prL Fk k.natAbs), ?_, ?_⟩
  · have eab : (if k < 0 then -k else k) = ((k.natAbs : Nat) : Int) := by split <;> omega
    refine ⟨_, rfl, k, rfl, ((k.natAbs : Nat) : Int), (by show [V.int (if k < 0 then -k else k)] = _; rw [eab]), by omega, by omega, for_range (lo := 0) (n := ((k.natAbs : Nat) : Int).toNat) (fun i σ G' => ∃ v4 v5, σ = [some (.ref B), some (.ref a), some (.ref x), some (.int k), some v4, v5] ∧ Same G1 G' ∧ Ls K G' v4 (prL Fk i)) ⟨v4, none, rfl, Same.refl G1, by show Ls K G1 v4 (stR Fk.length); rw [lF]; exact hD⟩ ?_ ?_⟩
    · rintro i σ G2 hi ⟨w4, w5, rfl, s2, h4⟩
      rw [Int.toNat_natCast] at hi
      have s12 := s1.trans s2
      refine ⟨_, rfl, _, rfl, k, 0, rfl, rfl, _, rfl, ite2 (fun cc => ?_) (fun cc => ?_)⟩
      · have kp : 0 < k := of_decide_eq_true cc
        have eF : Fk = us := if_pos kp
        refine ⟨_, rfl, w4, .ref a, prL Fk i, us, b6, 2, 1 * i + 1, 1, rfl, h4, hA.same s12, by rw [prL_len (by omega), lF], by rw [prL_len (by omega)]; omega, by rw [prL_len (by omega), lF]; show 30 * (2 * (us.length - 1) + (1 * i + 1 + 1)) ≤ 3900; omega, prL_gl gF (by omega) (by omega) i, ga, fun d G3 zs s3 n3 e3 m3 => ⟨.ref d, _, rfl, s2.trans s3, ⟨d, zs, rfl, e3, ?_⟩⟩⟩
        show Nl K G3 zs (mulL (prL Fk i) Fk)
        rw [eF] at m3 ⊢
        exact m3
      · have kn : ¬ 0 < k := of_decide_eq_false (Bool.eq_false_iff.mpr cc)
        have eF : Fk = rcL us := if_neg kn
        refine ⟨_, rfl, .ref x, us, rfl, hX.same s12, by rw [u0]; exact ⟨by decide +kernel, by decide +kernel⟩, fun z => absurd z u1, fun _ => ⟨hc, fun G3 y s3 hy => ?_⟩⟩
        obtain ⟨y', dy, fy, rfl, hy1, hy2, _⟩ := hy.its
        refine ⟨y', dy, fy, rfl, hy1, hy2, .ref y', rcL us, rfl, hy, fun d G4 zs s4 n4 e4 m4 => ?_⟩
        have s34 := s3.trans s4
        refine ⟨w4, .ref d, prL Fk i, rcL us, b6, 2, 1 * i + 1, 1, rfl, h4.same s34, ⟨d, zs, rfl, e4, m4⟩, by rw [prL_len (by omega), lF, rcL_len], by rw [prL_len (by omega)]; omega, by rw [prL_len (by omega), lF]; show 30 * (2 * (us.length - 1) + (1 * i + 1 + 1)) ≤ 3900; omega, prL_gl gF (by omega) (by omega) i, gr, fun d2 G5 ws s5 n5 e5 m5 => ⟨.ref d2, _, rfl, s2.trans (s34.trans s5), ⟨d2, ws, rfl, e5, ?_⟩⟩⟩
        show Nl K G5 ws (mulL (prL Fk i) Fk)
        rw [eF] at m5 ⊢
        exact m5
    · rintro σ G2 ⟨w4, w5, rfl, s2, h4⟩
      rw [Int.toNat_natCast] at h4
      exact ⟨w4, w5, rfl, s2, h4⟩
  rintro σ G2 ⟨w4, w5, rfl, s2, h4⟩
  have s12 := s1.trans s2
  refine ⟨_, rfl, _, rfl, (by show 2 ≤ sizeLine; decide), fun tt ntt => ?_⟩
  have s3 := new_same ntt (HO.tup [V.int k, .int 1])
  have nt : Nq K (upd G2 tt (HO.tup [V.int k, .int 1])) (.ref tt) ((k : Int) : Rat) := ⟨tt, rfl, .inl upd_same⟩
  have st : S144 ((k : Int) : Rat) := s144_int (by omega)
  have ek : pwL us ((k : Int) : Rat) = prL Fk k.natAbs := by
    by_cases kp : 0 < k
    · have e : k = ((k.natAbs : Nat) : Int) := by omega
      have eF : Fk = us := if_pos kp
      rw [eF, ← pw_nat l1 u0, ← e]
    · have e : k = -((k.natAbs : Nat) : Int) := by omega
      have eF : Fk = rcL us := if_neg kp
      rw [eF, ← pw_neg l1 u0, ← e]
  refine ⟨.ref x, .ref tt, us, rfl, (hX.same s12).same s3, fun n => absurd u0 n, fun _ => .inr ⟨_, nt, pwC_of wide6 (st.ex b6) rw1 (by decide) l3 l9 (st.bq.mono (by decide)) (by show 57 * (2 * (1 * us.length) + us.length + 1) ≤ 6000; omega) (by show 57 * (1 * us.length + us.length) ≤ 3900; omega), fun G4 y s4 hy => ?_⟩⟩
  obtain ⟨y', dy, fy, rfl, hy1, hy2, _⟩ := hy.its
  refine ⟨y', dy, fy, rfl, hy1, hy2, .ref y', _, rfl, hy, fun d G5 zs s5 n5 e5 m5 => ?_⟩
  have s35 := s3.trans (s4.trans s5)
  rw [ek] at m5
  exact ⟨_, rfl, _, _, rfl, Ls.lk (n := 3) ⟨d, zs, rfl, e5, m5⟩ (h4.same s35) (by rw [prL_len (by omega), lF]; omega), fun G6 s6 => q _ (bG.same (s12.trans (s35.trans s6))) (uG.trans (But.same (s12.trans (s35.trans s6))))⟩
end
end Kx
end
section
set_option maxHeartbeats 4000000
namespace Kx
open PySem PySem.Spec PyProof.Rows L2 RZ
structure Jg (T : List (Addr × Str)) (B p : Addr) (HF G : Hp) : Prop where
  b : Bag G B p
  t : LamX.Tabs T G
  g : Go B HF G
section
variable {T : List (Addr × Str)} {B p : Addr} {HF G G' : Hp}
theorem Jg.same (j : Jg T B p HF G) (s : Same G G') : Jg T B p HF G' := ⟨j.b.same s, j.t.ext s, j.g.trans (Go.same s)⟩
theorem Jg.ext (j : Jg T B p HF G) (s : LamX.ExtN G G') (t : LamX.Tabs T G') : Jg T B p HF G' := ⟨j.b.ext s, t, j.g.trans (Go.ext s)⟩
theorem Jg.but (j : Jg T B p HF G) (b : Bag G' B p) (u : But B G G') : Jg T B p HF G' := ⟨b, tabs_but j.t j.b u, j.g.trans (Go.of u)⟩
end
structure Jn (T : List (Addr × Str)) (HF G : Hp) : Prop where
  t : LamX.Tabs T G
  e : LamX.ExtN HF G
theorem Jn.same {T : List (Addr × Str)} {HF G G' : Hp} (j : Jn T HF G) (s : Same G G') : Jn T HF G' := ⟨j.t.ext s, j.e.trans (.of s)⟩
theorem Jn.ext {T : List (Addr × Str)} {HF G G' : Hp} (j : Jn T HF G) (s : LamX.ExtN G G') (t : LamX.Tabs T G') : Jn T HF G' := ⟨t, j.e.trans s⟩
section
variable {H : Hp} {cs : Fin 3 → Addr} {Q : VK}
theorem air_dz (q : ∀ t H', Same H H' → H' t = some (.lst [.str "DividedByZero"]) → Q (.ref t) H') : Air H (cs 2) (fs0 "DividedByZero" []) (fun cls d H' => Flt3 H' cs cls d Q) := fun d H' s n e => .inr (.inr ⟨rfl, d, rfl, e, fun t H2 s2 n2 e3 => q t H2 (s.trans s2) e3⟩)
theorem air_no {v : V} (q : ∀ t H', Same H H' → H' t = some (.lst [.str "NotOne", v]) → Q (.ref t) H') : Air H (cs 1) (fs1 "NotOne" "first" [v]) (fun cls d H' => Flt3 H' cs cls d Q) := fun d H' s n e => .inr (.inl ⟨rfl, d, _, rfl, e, fun t H2 s2 n2 e3 => q t H2 (s.trans s2) e3⟩)
theorem air_iv {v : V} (q : ∀ t H', Same H H' → H' t = some (.lst [.str "InvalidNumber", v]) → Q (.ref t) H') : Air H (cs 0) (fs1 "InvalidNumber" "value" [v]) (fun cls d H' => Flt3 H' cs cls d Q) := fun d H' s n e => .inl ⟨rfl, d, _, rfl, e, fun t H2 s2 n2 e3 => q t H2 (s.trans s2) e3⟩
end
/-! ### one upon a row: the base -/
theorem one_upon {us : List Rat} (zu : AllZ b6 1 us) (u0 : ser us 0 ≠ 0) (l9 : us.length ≤ 9) : ∃ b : Bs, b.m = 61 ∧ AllZ b 1 us ∧ GL b 2 1 us ∧ GL b 2 1 (rcL us) := by
  have n0 : (ser us 0).num ≠ 0 := fun z => u0 (Rat.num_eq_zero.mp z)
  have hb := (zu.getD 0).bq
  have h1 : (ser us 0).num.natAbs < 2 ^ 31 := hb.1
  have h2 : (ser us 0).den < 2 ^ 31 := hb.2
  let b := exB b6 (ser us 0).num.natAbs 31 (by omega) (by omega)
  have v0 : Zq b 1 (1 / ser us 0) := by
    have dw := den_whole (ser us 0)
    have e1 : 1 / ser us 0 * ((((ser us 0).num : Int)) : Rat) = ((ser us 0).den : Rat) := by
      rw [← dw, Rat.div_def, Rat.one_mul, ← Rat.mul_assoc, Rat.inv_mul_cancel _ u0, Rat.one_mul]
    have hD : b.D = 6 * (ser us 0).num.natAbs := rfl
    have fin : ∀ sg : Int, ((((ser us 0).num.natAbs : Nat) : Int)) = sg * (ser us 0).num → sg.natAbs = 1 → Zq b 1 (1 / ser us 0) := fun sg es ns => by
      refine ⟨6 * sg * ((ser us 0).den : Int), ?_, ?_⟩
      · rw [Nat.pow_one, hD, Rat.natCast_mul]
        have e2 : (((ser us 0).num.natAbs : Nat) : Rat) = ((sg * (ser us 0).num : Int) : Rat) := by rw [← es]; rfl
        rw [e2, Rat.intCast_mul, Rat.intCast_mul, Rat.intCast_mul]
        have e3 : (((ser us 0).den : Int) : Rat) = ((ser us 0).den : Rat) := rfl
        have e4 : ((6 : Nat) : Rat) = ((6 : Int) : Rat) := rfl
        rw [e3, ← e1, e4]
        grind
      · rw [Int.natAbs_mul, Int.natAbs_mul, ns, Int.natAbs_natCast]
        show 32 * (6 * 1 * (ser us 0).den) ≤ 1 * 2 ^ (61 * 1)
        omega
    rcases Int.natAbs_eq (ser us 0).num with e | e
    · exact fin 1 (by omega) rfl
    · exact fin (-1) (by omega) rfl
  have hz : AllZ b 1 us := fun q hq => (zu q hq).base (k := (ser us 0).num.natAbs) rfl (by
    show 2 ^ 30 * _ ≤ 2 ^ (30 + 31)
    rw [Nat.pow_add]
    exact Nat.mul_le_mul_left _ (by omega))
  exact ⟨b, rfl, hz, gl_of hz, rc_gl (s := 1) u0 v0 (fun k k1 hk => (hz.getD k).mono (by omega)) (by omega)⟩
abbrev nBso : List Str := ["_law_bag_here", "_law_a", "_law_u", "_law_told", "_law_b"]
def spBso (K : PySem.W.Frag) (T : List (Addr × Str)) : Sp := fun vs H Q _ => ∃ (z x : V) (us : List Rat), vs = [z, x] ∧ Ls K H x us ∧ 3 ≤ us.length ∧ us.length ≤ 9 ∧ AllZ b6 1 us ∧ LamX.Tabs T H ∧ ∀ H', LamX.Tabs T H' → LamX.ExtN H H' → Q (.bl true) H'
section
variable {P : Program} {w : World} {K : PySem.W.Frag} {mg : Str → Option Value} {base : Heap} {f c Pt C S CF CO CU CE CN : Addr} {cs : Fin 3 → Addr} {fd : FuncData} {T : List (Addr × Str)}
theorem scBso : FnScope nBso ["_law_bag_here", "_law_a"] (defScope L_back_so) := ⟨rfl, rfl, rfl, by decide +kernel, rfl, by decide +kernel, by decide +kernel⟩
theorem rd_rcG {H : Hp} {vx : V} {us : List Rat} {CZ : Addr} {E : XK} {R : VK} (hX : RwAt K C H vx us) (b0 : Bq 4000 (ser us 0)) (u0 : ser us 0 ≠ 0) (hc : RcC us) (q : ∀ H' y, Same H H' → RwAt K C H' y (rcL us) → R y H') : spRecip K C CZ [vx] H R E :=
  ⟨vx, us, rfl, hX, b0, fun z => absurd z u0, fun _ => ⟨hc, q⟩⟩
theorem rd_rcX {H : Hp} {vx : V} {us : List Rat} {CZ : Addr} {E : XK} {R : VK} (hX : RwAt K C H vx us) (b0 : Bq 4000 (ser us 0)) (u0 : ser us 0 = 0) (h : Air H CZ (fs0 "DividedByZero" []) E) : spRecip K C CZ [vx] H R E :=
  ⟨vx, us, rfl, hX, b0, fun _ => h, fun z => absurd u0 z⟩
theorem ok_backso (F : FunC K "_law_back_so" "_law_back_so" L_back_so f fd c) (U : Kit4 P w K mg base C S CF CO CU CE CN cs)
    (TB : LamX.TabB base mg c Pt) (hmT : (Pt, ((("_law_back_so" : Str) ++ ".<locals>.") ++ "<lambda>" : Str)) ∈ T) (hu : ∀ p ∈ T, p.1 = Pt → p.2 = ((("_law_back_so" : Str) ++ ".<locals>.") ++ "<lambda>" : Str)) : FnOk P w K mg base CX0 11 f fd ["_law_bag_here", "_law_a"] (spBso K T) := by
  refine F.ok scBso (fun vs H Q E h => ?_) (fun A outer s H vs Q E hr h => ?_)
  · obtain ⟨z, x, us, rfl, _⟩ := h
    rfl
  obtain ⟨z0, x0, us, rfl, hU, l3, l9, zu, hT, q⟩ := h
  have hr1 := hr.mono (show 1 ≤ 10 by decide)
  have hr2 := hr.mono (show 2 ≤ 10 by decide)
  have hr3 := hr.mono (show 3 ≤ 10 by decide)
  have hr7 := hr.mono (show 7 ≤ 10 by decide)
  have hr8 := hr.mono (show 8 ≤ 10 by decide)
  obtain ⟨gA, fdA, FA, bA, mA⟩ := U.ask
  obtain ⟨oc, od, kV, doc, pm, an, cdv, ct, osl, rfl, lkA, hcdA⟩ := FA.ex
  obtain ⟨fF, fdF, PF, bF, kF, mF⟩ := U.flt
  obtain ⟨fR, fdR, MR, FR, bR, bRK⟩ := U.rk.ini
  refine ⟨_, C8.pss_cut (ps_set (i := 2) scBso.nd rfl (Or.inr rfl) (pe_make (E := fun _ _ _ => False) MR FR hr7 rfl U.rk.m bR .nil passF (pa_cons (pv 1) pa_nil)))
    (C8.pss_cut (ps_set (i := 3) scBso.nd rfl (Or.inl rfl) (pe_lst (pa_cons (LamX.pe_lamcall (k := 8) (t := fun E => tMeth C "numbers" (spNu K C) [] E0 (tCall (spRecip K C (cs 2)) [] E (tCons (tVar 2) tNil)) tNil) (TT := TAsk3 cs) rfl mA FA.kp lkA hcdA bA scAsk rfl (Or.inl rfl) (ask_gives3 (hr.mono (by decide)) PF bF kF mF U.mC U.mN U.e0 U.e1 U.e2 U.e3) TB rfl hmT hu hr (LamX.lamS_by (show LamX.lamSB (defScope L_back_so) _ = true by decide +kernel)) rfl (fun _ _ _ _ _ => rfl)
      (fun A outer s H E f c' hk => pe_mu0 U.rnum (pe_use (E := E) U.rcp hk rfl (passes_call (takes_of rfl rfl rfl rfl) (fun _ _ _ _ h => h)) (pa_cons (pv 2) pa_nil)) (hk.mono (by decide)) pass0)) (pa_cons (LamX.pe_lamcallD (k := 8) (kd := 0) (px := "_law_x") (t := fun E => tMeth C "numbers" (spNu K C) [] E0 (tCallR 1 (spRecip K C (cs 2)) E (tCons (tVar 2) tNil)) tNil) (TT := TAsk3 cs) rfl mA FA.kp lkA hcdA bA scAsk rfl (Or.inl rfl) (ask_gives3 (hr.mono (by decide)) PF bF kF mF U.mC U.mN U.e0 U.e1 U.e2 U.e3) TB rfl hmT hu hr (LamX.lamD_by (show LamX.lamDB nBso (defScope L_back_so) _ "_law_x" = true by decide +kernel)) rfl (fun _ _ _ _ _ _ _ => ⟨_, rfl, rfl⟩)
      (fun A outer s H E f c' hk => pe_mu0 U.rnum (pe_useR (E := E) (ks := ["row"]) U.rcp hk rfl (passes_call (takes_of rfl rfl rfl rfl) (fun _ _ _ _ h => h)) rfl (pk_cons (pv 2) pk_nil) (by simp)) (hk.mono (by decide)) pass0)) pa_nil))))
    (C8.pss_cut (ps_if (pt_cmpR op_eq (pe_ix ix_tup (pe_ix ix_list (pv 1) pe_int (fun _ _ => rfl)) pe_int (fun _ _ => rfl)) pe_int (nomark _)) (pss_one (ps_ret (pe_cmpR (op_eqD hr.units) (pv 3) (pe_lst (pa_cons (pe_lst (pa_cons pe_str pa_nil)) (pa_cons (pe_lst (pa_cons pe_str pa_nil)) pa_nil))) (nomark _)))) pss_nil)
    (C8.pss_cut (ps_if (PW.pt (pw_or (pt_cmpR op_ne (pe_ix ix_list (pe_ix ix_list (pv 3) pe_int (fun _ _ => rfl)) pe_int (fun _ _ => rfl)) pe_str (nomark _)) (pw_or (pt_not (pt_val (pe_use U.lik hr7 rfl pass0 (pa_cons (pe_ix ix_list (pv 3) pe_int (fun _ _ => rfl)) (pa_cons (pe_ix ix_list (pv 3) pe_int (fun _ _ => rfl)) pa_nil))))) (pw_or1 (pt_not (pt_val ((pe_callB (cr_all rfl) rfl U.ma (by decide +kernel) (pa_cons (pe_lc (own := [("_law_b", 4)]) (g := gName 4) (tt := tYes) rfl scBso.nd (pi_list (pe_ix ix_list (pe_ix ix_list (pv 3) pe_int (fun _ _ => rfl)) pe_int (fun _ _ => rfl))) (blkOk_by (N := nBso) (sc := defScope L_back_so) (by decide +kernel)) (fun _ _ _ _ _ => pg_name (i := 4) scBso.nd rfl (Or.inl rfl)) (fun _ _ _ _ _ => pts_nil) (fun _ _ _ _ _ => pe_use U.is hr2 rfl pass0 (pa_cons (pv 4) pa_nil))) pa_nil))))))))) (pss_one (ps_ret pe_bl)) pss_nil)
    (C8.pss_cut (ps_if (PW.pt (pw_or (pt_cmpR op_ne (pe_callB call_len_seq rfl U.mn PySem.boot_len (pa_cons (pe_ix ix_list (pe_ix ix_list (pv 3) pe_int (fun _ _ => rfl)) pe_int (fun _ _ => rfl)) pa_nil)) (pe_callB call_len_seq rfl U.mn PySem.boot_len (pa_cons (pv 1) pa_nil)) (nomark _)) (pw_or1 (pt_cmpR (op_neD hr.units) (pe_mu0 U.rnum (pe_use (E := fun _ _ _ => False) U.rcp hr8 rfl passF (pa_cons (pe_use (E := fun _ _ _ => False) U.rcp hr8 rfl passF (pa_cons (pv 2) pa_nil)) pa_nil)) hr1 pass0) (pv 1) (nomark _))))) (pss_one (ps_ret pe_bl)) pss_nil)
    (pss_one (ps_ret (pe_cmpR (op_eqD hr.units) (pe_use U.times hr3 rfl pass0 (pa_cons (pv 1) (pa_cons (pe_ix ix_list (pe_ix ix_list (pv 3) pe_int (fun _ _ => rfl)) pe_int (fun _ _ => rfl)) pa_nil))) (pe_op op_cat (pe_lst (pa_cons (pe_tup (pa_cons pe_int (pa_cons pe_int pa_nil))) pa_nil)) (pe_op op_rep (pe_lst (pa_cons (pe_tup (pa_cons pe_int (pa_cons pe_int pa_nil))) pa_nil)) (pe_op op_sub (pe_callB call_len_seq rfl U.mn PySem.boot_len (pa_cons (pv 1) pa_nil)) pe_int))) (nomark _)))))))), ?_⟩
  obtain ⟨a, xs, rfl, ha, nx⟩ := id hU
  have lx : xs.length = us.length := nx.1
  have l1 : 1 ≤ us.length := by omega
  refine ⟨fun σ G => ∃ x, σ = [some z0, some (.ref a), some (.ref x), none, none] ∧ Jn T H G ∧ RwAt K C G (.ref x) us, ?_, ?_⟩
  · refine ⟨_, rfl, fun x dx xn dn en => ?_⟩
    exact row_newG (.inl ha) nx l3 (by omega) xn dn en fun G s1 hX => ⟨rfl, x, rfl, (show Jn T H H from ⟨hT, LamX.ExtN.refl H⟩).same s1, hX⟩
  rintro σ HF ⟨x, rfl, jF, hX⟩
  have hU := hU.ext jF.e
  have nx := nx.ext jF.e
  have ra : HF a = some (.lst xs) := jF.e _ _ ha (fun ps z => by cases z)
  have q' : ∀ G, Jn T HF G → Q (.bl true) G := fun G j => q G j.t (jF.e.trans j.e)
  have j0 : Jn T HF HF := ⟨jF.t, LamX.ExtN.refl HF⟩
  clear ha hT q jF
  have b0 : Bq 4000 (ser us 0) := (zu.getD 0).bqn (by decide)
  have ls : ∀ {G : Hp} {d : Addr} {zs : List V}, LamX.ExtN HF G → HF d = some (.lst zs) → G d = some (.lst zs) := fun e h => e _ _ h (fun ps z => by cases z)
  obtain ⟨y0, at0, n0⟩ := first_at nx l1
  obtain ⟨a0, rfl, sa0, _⟩ := n0.sq
  have sq0 : ∀ {G : Hp}, LamX.ExtN HF G → SqT K G a0 [.int (ser us 0).num, .int (((ser us 0).den : Nat) : Int)] := fun e => by
    obtain ⟨a', e', s', _⟩ := (n0.ext e).sq
    rw [V.ref.inj e']
    exact s'
  by_cases u0 : ser us 0 = 0
  · refine ⟨fun σ G => ∃ l r1 r2, σ = [some z0, some (.ref a), some (.ref x), some (.ref l), none] ∧ Jn T HF G ∧ G l = some (.lst [.ref r1, .ref r2]) ∧ G r1 = some (.lst [.str "DividedByZero"]) ∧ G r2 = some (.lst [.str "DividedByZero"]), ?_, ?_⟩
    · refine ⟨j0.t, fun H3 x3 T3 => ?_⟩
      have j3 := j0.ext x3 T3
      refine ⟨_, rfl, rd_rcX (hX.ext j3.e) b0 u0 (air_dz fun r1 G4 s4 e4 => ?_)⟩
      have j4 := j3.same s4
      refine ⟨j4.t, fun H5 t5 x5 T5 ht5 => ⟨ht5, ?_⟩⟩
      have j5 := j4.ext x5 T5
      refine ⟨_, rfl, rfl, rd_rcX (hX.ext j5.e) b0 u0 (air_dz fun r2 G6 s6 e6 => ?_)⟩
      refine ⟨(by show 2 ≤ sizeLine; decide), fun l nl => ?_⟩
      have s7 := new_same nl (HO.lst [V.ref r1, .ref r2])
      exact ⟨l, r1, r2, rfl, (j5.same s6).same s7, upd_same, s7 _ _ (s6 _ _ (x5 _ _ e4 (fun ps z => by cases z))), s7 _ _ e6⟩
    rintro σ G ⟨l, r1, r2, rfl, j, el, e1, e2⟩
    refine ⟨fun _ _ => False, ?_, fun _ _ z => z.elim⟩
    refine ⟨_, rfl, a, xs, _, _, rfl, rfl, SqL.of (ls j.e ra), at0, a0, _, 0, _, rfl, rfl, sq0 j.e, rfl, rfl, _, rfl, ?_⟩
    rw [u0, show (0 : Rat).num = 0 from rfl]
    refine iteT ⟨_, rfl, (by show 1 ≤ sizeLine; decide), fun d1 m1 => ⟨(by show 1 ≤ sizeLine; decide), fun d2 m2 => ⟨(by show 2 ≤ sizeLine; decide), fun d3 m3 => ?_⟩⟩⟩
    have t1 := new_same m1 (HO.lst [V.str "DividedByZero"])
    have t2 := new_same m2 (HO.lst [V.str "DividedByZero"])
    have t3 := new_same m3 (HO.lst [V.ref d1, .ref d2])
    have t23 := t2.trans t3
    have tA := t1.trans t23
    have dp : ∀ {G' : Hp} {m k1 k2 : Addr}, G' m = some (.lst [.ref k1, .ref k2]) → G' k1 = some (.lst [.str "DividedByZero"]) → G' k2 = some (.lst [.str "DividedByZero"]) → Dp K G' (.ref m) (.list [.list [.str "DividedByZero"], .list [.str "DividedByZero"]]) := fun h h1 h2 =>
      .lst (SqL.of h) (.cons (.lst (SqL.of h1) (.cons (.str _) .nil)) (.cons (.lst (SqL.of h2) (.cons (.str _) .nil)) .nil))
    refine ⟨_, _, dp (tA _ _ el) (tA _ _ e1) (tA _ _ e2), dp upd_same (t23 _ _ upd_same) (t3 _ _ upd_same), (by decide +kernel), (by decide +kernel), ?_⟩
    have ev : PyData.eqv (.list [.list [.str "DividedByZero"], .list [.str "DividedByZero"]]) (.list [.list [.str "DividedByZero"], .list [.str "DividedByZero"]]) = true := by decide +kernel
    rw [ev]
    exact q' _ (j.same tA)
  obtain ⟨b, bm, zb, gu, gr⟩ := one_upon zu u0 l9
  have wl : ∀ k, k ≤ 60 → b.m * k ≤ 3900 := fun k hk => by rw [bm]; omega
  have lr := rcL_len us
  have ar := gr.all
  rw [lr] at ar
  have hc : RcC us := ⟨b, 1, 2 * us.length + 1, zb, ar, wl _ (by omega)⟩
  have hc2 : RcC (rcL us) := ⟨b, 2 * us.length + 1, 1, ar, by rw [rc_rc l1 u0]; exact zb, wl _ (by omega)⟩
  have r0 : ser (rcL us) 0 ≠ 0 := fun z => by
    have := rc_eq u0 0 (by omega)
    have e : (0 : Rat) + ser (rcL us) 0 * ser us 0 = 1 := this
    rw [z, Rat.zero_mul, Rat.zero_add] at e
    exact absurd e (by decide)
  have br : AllB 4000 (rcL us) := ar.bqn (by have := wl (2 * us.length + 1) (by omega); omega)
  have br0 : Bq 4000 (ser (rcL us) 0) := (gr 0 (by rw [lr]; omega)).b4 (wl _ (by omega))
  let Fin : Addr → Addr → Addr → Addr → Addr → Hp → Prop := fun l r1 r2 L1 L2 G => Jn T HF G ∧ G l = some (.lst [.ref r1, .ref r2]) ∧ G r1 = some (.lst [.str "told", .ref L1]) ∧ G r2 = some (.lst [.str "told", .ref L2]) ∧ Ls K G (.ref L1) (rcL us) ∧ Ls K G (.ref L2) (rcL us)
  refine ⟨fun σ G => ∃ l r1 r2 L1 L2, σ = [some z0, some (.ref a), some (.ref x), some (.ref l), none] ∧ Fin l r1 r2 L1 L2 G, ?_, ?_⟩
  · refine ⟨j0.t, fun H3 x3 T3 => ?_⟩
    have j3 := j0.ext x3 T3
    refine ⟨_, rfl, rd_rcG (hX.ext j3.e) b0 u0 hc fun G4 y4 s4 h4 => ?_⟩
    obtain ⟨y', dy, fy, rfl, hy1, hy2, _⟩ := h4.its
    refine ⟨y', dy, fy, rfl, hy1, hy2, .ref y', rcL us, rfl, h4, fun L1 G5 zs s5 n5 e5 m5 => ⟨(by show 2 ≤ sizeLine; decide), fun r1 n1 => ?_⟩⟩
    have s6 := new_same n1 (HO.lst [V.str "told", .ref L1])
    have e6 : upd G5 r1 (.lst [.str "told", .ref L1]) r1 = some (.lst [.str "told", .ref L1]) := upd_same
    have k1 : Ls K (upd G5 r1 (.lst [.str "told", .ref L1])) (.ref L1) (rcL us) := (show Ls K G5 (.ref L1) (rcL us) from ⟨L1, zs, rfl, e5, m5⟩).same s6
    have s46 := s4.trans (s5.trans s6)
    generalize upd G5 r1 (.lst [.str "told", .ref L1]) = G6 at s46 e6 k1
    have j6 := j3.same s46
    refine ⟨j6.t, fun H7 t7 x7 T7 ht7 => ⟨ht7, ?_⟩⟩
    have j7 := j6.ext x7 T7
    refine ⟨_, rfl, rfl, rd_rcG (hX.ext j7.e) b0 u0 hc fun G8 y8 s8 h8 => ?_⟩
    obtain ⟨y', dy, fy, rfl, hy1, hy2, _⟩ := h8.its
    refine ⟨y', dy, fy, rfl, hy1, hy2, .ref y', rcL us, rfl, h8, fun L2 G9 zs s9 n9 e9 m9 => ⟨(by show 2 ≤ sizeLine; decide), fun r2 n2 => ?_⟩⟩
    have s10 := new_same n2 (HO.lst [V.str "told", .ref L2])
    refine ⟨(by show 2 ≤ sizeLine; decide), fun l nl => ?_⟩
    have s11 := new_same nl (HO.lst [V.ref r1, .ref r2])
    have sB := s10.trans s11
    have sC := s8.trans (s9.trans sB)
    exact ⟨l, r1, r2, L1, L2, rfl, j7.same sC, upd_same, sC _ _ (x7 _ _ e6 (fun ps z => by cases z)), s11 _ _ upd_same, (k1.ext x7).same sC, (show Ls K G9 (.ref L2) (rcL us) from ⟨L2, zs, rfl, e9, m9⟩).same sB⟩
  rintro σ G ⟨l, r1, r2, L1, L2, rfl, F0⟩
  have fs : ∀ {G G'}, Fin l r1 r2 L1 L2 G → Same G G' → Fin l r1 r2 L1 L2 G' := fun ⟨j, el, e1, e2, h1, h2⟩ s => ⟨j.same s, s _ _ el, s _ _ e1, s _ _ e2, h1.same s, h2.same s⟩
  refine ⟨fun σ G => σ = [some z0, some (.ref a), some (.ref x), some (.ref l), none] ∧ Fin l r1 r2 L1 L2 G, ?_, ?_⟩
  · refine ⟨_, rfl, a, xs, _, _, rfl, rfl, SqL.of (ls F0.1.e ra), at0, a0, _, 0, _, rfl, rfl, sq0 F0.1.e, rfl, rfl, _, rfl, ?_⟩
    rw [decide_eq_false (fun z => u0 (Rat.num_eq_zero.mp (V.int.inj z)))]
    exact iteF ⟨rfl, F0⟩
  clear F0
  rintro σ G ⟨rfl, F0⟩
  refine ⟨fun σ G => σ = [some z0, some (.ref a), some (.ref x), some (.ref l), none] ∧ Fin l r1 r2 L1 L2 G, ?_, ?_⟩
  · obtain ⟨j, el, e1, e2, h1, h2⟩ := id F0
    refine ⟨_, rfl, l, _, 0, _, rfl, rfl, SqL.of el, rfl, r1, _, 0, _, rfl, rfl, SqL.of e1, rfl, rfl, _, rfl, iteF ?_⟩
    refine ⟨_, rfl, l, _, 1, _, rfl, rfl, SqL.of el, rfl, _, rfl, l, _, 0, _, rfl, rfl, SqL.of el, rfl, .ref r2, .ref r1, rfl, Lk.lst (n := 4) e2 e1 (by show 2 ≤ 60; decide) (.cons (Lk.flat rfl) (.cons (Ls.lk (n := 2) h2 h1 (by rw [lr]; omega)) .nil)), fun G2 s2 => ⟨_, rfl, iteF ?_⟩⟩
    obtain ⟨j, el, e1, e2, h1, h2⟩ := fs F0 s2
    obtain ⟨L1', zs, e', hz, nz⟩ := id h1
    obtain rfl := V.ref.inj e'
    have lz : zs.length = us.length := by rw [nz.1, lr]
    refine ⟨_, rfl, l, _, 0, _, rfl, rfl, SqL.of el, rfl, r1, _, 1, _, rfl, rfl, SqL.of e1, rfl, L1, rfl, ⟨_, SqL.of hz⟩, fun D nD => ?_⟩
    refine lc_acc (walk_list (K := K) (a := L1) (xs := zs)) (fun i _ y => y = .bl true) (fun i H H' y l h _ _ => h) nD (by omega) (fun H2 s => SqL.of (s _ _ hz)) ?_ ?_
    · rintro i y H4 H5 k' hi s4 ⟨rfl, hy'⟩ hk
      obtain ⟨q1, hq1⟩ : ∃ q1, (rcL us)[i]? = some q1 := ⟨_, List.getElem?_eq_getElem (by omega)⟩
      have nq := (nz.2 i y q1 hy' hq1).same s4
      exact ⟨rfl, _, rfl, y, true, rfl, nq.isB ((br q1 (List.mem_of_getElem? hq1)).mono (by decide)), fun H6 s6 => hk _ _ s6 rfl⟩
    · intro H4 ys s4 hD hl hR
      refine ⟨D, List.replicate zs.length true, rfl, SqL.of (by rw [hD, bools_eq hl hR]), ?_⟩
      rw [all_true]
      exact ⟨_, rfl, iteF ⟨rfl, fs F0 (s2.trans s4)⟩⟩
  clear F0
  rintro σ G ⟨rfl, F0⟩
  refine ⟨fun σ G => σ = [some z0, some (.ref a), some (.ref x), some (.ref l), none] ∧ Fin l r1 r2 L1 L2 G, ?_, ?_⟩
  · obtain ⟨j, el, e1, e2, h1, h2⟩ := id F0
    obtain ⟨L1', zs, e', hz, nz⟩ := id h1
    obtain rfl := V.ref.inj e'
    have lz : zs.length = us.length := by rw [nz.1, lr]
    refine ⟨_, rfl, l, _, 0, _, rfl, rfl, SqL.of el, rfl, r1, _, 1, _, rfl, rfl, SqL.of e1, rfl, L1, zs, rfl, .inl (SqL.of hz), _, rfl, a, xs, rfl, .inl (SqL.of (ls j.e ra)), rfl, _, rfl, ?_⟩
    rw [lz, lx, decide_eq_true (rfl : V.int (us.length : Nat) = V.int (us.length : Nat))]
    refine iteF ⟨_, rfl, rd_rcG (hX.ext j.e) b0 u0 hc fun G2 y2 s2 h3 => ?_⟩
    refine rd_rcG h3 br0 r0 hc2 fun G3 y3 s3 h4 => ?_
    obtain ⟨y', dy, fy, rfl, hy1, hy2, _⟩ := h4.its
    refine ⟨y', dy, fy, rfl, hy1, hy2, .ref y', _, rfl, h4, fun d G4 ws s4 n4 e4 m4 => ?_⟩
    have s24 := s2.trans (s3.trans s4)
    rw [rc_rc l1 u0] at m4
    refine ⟨_, rfl, datL us, datL us, Ls.dp ⟨d, ws, rfl, e4, m4⟩, Ls.dp (hU.ext (j.same s24).e), shaped_list _, shaped_list _, _, rfl, ?_⟩
    rw [eqv_list, decide_eq_true rfl]
    exact iteF ⟨rfl, fs F0 s24⟩
  clear F0
  rintro σ G ⟨rfl, j, el, e1, e2, h1, h2⟩
  refine ⟨_, rfl, _, rfl, l, _, 0, _, rfl, rfl, SqL.of el, rfl, r1, _, 1, _, rfl, rfl, SqL.of e1, rfl, ?_⟩
  refine ⟨.ref a, .ref L1, us, rcL us, b, 2, 1, 1, rfl, hU.ext j.e, h1, lr.symm, by omega, wl _ (by omega), gu, gr, fun d G2 ws s2 n2 e2' m2 => ?_⟩
  have hM : Ls K G2 (.ref d) (stR us.length) := by
    rw [mul_rc l1 u0] at m2
    exact ⟨d, ws, rfl, e2', m2⟩
  have ha2 := ls (j.same s2).e ra
  refine ⟨(by show 2 ≤ sizeLine; decide), fun t1 m1 => ⟨(by show 1 ≤ sizeLine; decide), fun c1 n1 => ⟨(by show 2 ≤ sizeLine; decide), fun t2 m2' => ⟨(by show 1 ≤ sizeLine; decide), fun c2 n2' => ?_⟩⟩⟩⟩
  have s3 := new_same m1 (HO.tup [.int 1, .int 1])
  have s4 := new_same n1 (HO.lst [V.ref t1])
  have s5 := new_same m2' (HO.tup [.int 0, .int 1])
  have s6 := new_same n2' (HO.lst [V.ref t2])
  have s36 := s3.trans (s4.trans (s5.trans s6))
  refine ⟨_, rfl, a, xs, rfl, .inl (SqL.of (s36 _ _ ha2)), (xs.length : Int), 1, rfl, rfl, c2, (xs.length : Int) - 1, [.ref t2], rfl, rfl, upd_same, by omega, by omega, (by show 1 * _ ≤ sizeLine; exact Nat.le_of_lt (small1000 (by omega))), fun c3 nc => ?_⟩
  have rep : (List.replicate ((xs.length : Int) - 1).toNat [V.ref t2]).flatten = List.replicate (us.length - 1) (.ref t2) := by
    rw [List.flatten_replicate_singleton]
    congr 1
    omega
  rw [rep]
  have s7 := new_same nc (HO.lst (List.replicate (us.length - 1) (V.ref t2)))
  refine ⟨c1, c3, _, _, rfl, rfl, s7 _ _ (s6 _ _ (s5 _ _ upd_same)), upd_same, Nat.le_of_lt (small1000 (by rw [List.length_replicate]; show 1 + _ ≤ _; omega)), fun d' nd => ?_⟩
  have s8 := new_same nd (HO.lst ([V.ref t1] ++ List.replicate (us.length - 1) (V.ref t2)))
  have sA := s36.trans (s7.trans s8)
  have hN := unit_ls (K := K) (n := us.length) ((s4.trans (s5.trans (s6.trans (s7.trans s8)))) _ _ upd_same) ((s6.trans (s7.trans s8)) _ _ upd_same) (show _ = some (.lst ([V.ref t1] ++ List.replicate (us.length - 1) (V.ref t2))) from upd_same)
  refine ⟨datL _, datL _, (hM.same sA).dp, hN.dp, shaped_list _, shaped_list _, ?_⟩
  rw [eqv_list, decide_eq_true rfl]
  exact q' _ ((j.same s2).same sA)
end
end Kx
end
section
set_option maxHeartbeats 4000000
namespace Kx
open PySem PySem.Spec PyProof.Rows L2 RZ
abbrev nRso : List Str := ["_law_bag_here", "_law_a", "_law_u", "_law_c", "_law_odd_here", "_law_told", "_law_due"]
def spRso (K : PySem.W.Frag) (T : List (Addr × Str)) : Sp := fun vs H Q _ => ∃ (B p : Addr) (x : V) (us : List Rat), vs = [.ref B, x] ∧ Bag H B p ∧ Ls K H x us ∧ 3 ≤ us.length ∧ us.length ≤ 9 ∧ AllZ b6 1 us ∧ LamX.Tabs T H ∧ ∀ H', Bag H' B p → Go B H H' → LamX.Tabs T H' → Q (.bl true) H'
section
variable {P : Program} {w : World} {K : PySem.W.Frag} {mg : Str → Option Value} {base : Heap} {f c Pt C S CF CO CU CE CN : Addr} {cs : Fin 3 → Addr} {fd : FuncData} {T : List (Addr × Str)}
theorem scRso : FnScope nRso ["_law_bag_here", "_law_a"] (defScope L_refused_so) := ⟨rfl, rfl, rfl, by decide +kernel, rfl, by decide +kernel, by decide +kernel⟩
theorem ok_refusedso (F : FunC K "_law_refused_so" "_law_refused_so" L_refused_so f fd c) (U : Kit4 P w K mg base C S CF CO CU CE CN cs)
    (TB : LamX.TabB base mg c Pt) (hmT : (Pt, ((("_law_refused_so" : Str) ++ ".<locals>.") ++ "<lambda>" : Str)) ∈ T) (hu : ∀ p ∈ T, p.1 = Pt → p.2 = ((("_law_refused_so" : Str) ++ ".<locals>.") ++ "<lambda>" : Str)) : FnOk P w K mg base CX0 11 f fd ["_law_bag_here", "_law_a"] (spRso K T) := by
  refine F.ok scRso (fun vs H Q E h => ?_) (fun A outer s H vs Q E hr h => ?_)
  · obtain ⟨B, p, x, us, rfl, _⟩ := h
    rfl
  obtain ⟨B, p, x0, us, rfl, hb, hU, l3, l9, zu, hT, q⟩ := h
  have hr1 := hr.mono (show 1 ≤ 10 by decide)
  have hr2 := hr.mono (show 2 ≤ 10 by decide)
  have hr3 := hr.mono (show 3 ≤ 10 by decide)
  have hr7 := hr.mono (show 7 ≤ 10 by decide)
  have hr8 := hr.mono (show 8 ≤ 10 by decide)
  have hr9 := hr.mono (show 9 ≤ 10 by decide)
  obtain ⟨gA, fdA, FA, bA, mA⟩ := U.ask
  obtain ⟨oc, od, kV, doc, pm, an, cdv, ct, osl, rfl, lkA, hcdA⟩ := FA.ex
  obtain ⟨fF, fdF, PF, bF, kF, mF⟩ := U.flt
  obtain ⟨fR, fdR, MR, FR, bR, bRK⟩ := U.rk.ini
  refine ⟨_, C8.pss_cut (ps_asg (pe_tup (pa_cons (pe_make (E := fun _ _ _ => False) MR FR hr7 rfl U.rk.m bR .nil passF (pa_cons (pv 1) pa_nil)) (pa_cons (pe_use U.sml hr3 rfl pass0 (pa_cons (pv 0) pa_nil)) (pa_cons (pe_use U.odd hr9 rfl pass0 (pa_cons (pv 0) pa_nil)) pa_nil)))) (pg_tup rfl (pgs_cons (pg_name (i := 2) scRso.nd rfl (Or.inr rfl)) (pgs_cons (pg_name (i := 3) scRso.nd rfl (Or.inr rfl)) (pgs_cons (pg_name (i := 4) scRso.nd rfl (Or.inr rfl)) pgs_nil)))))
    (C8.pss_cut (ps_set (i := 5) scRso.nd rfl (Or.inl rfl) (pe_lst (pa_cons (LamX.pe_lamcall (k := 8) (t := fun E => tCall (spRpow K C (cs 0) (cs 1)) [] E (tCons (tVar 2) (tCons (tVar 4) tNil))) (TT := TAsk3 cs) rfl mA FA.kp lkA hcdA bA scAsk rfl (Or.inl rfl) (ask_gives3 (hr.mono (by decide)) PF bF kF mF U.mC U.mN U.e0 U.e1 U.e2 U.e3) TB rfl hmT hu hr (LamX.lamS_by (show LamX.lamSB (defScope L_refused_so) _ = true by decide +kernel)) rfl (fun _ _ _ _ _ => rfl)
      (fun A outer s H E f c' hk => pe_use (E := E) U.rpw hk rfl (passes_call (takes_of rfl rfl rfl rfl) (fun _ _ _ _ h => h)) (pa_cons (pv 2) (pa_cons (pv 4) pa_nil)))) (pa_cons (LamX.pe_lamcallD (k := 8) (kd := 0) (px := "_law_x") (t := fun E => tCallR 2 (spRpow K C (cs 0) (cs 1)) E (tCons (tVar 4) (tCons (tVar 2) tNil))) (TT := TAsk3 cs) rfl mA FA.kp lkA hcdA bA scAsk rfl (Or.inl rfl) (ask_gives3 (hr.mono (by decide)) PF bF kF mF U.mC U.mN U.e0 U.e1 U.e2 U.e3) TB rfl hmT hu hr (LamX.lamD_by (show LamX.lamDB nRso (defScope L_refused_so) _ "_law_x" = true by decide +kernel)) rfl (fun _ _ _ _ _ _ _ => ⟨_, rfl, rfl⟩)
      (fun A outer s H E f c' hk => pe_useR (E := E) (ks := ["t", "row"]) U.rpw hk rfl (passes_call (takes_of rfl rfl rfl rfl) (fun _ _ _ _ h => h)) rfl (pk_cons (pv 4) (pk_cons (pv 2) pk_nil)) (by simp))) pa_nil))))
    (C8.pss_cut (ps_if (pt_cmpR (op_eqD hr.units) (pe_ix ix_list (pv 1) pe_int (fun _ _ => rfl)) (pe_tup (pa_cons pe_int (pa_cons pe_int pa_nil))) (nomark _)) (pss_cons (ps_set (i := 6) scRso.nd rfl (Or.inl rfl) (pe_lst (pa_cons pe_str (pa_cons (pv 4) pa_nil)))) (pss_one (ps_ret (pe_and (pe_use U.lik hr7 rfl pass0 (pa_cons (pv 5) (pa_cons (pe_lst (pa_cons (pv 6) (pa_cons (pv 6) pa_nil))) pa_nil))) (pe_one (pe_callB call_isi rfl U.mI (by decide +kernel) (pa_cons (pe_use (E := fun _ _ _ => False) U.rpw hr8 rfl passF (pa_cons (pv 2) (pa_cons (pv 3) pa_nil))) (pa_cons (C8.pe_gc (v := .ref C) rfl ⟨_, U.rk.m, rfl⟩) pa_nil)))))))) pss_nil)
    (C8.pss_cut (ps_set (i := 6) scRso.nd rfl (Or.inl rfl) (pe_lst (pa_cons pe_str (pa_cons (pe_ix ix_list (pv 1) pe_int (fun _ _ => rfl)) pa_nil))))
    (C8.pss_cut (ps_set (i := 5) scRso.nd rfl (Or.inl rfl) (pe_op op_cat (pv 5) (pe_lst (pa_cons (LamX.pe_lamcall (k := 8) (t := fun E => tCall (spRpow K C (cs 0) (cs 1)) [] E (tCons (tVar 2) (tCons (tVar 3) tNil))) (TT := TAsk3 cs) rfl mA FA.kp lkA hcdA bA scAsk rfl (Or.inl rfl) (ask_gives3 (hr.mono (by decide)) PF bF kF mF U.mC U.mN U.e0 U.e1 U.e2 U.e3) TB rfl hmT hu hr (LamX.lamS_by (show LamX.lamSB (defScope L_refused_so) _ = true by decide +kernel)) rfl (fun _ _ _ _ _ => rfl)
      (fun A outer s H E f c' hk => pe_use (E := E) U.rpw hk rfl (passes_call (takes_of rfl rfl rfl rfl) (fun _ _ _ _ h => h)) (pa_cons (pv 2) (pa_cons (pv 3) pa_nil)))) (pa_cons (LamX.pe_lamcallD (k := 8) (kd := 0) (px := "_law_x") (t := fun E => tCall (spRlog K C (cs 1)) [] E (tCons (tVar 2) tNil)) (TT := TAsk3 cs) rfl mA FA.kp lkA hcdA bA scAsk rfl (Or.inl rfl) (ask_gives3 (hr.mono (by decide)) PF bF kF mF U.mC U.mN U.e0 U.e1 U.e2 U.e3) TB rfl hmT hu hr (LamX.lamD_by (show LamX.lamDB nRso (defScope L_refused_so) _ "_law_x" = true by decide +kernel)) rfl (fun _ _ _ _ _ _ _ => ⟨_, rfl, rfl⟩)
      (fun A outer s H E f c' hk => pe_use (E := E) U.rlg hk rfl (passes_call (takes_of rfl rfl rfl rfl) (fun _ _ _ _ h => h)) (pa_cons (pv 2) pa_nil))) pa_nil)))))
    (pss_one (ps_ret (pe_use U.lik hr7 rfl pass0 (pa_cons (pv 5) (pa_cons (pe_lst (pa_cons (pv 6) (pa_cons (pv 6) (pa_cons (pv 6) (pa_cons (pv 6) pa_nil))))) pa_nil))))))))), ?_⟩
  obtain ⟨a, xs, rfl, ha, nx⟩ := id hU
  have lx : xs.length = us.length := nx.1
  have l1 : 1 ≤ us.length := by omega
  have jH : Jg T B p H H := ⟨hb, hT, Go.same (Same.refl H)⟩
  let In : Addr → V → V → Rat → Hp → Prop := fun x vc od t G => Jg T B p H G ∧ RwAt K C G (.ref x) us ∧ Ls K G (.ref a) us ∧ Nq K G vc t ∧ Od K S G od
  refine ⟨fun σ G => ∃ x vc od t, σ = [some (.ref B), some (.ref a), some (.ref x), some vc, some od, none, none] ∧ SmT t ∧ In x vc od t G, ?_, ?_⟩
  · refine ⟨_, rfl, fun x dx xn dn en => row_newG (.inl ha) nx l3 (by omega) xn dn en fun G1 s1 hX => ⟨rfl, ?_⟩⟩
    have j1 := jH.same s1
    have hA := hU.same s1
    refine ⟨_, rfl, B, p, rfl, j1.b, fun G2 vc t b2 u2 hc st => ?_⟩
    have j2 := j1.but b2 u2
    have hX := hX.go j1.b (Go.of u2)
    have hA := hA.go (by omega) j1.b (Go.of u2)
    refine ⟨_, rfl, B, p, rfl, b2, fun G3 od b3 u3 ho => ?_⟩
    have j3 := j2.but b3 u3
    have hX := hX.go b2 (Go.of u3)
    have hA := hA.go (by omega) b2 (Go.of u3)
    have hc := hc.go b2 (Go.of u3)
    refine ⟨(by show 3 ≤ sizeLine; decide), fun tt nt => ?_⟩
    have s4 := new_same nt (HO.tup [V.ref x, vc, od])
    exact ⟨tt, _, rfl, SqT.of upd_same, rfl, _, _, rfl, _, _, rfl, _, _, rfl, rfl, x, vc, od, t, rfl, st, j3.same s4, hX.same s4, hA.same s4, hc.same s4, ho.same s4⟩
  clear jH ha nx lx hb hU
  rintro σ G ⟨x, vc, od, t, rfl, st, F0⟩
  have inS : ∀ {G G'}, In x vc od t G → Same G G' → In x vc od t G' := fun ⟨j, hX, hA, hc, ho⟩ s => ⟨j.same s, hX.same s, hA.same s, hc.same s, ho.same s⟩
  have inE : ∀ {G G'}, In x vc od t G → LamX.ExtN G G' → LamX.Tabs T G' → In x vc od t G' := fun ⟨j, hX, hA, hc, ho⟩ e tt => ⟨j.ext e tt, hX.ext e, hA.ext e, hc.ext e, ho.go j.b (Go.ext e)⟩
  have ls : ∀ {G G' : Hp} {d : Addr} {zs : List V}, LamX.ExtN G G' → G d = some (.lst zs) → G' d = some (.lst zs) := fun e h => e _ _ h (fun ps z => by cases z)
  by_cases u0 : ser us 0 = 1
  · have rp1 : ∀ {E : XK} {R : VK} {G : Hp}, In x vc od t G → Air G (cs 0) (fs1 "InvalidNumber" "value" [od]) E → spRpow K C (cs 0) (cs 1) [.ref x, od] G R E := fun F h =>
      ⟨.ref x, od, us, rfl, F.2.1, fun n => absurd u0 n, fun _ => .inl ⟨F.2.2.2.2.2.isG U.sk _ (Same.refl _), h⟩⟩
    refine ⟨fun σ G => ∃ l r1 r2, σ = [some (.ref B), some (.ref a), some (.ref x), some vc, some od, some (.ref l), none] ∧ In x vc od t G ∧ G l = some (.lst [.ref r1, .ref r2]) ∧ G r1 = some (.lst [.str "InvalidNumber", od]) ∧ G r2 = some (.lst [.str "InvalidNumber", od]), ?_, ?_⟩
    · refine ⟨F0.1.t, fun H3 x3 T3 => ?_⟩
      have F3 := inE F0 x3 T3
      refine ⟨_, rfl, _, rfl, rp1 F3 (air_iv fun r1 G4 s4 e4 => ?_)⟩
      have F4 := inS F3 s4
      refine ⟨F4.1.t, fun H5 t5 x5 T5 ht5 => ⟨ht5, ?_⟩⟩
      have F5 := inE F4 x5 T5
      refine ⟨_, rfl, _, rfl, rfl, rp1 F5 (air_iv fun r2 G6 s6 e6 => ?_)⟩
      refine ⟨(by show 2 ≤ sizeLine; decide), fun l nl => ?_⟩
      have s7 := new_same nl (HO.lst [V.ref r1, .ref r2])
      exact ⟨l, r1, r2, rfl, inS (inS F5 s6) s7, upd_same, s7 _ _ (s6 _ _ (ls x5 e4)), s7 _ _ e6⟩
    clear F0
    rintro σ G ⟨l, r1, r2, rfl, F0, el, e1, e2⟩
    refine ⟨fun _ _ => False, ?_, fun _ _ z => z.elim⟩
    obtain ⟨a', xs, e, ha, nx⟩ := id F0.2.2.1
    obtain rfl := V.ref.inj e
    obtain ⟨y0, at0, n0⟩ := first_at nx l1
    refine ⟨_, rfl, a, xs, _, _, rfl, rfl, SqL.of ha, at0, (by show 2 ≤ sizeLine; decide), fun tt nt => ?_⟩
    have s1 := new_same nt (HO.tup [V.int 1, .int 1])
    have n1 : Nq K (upd G tt (HO.tup [V.int 1, .int 1])) (.ref tt) 1 := .at (K := K) (show _ = some (rT 1) from upd_same)
    refine ⟨tupQ (ser us 0), tupQ 1, (n0.same s1).dp, n1.dp, rfl, rfl, ?_⟩
    rw [eqv_num, decide_eq_true u0]
    refine ⟨_, rfl, iteT ⟨_, rfl, (by show 2 ≤ sizeLine; decide), fun d nd => ?_⟩⟩
    have s2 := new_same nd (HO.lst [V.str "InvalidNumber", od])
    refine ⟨_, rfl, _, rfl, _, rfl, (by show 2 ≤ sizeLine; decide), fun l' nl => ?_⟩
    have s3 := new_same nl (HO.lst [V.ref d, .ref d])
    have s13 := s1.trans (s2.trans s3)
    have F3 := inS F0 s13
    have ed := s3 _ _ (show upd _ d _ d = _ from upd_same)
    have lk : ∀ {r : Addr} {G' : Hp}, In x vc od t G' → G' r = some (.lst [.str "InvalidNumber", od]) → G' d = some (.lst [.str "InvalidNumber", od]) → Lk K S 4 G' (.ref r) (.ref d) := fun F h h' => Lk.lst (n := 3) h h' (by show 2 ≤ 60; decide) (.cons (Lk.flat rfl) (.cons (Vx.lk (n := 1) F.2.2.2.2.1) .nil))
    refine ⟨_, _, rfl, Lk.lst (n := 4) (s13 _ _ el) upd_same (by show 2 ≤ 60; decide) (.cons (lk F3 (s13 _ _ e1) ed) (.cons (lk F3 (s13 _ _ e2) ed) .nil)), fun G4 s4 => ⟨_, rfl, iteT ?_⟩⟩
    have F4 := inS F3 s4
    refine ⟨_, rfl, _, rfl, .ref x, vc, us, rfl, F4.2.1, fun n => absurd u0 n, fun _ => .inr ⟨t, F4.2.2.2.1, pwC_of wide6 (st.s.ex b6) (rw_of u0 zu) (by decide) l3 l9 (st.s.bq.mono (by decide)) (by show 57 * (2 * (1 * us.length) + us.length + 1) ≤ 6000; omega) (by show 57 * (1 * us.length + us.length) ≤ 3900; omega), fun G5 y s5 hy => ?_⟩⟩
    have F5 := inS F4 s5
    obtain ⟨y', dy, fy, rfl, hy1, _⟩ := hy.its
    exact ⟨.ref y', .ref C, .ref C, .ref C, true, rfl, .own C, U.rk.ty _ _ _ _ hy1, U.rk.kit, q _ F5.1.b F5.1.g F5.1.t⟩
  have rp2 : ∀ {E : XK} {R : VK} {G : Hp} {v : V}, In x vc od t G → (∀ y, Nq K G y (ser us 0) → Air G (cs 1) (fs1 "NotOne" "first" [y]) E) → spRpow K C (cs 0) (cs 1) [.ref x, v] G R E := fun F h =>
    ⟨.ref x, _, us, rfl, F.2.1, fun _ => h, fun e => absurd e u0⟩
  have rl2 : ∀ {E : XK} {R : VK} {G : Hp}, In x vc od t G → (∀ y, Nq K G y (ser us 0) → Air G (cs 1) (fs1 "NotOne" "first" [y]) E) → spRlog K C (cs 1) [.ref x] G R E := fun F h =>
    ⟨.ref x, us, rfl, F.2.1, fun _ => h, fun e => absurd e u0⟩
  let At : Addr → Hp → Prop := fun r G => ∃ y, G r = some (.lst [.str "NotOne", y]) ∧ Nq K G y (ser us 0)
  have atS : ∀ {G G' r}, At r G → Same G G' → At r G' := fun ⟨y, h, n⟩ s => ⟨y, s _ _ h, n.same s⟩
  have atE : ∀ {G G' r}, At r G → LamX.ExtN G G' → At r G' := fun ⟨y, h, n⟩ s => ⟨y, ls s h, n.ext s⟩
  refine ⟨fun σ G => ∃ l r1 r2, σ = [some (.ref B), some (.ref a), some (.ref x), some vc, some od, some (.ref l), none] ∧ In x vc od t G ∧ G l = some (.lst [.ref r1, .ref r2]) ∧ At r1 G ∧ At r2 G, ?_, ?_⟩
  · refine ⟨F0.1.t, fun H3 x3 T3 => ?_⟩
    have F3 := inE F0 x3 T3
    refine ⟨_, rfl, _, rfl, rp2 F3 fun y1 ny1 => air_no fun r1 G4 s4 e4 => ?_⟩
    have F4 := inS F3 s4
    have a1 : At r1 G4 := ⟨y1, e4, ny1.same s4⟩
    refine ⟨F4.1.t, fun H5 t5 x5 T5 ht5 => ⟨ht5, ?_⟩⟩
    have F5 := inE F4 x5 T5
    refine ⟨_, rfl, _, rfl, rfl, rp2 F5 fun y2 ny2 => air_no fun r2 G6 s6 e6 => ?_⟩
    have a2 : At r2 G6 := ⟨y2, e6, ny2.same s6⟩
    refine ⟨(by show 2 ≤ sizeLine; decide), fun l nl => ?_⟩
    have s7 := new_same nl (HO.lst [V.ref r1, .ref r2])
    exact ⟨l, r1, r2, rfl, inS (inS F5 s6) s7, upd_same, atS (atS (atE a1 x5) s6) s7, atS a2 s7⟩
  clear F0
  rintro σ G ⟨l, r1, r2, rfl, F0⟩
  refine ⟨fun σ G => σ = [some (.ref B), some (.ref a), some (.ref x), some vc, some od, some (.ref l), none] ∧ In x vc od t G ∧ G l = some (.lst [.ref r1, .ref r2]) ∧ At r1 G ∧ At r2 G, ?_, ?_⟩
  · obtain ⟨F, el, a1, a2⟩ := F0
    obtain ⟨a', xs, e, ha, nx⟩ := id F.2.2.1
    obtain rfl := V.ref.inj e
    obtain ⟨y0, at0, n0⟩ := first_at nx l1
    refine ⟨_, rfl, a, xs, _, _, rfl, rfl, SqL.of ha, at0, (by show 2 ≤ sizeLine; decide), fun tt nt => ?_⟩
    have s1 := new_same nt (HO.tup [V.int 1, .int 1])
    have n1 : Nq K (upd G tt (HO.tup [V.int 1, .int 1])) (.ref tt) 1 := .at (K := K) (show _ = some (rT 1) from upd_same)
    refine ⟨tupQ (ser us 0), tupQ 1, (n0.same s1).dp, n1.dp, rfl, rfl, ?_⟩
    rw [eqv_num, decide_eq_false u0]
    exact ⟨_, rfl, iteF ⟨rfl, inS F s1, s1 _ _ el, atS a1 s1, atS a2 s1⟩⟩
  clear F0
  rintro σ G ⟨rfl, F0⟩
  refine ⟨fun σ G => ∃ d, σ = [some (.ref B), some (.ref a), some (.ref x), some vc, some od, some (.ref l), some (.ref d)] ∧ In x vc od t G ∧ G l = some (.lst [.ref r1, .ref r2]) ∧ At r1 G ∧ At r2 G ∧ At d G, ?_, ?_⟩
  · obtain ⟨F, el, a1, a2⟩ := F0
    obtain ⟨a', xs, e, ha, nx⟩ := id F.2.2.1
    obtain rfl := V.ref.inj e
    obtain ⟨y0, at0, n0⟩ := first_at nx l1
    refine ⟨_, rfl, a, xs, _, _, rfl, rfl, SqL.of ha, at0, (by show 2 ≤ sizeLine; decide), fun d nd => ?_⟩
    have s1 := new_same nd (HO.lst [V.str "NotOne", y0])
    exact ⟨d, rfl, inS F s1, s1 _ _ el, atS a1 s1, atS a2 s1, y0, upd_same, n0.same s1⟩
  clear F0
  rintro σ G ⟨d, rfl, F0⟩
  refine ⟨fun σ G => ∃ l r3 r4, σ = [some (.ref B), some (.ref a), some (.ref x), some vc, some od, some (.ref l), some (.ref d)] ∧ In x vc od t G ∧ G l = some (.lst [.ref r1, .ref r2, .ref r3, .ref r4]) ∧ At r1 G ∧ At r2 G ∧ At r3 G ∧ At r4 G ∧ At d G, ?_, ?_⟩
  · obtain ⟨F, el, a1, a2, ad⟩ := F0
    refine ⟨_, rfl, F.1.t, fun H3 x3 T3 => ?_⟩
    have F3 := inE F x3 T3
    refine ⟨_, rfl, _, rfl, rp2 F3 fun y1 ny1 => air_no fun r3 G4 s4 e4 => ?_⟩
    have F4 := inS F3 s4
    have a3 : At r3 G4 := ⟨y1, e4, ny1.same s4⟩
    refine ⟨F4.1.t, fun H5 t5 x5 T5 ht5 => ⟨ht5, ?_⟩⟩
    have F5 := inE F4 x5 T5
    refine ⟨_, rfl, rl2 F5 fun y2 ny2 => air_no fun r4 G6 s6 e6 => ?_⟩
    have a4 : At r4 G6 := ⟨y2, e6, ny2.same s6⟩
    refine ⟨(by show 2 ≤ sizeLine; decide), fun l2 nl => ?_⟩
    have s7 := new_same nl (HO.lst [V.ref r3, .ref r4])
    refine ⟨l, l2, _, _, rfl, rfl, s7 _ _ (s6 _ _ (ls x5 (s4 _ _ (ls x3 el)))), upd_same, (by show 4 ≤ sizeLine; decide), fun l3 nl3 => ?_⟩
    have s8 := new_same nl3 (HO.lst ([V.ref r1, .ref r2] ++ [V.ref r3, .ref r4]))
    have up : ∀ {r}, At r G → At r _ := fun h => atS (atS (atS (atE (atS (atE h x3) s4) x5) s6) s7) s8
    exact ⟨l3, r3, r4, rfl, inS (inS (inS F5 s6) s7) s8, upd_same, up a1, up a2, atS (atS (atS (atE a3 x5) s6) s7) s8, atS (atS a4 s7) s8, up ad⟩
  clear F0
  rintro σ G ⟨l, r3, r4, rfl, F, el, a1, a2, a3, a4, ad⟩
  refine ⟨_, rfl, _, rfl, _, rfl, _, rfl, _, rfl, (by show 4 ≤ sizeLine; decide), fun l' nl => ?_⟩
  have s1 := new_same nl (HO.lst [V.ref d, .ref d, .ref d, .ref d])
  have lk : ∀ {r : Addr}, At r G → Lk K S 4 (upd G l' (.lst [V.ref d, .ref d, .ref d, .ref d])) (.ref r) (.ref d) := fun ⟨y, h, n⟩ => by
    obtain ⟨z, h', n'⟩ := ad
    exact Lk.lst (n := 3) (s1 _ _ h) (s1 _ _ h') (by show 2 ≤ 60; decide) (.cons (Lk.flat rfl) (.cons (Nq.lk (n := 2) (n.same s1) (n'.same s1)) .nil))
  exact ⟨_, _, rfl, Lk.lst (n := 4) (s1 _ _ el) upd_same (by show 4 ≤ 60; decide) (.cons (lk a1) (.cons (lk a2) (.cons (lk a3) (.cons (lk a4) .nil)))), fun H' s' => q _ (F.1.same (s1.trans s')).b (F.1.same (s1.trans s')).g (F.1.same (s1.trans s')).t⟩
end
end Kx
end
section
set_option maxHeartbeats 4000000
namespace Kx
open PySem PySem.Spec PyProof.Rows L2 RZ
def spLaw (K : PySem.W.Frag) (T : List (Addr × Str)) : Sp := fun vs H Q _ => ∃ (a : Addr) (ns : List Int), vs = [.ref a] ∧ SqL K H a (ns.map V.int) ∧ LamX.Tabs T H ∧ ∀ H', Q (.bl true) H'
abbrev nLaw : List Str := ["_law_script", "_law_bag_here", "_law_size", "_law_a", "_law_b", "_law_s", "_law_c", "_law_u", "_law_w", "_law_told", "_law_log", "_law_first", "_law_d"]
structure Kit5 (P : Program) (w : World) (K : PySem.W.Frag) (mg : Str → Option Value) (base : Heap) (C : Addr) (T : List (Addr × Str)) : Prop where
  who : Use P w K mg base CX0 9 "_law_whole_so" ["_law_bag_here", "_law_a"] (spWso K) []
  bac : Use P w K mg base CX0 11 "_law_back_so" ["_law_bag_here", "_law_a"] (spBso K T) []
  rfd : Use P w K mg base CX0 11 "_law_refused_so" ["_law_bag_here", "_law_a"] (spRso K T) []
  bag : Use P w K mg base CX0 1 "_law_bag" ["_law_script"] (spBag K) []
/-- exponents that a row of n numbers bears -/
def Wc (c : Rat) (n : Nat) : Prop := ∃ b : Bs, Ex b6 b c ∧ b.m * (4 * n + 1) ≤ 6000 ∧ b.m * (2 * n + 2) ≤ 3900 ∧ Bq 4000 c
theorem wc_small {c : Rat} {n : Nat} (h : SmT c) (l : n ≤ 9) : Wc c n := ⟨bX b6, h.s.ex b6, by show 57 * _ ≤ 6000; omega, by show 57 * _ ≤ 3900; omega, h.s.bq.mono (by decide)⟩
theorem wc_wide {c : Rat} {n : Nat} (h : Bq 208 c) (l : n ≤ 5) : Wc c n := by
  obtain ⟨b, e, hm⟩ := ex_of b6 h
  have hm : b.m = 255 := hm
  exact ⟨b, e, by rw [hm]; omega, by rw [hm]; omega, h.mono (by decide)⟩
theorem wc_low {c : Rat} {n : Nat} (h : Bq 21 c) (l : n ≤ 9) : Wc c n := by
  obtain ⟨b, e, hm⟩ := ex_of b6 h
  have hm : b.m = 68 := hm
  exact ⟨b, e, by rw [hm]; omega, by rw [hm]; omega, h.mono (by decide)⟩
section
variable {K : PySem.W.Frag} {C CU CN C1 : Addr} {H : Hp} {R : VK}
theorem at_lit {t : Addr} {u : Int} {l : Nat} {q : Rat} (h : H t = some (.tup [.int u, .int (l : Int)])) (e1 : q.num = u) (e2 : q.den = l) : Nq K H (.ref t) q := .at (by
  show _ = some (HO.tup [.int q.num, .int ((q.den : Nat) : Int)])
  rw [e1, e2]
  exact h)
theorem rd_pw {E : XK} {v tv : V} {us : List Rat} {t : Rat} (hX : RwAt K C H v us) (u0 : ser us 0 = 1) (hc : Nq K H tv t) (pc : PwC us t) (q : GivesR K C H R (pwL us t)) : spRpow K C CN C1 [v, tv] H R E :=
  ⟨v, tv, us, rfl, hX, fun n => absurd u0 n, fun _ => .inr ⟨t, hc, pc, q⟩⟩
theorem rd_lg {E : XK} {v : V} {us : List Rat} (hX : RwAt K C H v us) (u0 : ser us 0 = 1) (pc : LsC us) (q : GivesR K C H R (lgL us)) : spRlog K C C1 [v] H R E :=
  ⟨v, us, rfl, hX, fun n => absurd u0 n, fun _ => ⟨pc, q⟩⟩
theorem rd_mulR {E : XK} {x y : V} {qs rs : List Rat} (b : Bs) (e g : Nat) (hX : RwAt K C H x qs) (hY : RwAt K C H y rs) (l : qs.length = rs.length) (m : b.m * (e + g) ≤ 6000) (z : AllZ b e qs) (z' : AllZ b g rs) (q : GivesR K C H R (mulL qs rs)) : rBin C (spOpM K C CU) E x y H R := by
  obtain ⟨a, dx, fs, rfl, h1, _⟩ := hX.its
  obtain ⟨a', dy, gs, rfl, h2, _⟩ := hY.its
  exact ⟨a, a', dx, dy, fs, gs, rfl, rfl, h1, h2, .ref a, .ref a', qs, rs, rfl, hX, hY, fun n => absurd l n, fun _ => ⟨b, e, g, m, z, z', q⟩⟩
theorem rd_addR {E : XK} {x y : V} {qs rs : List Rat} (hX : RwAt K C H x qs) (hY : RwAt K C H y rs) (l : qs.length = rs.length) (z : AllB 4000 qs) (z' : AllB 4000 rs) (q : GivesR K C H R (qs.zipWith (· + ·) rs)) : rBin C (spOp K C CU 4000 (List.zipWith (· + ·))) E x y H R := by
  obtain ⟨a, dx, fs, rfl, h1, _⟩ := hX.its
  obtain ⟨a', dy, gs, rfl, h2, _⟩ := hY.its
  exact ⟨a, a', dx, dy, fs, gs, rfl, rfl, h1, h2, .ref a, .ref a', qs, rs, rfl, hX, hY, fun n => absurd l n, fun _ => ⟨z, z', q⟩⟩
theorem rd_nu {v : V} {us : List Rat} (h : RwAt K C H v us) (q : ∀ d H', Same H H' → Ls K H' (.ref d) us → R (.ref d) H') : ∃ (x dx : Addr) (fs : List (Str × V)), v = .ref x ∧ H x = some (.ins C dx fs) ∧ fs.lookup ("numbers" : Str) = none ∧ spNu K C [v] H R E0 := by
  obtain ⟨x, dx, fs, rfl, h1, h2, _⟩ := h.its
  exact ⟨x, dx, fs, rfl, h1, h2, .ref x, us, rfl, h, fun d H' zs s n e m => q d H' s ⟨d, zs, rfl, e, m⟩⟩
end
/-- what stands of the rows -/
structure Lw4 (K : PySem.W.Frag) (C : Addr) (T : List (Addr × Str)) (B p : Addr) (va vb vu vw vs : V) (us ws : List Rat) (s : Rat) (H : Hp) : Prop where
  b : Bag H B p
  t : LamX.Tabs T H
  la : Ls K H va us
  lb : Ls K H vb ws
  u : RwAt K C H vu us
  w : RwAt K C H vw ws
  s : Nq K H vs s
section
variable {K : PySem.W.Frag} {C : Addr} {T : List (Addr × Str)} {B p : Addr} {va vb vu vw vs : V} {us ws : List Rat} {s : Rat} {H H' : Hp}
theorem Lw4.same (j : Lw4 K C T B p va vb vu vw vs us ws s H) (e : Same H H') : Lw4 K C T B p va vb vu vw vs us ws s H' := ⟨j.b.same e, j.t.ext e, j.la.same e, j.lb.same e, j.u.same e, j.w.same e, j.s.same e⟩
theorem Lw4.go (j : Lw4 K C T B p va vb vu vw vs us ws s H) (l : 2 ≤ us.length) (l' : 2 ≤ ws.length) (b : Bag H' B p) (g : Go B H H') (t : LamX.Tabs T H') : Lw4 K C T B p va vb vu vw vs us ws s H' := ⟨b, t, j.la.go l j.b g, j.lb.go l' j.b g, j.u.go j.b g, j.w.go j.b g, j.s.go j.b g⟩
theorem Lw4.but (j : Lw4 K C T B p va vb vu vw vs us ws s H) (l : 2 ≤ us.length) (l' : 2 ≤ ws.length) (b : Bag H' B p) (u : But B H H') : Lw4 K C T B p va vb vu vw vs us ws s H' := j.go l l' b (Go.of u) (tabs_but j.t j.b u)
theorem Lw4.ext (j : Lw4 K C T B p va vb vu vw vs us ws s H) (t : LamX.Tabs T H') (e : LamX.ExtN H H') : Lw4 K C T B p va vb vu vw vs us ws s H' := ⟨j.b.ext e, t, j.la.ext e, j.lb.ext e, j.u.ext e, j.w.ext e, j.s.ext e⟩
end
section
variable {P : Program} {w : World} {K : PySem.W.Frag} {mg : Str → Option Value} {base : Heap} {f C S CF CO CU CE CN : Addr} {cs : Fin 3 → Addr} {fd : FuncData} {T : List (Addr × Str)}
theorem scLaw : FnScope nLaw ["_law_script"] (defScope L_law) := ⟨rfl, rfl, rfl, by decide +kernel, rfl, by decide +kernel, by decide +kernel⟩
theorem ok_law (F : Fun K "law" "law" L_law f fd) (U : Kit4 P w K mg base C S CF CO CU CE CN cs) (W : Kit5 P w K mg base C T) : FnOk P w K mg base CX0 12 f fd ["_law_script"] (spLaw K T) := by
  refine F.ok scLaw (fun vs H Q E h => ?_) (fun cdv A outer s H vs Q E hr h => ?_)
  · obtain ⟨a, ns, rfl, _⟩ := h
    rfl
  obtain ⟨a0, ns, rfl, ha0, hT, q⟩ := h
  have hr1 := hr.mono (show 1 ≤ 11 by decide)
  have hr2 := hr.mono (show 2 ≤ 11 by decide)
  have hr3 := hr.mono (show 3 ≤ 11 by decide)
  have hr4 := hr.mono (show 4 ≤ 11 by decide)
  have hr7 := hr.mono (show 7 ≤ 11 by decide)
  have hr8 := hr.mono (show 8 ≤ 11 by decide)
  have hr9 := hr.mono (show 9 ≤ 11 by decide)
  obtain ⟨fR, fdR, MR, FR, bR, bRK⟩ := U.rk.ini
  refine ⟨_, pss_cons (ps_set (i := 1) scLaw.nd rfl (Or.inl rfl) (pe_use W.bag hr1 rfl pass0 (pa_cons (pv 0) pa_nil)))
    (C8.pss_cut (ps_set (i := 2) scLaw.nd rfl (Or.inl rfl) (pe_use U.ofL hr2 rfl pass0 (pa_cons (pv 1) (pa_cons (pe_lst (pa_cons pe_int (pa_cons pe_int (pa_cons pe_int (pa_cons pe_int (pa_cons pe_int (pa_cons pe_int (pa_cons pe_int pa_nil)))))))) pa_nil))))
    (C8.pss_cut (ps_par (i := 3) (j := 4) rfl scLaw.nd rfl rfl (by decide) rfl rfl (pa_cons (pe_use U.row4 hr4 rfl pass0 (pa_cons (pv 1) (pa_cons (pv 2) (pa_cons (pe_tup (pa_cons pe_int (pa_cons pe_int pa_nil))) pa_nil)))) (pa_cons (pe_use U.row4 hr4 rfl pass0 (pa_cons (pv 1) (pa_cons (pv 2) (pa_cons (pe_tup (pa_cons pe_int (pa_cons pe_int pa_nil))) pa_nil)))) pa_nil)) rfl)
    (C8.pss_cut (ps_par (i := 5) (j := 6) rfl scLaw.nd rfl rfl (by decide) rfl rfl (pa_cons (pe_use U.sml hr3 rfl pass0 (pa_cons (pv 1) pa_nil)) (pa_cons (pe_use U.sml hr3 rfl pass0 (pa_cons (pv 1) pa_nil)) pa_nil)) rfl)
    (C8.pss_cut (ps_if (pt_cmpR op_eq (pe_use U.draw hr1 rfl pass0 (pa_cons (pv 1) (pa_cons pe_int pa_nil))) pe_int (nomark _)) (pss_one (ps_set (i := 6) scLaw.nd rfl (Or.inl rfl) (pe_ifExp (pt_cmpR op_lt (pv 2) pe_int (nomark _)) (pe_use U.wid hr4 rfl pass0 (pa_cons (pv 1) pa_nil)) (pe_use U.low hr1 rfl pass0 (pa_cons (pe_op op_add pe_int (pe_use U.draw hr1 rfl pass0 (pa_cons (pv 1) (pa_cons (pe_op op_pow pe_int pe_int) pa_nil)))) (pa_cons (pe_un un_neg pe_int) pa_nil)))))) pss_nil)
    (C8.pss_cut (ps_par (i := 7) (j := 8) rfl scLaw.nd rfl rfl (by decide) rfl rfl (pa_cons (pe_make (E := fun _ _ _ => False) MR FR hr7 rfl U.rk.m bR .nil passF (pa_cons (pv 3) pa_nil)) (pa_cons (pe_make (E := fun _ _ _ => False) MR FR hr7 rfl U.rk.m bR .nil passF (pa_cons (pv 4) pa_nil)) pa_nil)) rfl)
    (C8.pss_cut (ps_set (i := 9) scLaw.nd rfl (Or.inl rfl) (pe_use (E := fun _ _ _ => False) U.rpw hr8 rfl passF (pa_cons (pv 7) (pa_cons (pv 6) pa_nil))))
    (C8.pss_cut (ps_if (PW.pt (pw_or (pt_not (pt_val ((pe_callB call_isi rfl U.mI (by decide +kernel) (pa_cons (pv 9) (pa_cons (C8.pe_gc (v := .ref C) rfl ⟨_, U.rk.m, rfl⟩) pa_nil)))))) (pw_or (pt_not (pt_val (pe_use U.pso hr4 rfl pass0 (pa_cons (pe_mu0 U.rnum (pv 9) hr1 pass0) (pa_cons (pv 3) (pa_cons (pv 6) pa_nil)))))) (pw_or1 (pt_cmpR (op_neD hr.units) (pe_mu0 U.rnum (pe_useR (E := fun _ _ _ => False) (ks := ["t", "row"]) U.rpw hr8 rfl passF rfl (pk_cons (pv 6) (pk_cons (pv 7) pk_nil)) (by simp)) hr1 pass0) (pe_mu0 U.rnum (pv 9) hr1 pass0) (nomark _)))))) (pss_one (ps_ret pe_bl)) pss_nil)
    (C8.pss_cut (ps_set (i := 10) scLaw.nd rfl (Or.inl rfl) (pe_use (E := fun _ _ _ => False) U.rlg hr8 rfl passF (pa_cons (pv 7) pa_nil)))
    (C8.pss_cut (ps_if (PW.pt (pw_or (pt_not (pt_val ((pe_callB call_isi rfl U.mI (by decide +kernel) (pa_cons (pv 10) (pa_cons (C8.pe_gc (v := .ref C) rfl ⟨_, U.rk.m, rfl⟩) pa_nil)))))) (pw_or (pt_not (pt_val (pe_use U.lso hr4 rfl pass0 (pa_cons (pe_mu0 U.rnum (pv 10) hr1 pass0) (pa_cons (pv 3) pa_nil))))) (pw_or1 (pt_cmpR (op_neD hr.units) (pe_mu0 U.rnum (pe_useR (E := fun _ _ _ => False) (ks := ["row"]) U.rlg hr8 rfl passF rfl (pk_cons (pv 7) pk_nil) (by simp)) hr1 pass0) (pe_mu0 U.rnum (pv 10) hr1 pass0) (nomark _)))))) (pss_one (ps_ret pe_bl)) pss_nil)
    (C8.pss_cut (ps_if (PW.pt (pw_or (pt_cmpR (op_neD hr.units) (pe_mu0 U.rnum (pe_mu (E := fun _ _ _ => False) U.rsc (pv 10) hr8 passF (pa_cons (pv 6) pa_nil)) hr1 pass0) (pe_mu0 U.rnum (pe_use (E := fun _ _ _ => False) U.rlg hr8 rfl passF (pa_cons (pv 9) pa_nil)) hr1 pass0) (nomark _)) (pw_or1 (pt_not (pt_val (pe_use U.lso hr4 rfl pass0 (pa_cons (pe_mu0 U.rnum (pe_use (E := fun _ _ _ => False) U.rlg hr8 rfl passF (pa_cons (pv 8) pa_nil)) hr1 pass0) (pa_cons (pv 4) pa_nil)))))))) (pss_one (ps_ret pe_bl)) pss_nil)
    (C8.pss_cut (ps_if (pt_cmpR (op_neD hr.units) (pe_mu0 U.rnum (pe_use (E := fun _ _ _ => False) U.rlg hr8 rfl passF (pa_cons (pe_op (op_bin (E := fun _ _ _ => False) U.rmul rfl hr8 passF) (pv 7) (pv 8)) pa_nil)) hr1 pass0) (pe_mu0 U.rnum (pe_op (op_bin (E := fun _ _ _ => False) U.radd rfl hr8 passF) (pv 10) (pe_use (E := fun _ _ _ => False) U.rlg hr8 rfl passF (pa_cons (pv 8) pa_nil))) hr1 pass0) (nomark _)) (pss_one (ps_ret pe_bl)) pss_nil)
    (C8.pss_cut (ps_if (pt_cmpR (op_neD hr.units) (pe_mu0 U.rnum (pe_use (E := fun _ _ _ => False) U.rpw hr8 rfl passF (pa_cons (pe_op (op_bin (E := fun _ _ _ => False) U.rmul rfl hr8 passF) (pv 7) (pv 8)) (pa_cons (pv 5) pa_nil))) hr1 pass0) (pe_mu0 U.rnum (pe_op (op_bin (E := fun _ _ _ => False) U.rmul rfl hr8 passF) (pe_use (E := fun _ _ _ => False) U.rpw hr8 rfl passF (pa_cons (pv 7) (pa_cons (pv 5) pa_nil))) (pe_use (E := fun _ _ _ => False) U.rpw hr8 rfl passF (pa_cons (pv 8) (pa_cons (pv 5) pa_nil)))) hr1 pass0) (nomark _)) (pss_one (ps_ret pe_bl)) pss_nil)
    (C8.pss_cut (ps_set (i := 6) scLaw.nd rfl (Or.inl rfl) (pe_use U.sml hr3 rfl pass0 (pa_cons (pv 1) pa_nil)))
    (C8.pss_cut (ps_if (pt_cmpR (op_neD hr.units) (pe_mu0 U.rnum (pe_op (op_bin (E := fun _ _ _ => False) U.rmul rfl hr8 passF) (pe_use (E := fun _ _ _ => False) U.rpw hr8 rfl passF (pa_cons (pv 7) (pa_cons (pv 5) pa_nil))) (pe_use (E := fun _ _ _ => False) U.rpw hr8 rfl passF (pa_cons (pv 7) (pa_cons (pv 6) pa_nil)))) hr1 pass0) (pe_mu0 U.rnum (pe_use (E := fun _ _ _ => False) U.rpw hr8 rfl passF (pa_cons (pv 7) (pa_cons (pe_use U.add hr2 rfl pass0 (pa_cons (pv 5) (pa_cons (pv 6) pa_nil))) pa_nil))) hr1 pass0) (nomark _)) (pss_one (ps_ret pe_bl)) pss_nil)
    (C8.pss_cut (ps_if (pt_cmpR (op_neD hr.units) (pe_mu0 U.rnum (pe_use (E := fun _ _ _ => False) U.rpw hr8 rfl passF (pa_cons (pe_use (E := fun _ _ _ => False) U.rpw hr8 rfl passF (pa_cons (pv 7) (pa_cons (pv 5) pa_nil))) (pa_cons (pv 6) pa_nil))) hr1 pass0) (pe_mu0 U.rnum (pe_use (E := fun _ _ _ => False) U.rpw hr8 rfl passF (pa_cons (pv 7) (pa_cons (pe_use U.mul hr2 rfl pass0 (pa_cons (pv 5) (pa_cons (pv 6) pa_nil))) pa_nil))) hr1 pass0) (nomark _)) (pss_one (ps_ret pe_bl)) pss_nil)
    (C8.pss_cut (ps_if (PW.pt (pw_or (pt_not (pt_val (pe_use W.who hr9 rfl pass0 (pa_cons (pv 1) (pa_cons (pv 3) pa_nil))))) (pw_or (pt_not (pt_val (pe_use W.who hr9 rfl pass0 (pa_cons (pv 1) (pa_cons (pv 4) pa_nil))))) (pw_or1 (pt_not (pt_val (pe_use U.lik hr7 rfl pass0 (pa_cons (pe_lst (pa_cons (pe_mu0 U.rnum (pv 7) hr1 pass0) (pa_cons (pe_mu0 U.rnum (pv 8) hr1 pass0) pa_nil))) (pa_cons (pe_lst (pa_cons (pv 3) (pa_cons (pv 4) pa_nil))) pa_nil))))))))) (pss_one (ps_ret pe_bl)) pss_nil)
    (C8.pss_cut (ps_set (i := 11) scLaw.nd rfl (Or.inl rfl) (pe_use U.ofL hr2 rfl pass0 (pa_cons (pv 1) (pa_cons (pe_lst (pa_cons (pe_tup (pa_cons pe_int (pa_cons pe_int pa_nil))) (pa_cons (pe_tup (pa_cons (pe_un un_neg pe_int) (pa_cons pe_int pa_nil))) (pa_cons (pe_tup (pa_cons pe_int (pa_cons pe_int pa_nil))) (pa_cons (pe_tup (pa_cons pe_int (pa_cons pe_int pa_nil))) (pa_cons (pe_use U.num hr3 rfl pass0 (pa_cons (pv 1) pa_nil)) (pa_cons (pe_tup (pa_cons pe_int (pa_cons pe_int pa_nil))) pa_nil))))))) pa_nil))))
    (C8.pss_cut (ps_set (i := 12) scLaw.nd rfl (Or.inl rfl) (pe_use U.row4 hr4 rfl pass0 (pa_cons (pv 1) (pa_cons (pv 2) (pa_cons (pv 11) pa_nil)))))
    (pss_one (ps_ret (pe_and (pe_use W.bac hr rfl pass0 (pa_cons (pv 1) (pa_cons (pv 3) pa_nil))) (pe_and (pe_use W.bac hr rfl pass0 (pa_cons (pv 1) (pa_cons (pv 12) pa_nil))) (pe_and (pe_use W.rfd hr rfl pass0 (pa_cons (pv 1) (pa_cons (pv 12) pa_nil))) (pe_one (pe_use W.rfd hr rfl pass0 (pa_cons (pv 1) (pa_cons (pv 3) pa_nil))))))))))))))))))))))))))), ?_⟩
  refine ⟨_, rfl, a0, ns, rfl, ha0, fun H1 B p s1 nb hb => ?_⟩
  have T1 := hT.ext s1
  clear hT s1 ha0
  refine ⟨fun σ G => ∃ n : Nat, σ = [some (.ref a0), some (.ref B), some (.int (n : Nat)), none, none, none, none, none, none, none, none, none, none] ∧ Bag G B p ∧ LamX.Tabs T G ∧ 2 ≤ n ∧ n ≤ 8, ?_, ?_⟩
  · refine ⟨_, rfl, (by show 7 ≤ sizeLine; decide), fun l nl => ⟨B, p, l, _, rfl, upd_same, (hb.at nl).1, (by show 0 < 7; decide), (by show 7 ≤ 1000; decide), hb.put nl, fun H2 x b2 u2 hx => ?_⟩⟩
    have T2 := tabs_but T1 hb ((But.new nl).trans u2)
    simp only [List.mem_cons, List.not_mem_nil, or_false] at hx
    rcases hx with rfl | rfl | rfl | rfl | rfl | rfl | rfl
    · exact ⟨2, rfl, b2, T2, by decide, by decide⟩
    · exact ⟨3, rfl, b2, T2, by decide, by decide⟩
    · exact ⟨4, rfl, b2, T2, by decide, by decide⟩
    · exact ⟨5, rfl, b2, T2, by decide, by decide⟩
    · exact ⟨6, rfl, b2, T2, by decide, by decide⟩
    · exact ⟨7, rfl, b2, T2, by decide, by decide⟩
    · exact ⟨8, rfl, b2, T2, by decide, by decide⟩
  clear hb T1
  rintro σ G ⟨n, rfl, b0, T0, n2, n8⟩
  refine ⟨fun σ G => ∃ va vb us ws, σ = [some (.ref a0), some (.ref B), some (.int (n : Nat)), some va, some vb, none, none, none, none, none, none, none, none] ∧ Bag G B p ∧ LamX.Tabs T G ∧ Ls K G va us ∧ Ls K G vb ws ∧ us.length = n + 1 ∧ ws.length = n + 1 ∧ AllZ b6 1 us ∧ AllZ b6 1 ws ∧ ser us 0 = 1 ∧ ser ws 0 = 1, ?_, ?_⟩
  · refine ⟨_, rfl, _, rfl, (by show 2 ≤ sizeLine; decide), fun t1 n1 => ?_⟩
    have e1 : Nq K (upd G t1 (HO.tup [V.int 1, .int 1])) (.ref t1) 1 := .at (K := K) (show _ = some (rT 1) from upd_same)
    have s1 := new_same n1 (HO.tup [V.int 1, .int 1])
    refine ⟨B, p, n, .ref t1, 1, rfl, b0.same s1, n2, n8, e1, Zq.one1, fun G2 va us b2 u2 h2 l2 z2 f2 => ?_⟩
    have u12 := (But.same s1).trans u2
    refine ⟨_, rfl, _, rfl, (by show 2 ≤ sizeLine; decide), fun t3 n3 => ?_⟩
    have e3 : Nq K (upd G2 t3 (HO.tup [V.int 1, .int 1])) (.ref t3) 1 := .at (K := K) (show _ = some (rT 1) from upd_same)
    have s3 := new_same n3 (HO.tup [V.int 1, .int 1])
    refine ⟨B, p, n, .ref t3, 1, rfl, b2.same s3, n2, n8, e3, Zq.one1, fun G4 vb ws b4 u4 h4 l4 z4 f4 => ?_⟩
    have u34 := (But.same s3).trans u4
    exact ⟨_, _, rfl, va, vb, us, ws, rfl, b4, tabs_but (tabs_but T0 b0 u12) b2 u34, h2.go (by omega) b2 (Go.of u34), h4, l2, l4, z2, z4, f2, f4⟩
  clear b0 T0
  rintro σ G ⟨va, vb, us, ws, rfl, b0, T0, hA, hB, lu, lw, zu, zw, u0, w0⟩
  have l1 : 1 ≤ us.length := by omega
  have l2 : 2 ≤ us.length := by omega
  have l3 : 3 ≤ us.length := by omega
  have l9 : us.length ≤ 9 := by omega
  have m2 : 2 ≤ ws.length := by omega
  have lx : us.length = ws.length := by omega
  refine ⟨fun σ G => ∃ vs vc s c, σ = [some (.ref a0), some (.ref B), some (.int (n : Nat)), some va, some vb, some vs, some vc, none, none, none, none, none, none] ∧ Bag G B p ∧ LamX.Tabs T G ∧ Ls K G va us ∧ Ls K G vb ws ∧ Nq K G vs s ∧ SmT s ∧ Nq K G vc c ∧ Wc c us.length, ?_, ?_⟩
  · refine ⟨_, rfl, B, p, rfl, b0, fun G2 vs s b2 u2 hs ss => ?_⟩
    refine ⟨_, rfl, B, p, rfl, b2, fun G3 vc c b3 u3 hc sc => ?_⟩
    exact ⟨_, _, rfl, vs, vc, s, c, rfl, b3, tabs_but (tabs_but T0 b0 u2) b2 u3, (hA.go l2 b0 (Go.of u2)).go l2 b2 (Go.of u3), (hB.go m2 b0 (Go.of u2)).go m2 b2 (Go.of u3), hs.go b2 (Go.of u3), ss, hc, wc_small sc l9⟩
  clear b0 T0 hA hB
  rintro σ G ⟨vs, vc0, s, c0, rfl, b0, T0, hA, hB, hs, ss, hc0, wc0⟩
  refine ⟨fun σ G => ∃ vc c, σ = [some (.ref a0), some (.ref B), some (.int (n : Nat)), some va, some vb, some vs, some vc, none, none, none, none, none, none] ∧ Bag G B p ∧ LamX.Tabs T G ∧ Ls K G va us ∧ Ls K G vb ws ∧ Nq K G vs s ∧ Nq K G vc c ∧ Wc c us.length, ?_, ?_⟩
  · refine ⟨_, rfl, B, p, 6, rfl, by decide, by decide, b0, fun G2 k b2 u2 k0 k1 => ⟨rfl, _, rfl, ite2 (fun _ => ?_) (fun _ => ⟨vc0, c0, rfl, b2, tabs_but T0 b0 u2, hA.go l2 b0 (Go.of u2), hB.go m2 b0 (Go.of u2), hs.go b0 (Go.of u2), hc0.go b0 (Go.of u2), wc0⟩)⟩⟩
    refine ⟨_, rfl, (n : Nat), 5, rfl, rfl, _, rfl, ite2 (fun cc => ?_) (fun cc => ?_)⟩
    · have c5 : ((n : Nat) : Int) < 5 := of_decide_eq_true cc
      refine ⟨_, rfl, B, p, rfl, b2, fun G3 vc c b3 u3 hc hw => ?_⟩
      have uu := u2.trans u3
      exact ⟨vc, c, rfl, b3, tabs_but T0 b0 uu, hA.go l2 b0 (Go.of uu), hB.go m2 b0 (Go.of uu), hs.go b0 (Go.of uu), hc, wc_wide hw (by omega)⟩
    · refine ⟨_, rfl, 10, 6, rfl, rfl, ⟨by decide, by decide, by decide⟩, B, p, 1000000, rfl, by decide, by decide, b2, fun G3 k3 b3 u3 d0 d1 => ?_⟩
      refine ⟨1, k3, rfl, rfl, 7, rfl, 1 + k3, -7, rfl, by decide, by decide, fun t G4 s4 n4 e4 => ?_⟩
      have uu := (u2.trans u3).trans (But.same s4)
      have hd := div_bd (p := 1 + k3) (q := -7) (n := 20) (m := 3) (by decide) (by have : (2 : Nat) ^ 20 = 1048576 := rfl; omega) (by decide)
      exact ⟨_, _, rfl, b3.same s4, tabs_but T0 b0 uu, hA.go l2 b0 (Go.of uu), hB.go m2 b0 (Go.of uu), hs.go b0 (Go.of uu), .at e4, wc_low (Bq.mono (n := 20) ⟨hd.1, Nat.lt_trans hd.2 (by decide)⟩ (by decide)) l9⟩
  clear b0 T0 hA hB hs hc0 wc0
  rintro σ G ⟨vc, c, rfl, b0, T0, hA, hB, hs, hc, wc⟩
  refine ⟨fun σ G => ∃ vu vw, σ = [some (.ref a0), some (.ref B), some (.int (n : Nat)), some va, some vb, some vs, some vc, some vu, some vw, none, none, none, none] ∧ Lw4 K C T B p va vb vu vw vs us ws s G ∧ Nq K G vc c, ?_, ?_⟩
  · obtain ⟨a, xs, rfl, ha, nx⟩ := id hA
    obtain ⟨b, ys, rfl, hb, ny⟩ := id hB
    refine ⟨_, rfl, fun x dx xn dn en => row_newG (.inl ha) nx l3 (by omega) xn dn en fun G2 s2 hX => ⟨rfl, ?_⟩⟩
    clear xn dn en dx
    refine ⟨_, rfl, fun y dy xn dn en => row_newG (.inl (s2 _ _ hb)) (ny.same s2) (by omega) (by omega) xn dn en fun G3 s3 hY => ⟨rfl, ?_⟩⟩
    have s23 := s2.trans s3
    exact ⟨_, _, rfl, _, _, rfl, ⟨b0.same s23, T0.ext s23, hA.same s23, hB.same s23, hX.same s3, hY, hs.same s23⟩, hc.same s23⟩
  clear b0 T0 hA hB hs hc
  rintro σ G ⟨vu, vw, rfl, j, hc⟩
  -- what the weights say
  obtain ⟨bc, exc, wc1, wc2, bqc⟩ := wc
  have rw1 : RW b6 1 us := rw_of u0 zu
  have rw1' : RW b6 1 ws := rw_of w0 zw
  have pcC : PwC us c := pwC_of wide6 exc rw1 (by decide) l3 l9 bqc (Nat.le_trans (Nat.mul_le_mul_left _ (by omega)) wc1) (Nat.le_trans (Nat.mul_le_mul_left _ (by omega)) wc2)
  have rwC : RW bc 2 (pwL us c) := pw_w wide6 exc rw1 l1 l9
  have wbc := exc.wide wide6
  have lsC : LsC (pwL us c) := lsC_of wbc rwC (by decide) (by rw [pwL_len]; omega) (by rw [pwL_len]; exact Nat.le_trans (Nat.mul_le_mul_left _ (by omega)) wc1) (by rw [pwL_len]; exact wc2)
  have lsU : LsC us := lsC_of wide6 rw1 (by decide) (by omega) (by show 30 * _ ≤ 6000; omega) (by show 30 * _ ≤ 3900; omega)
  have lsW : LsC ws := lsC_of wide6 rw1' (by decide) (by omega) (by show 30 * _ ≤ 6000; omega) (by show 30 * _ ≤ 3900; omega)
  have p0 : ∀ t, ser (pwL us t) 0 = 1 := fun t => pw_zero t l1
  have lU : (lgL us).length = us.length := lgL_len l1
  have lW : (lgL ws).length = ws.length := lgL_len (by omega)
  have bU : AllB 4000 (lgL us) := lg_b4 rw1 wide6 l1 (by omega) (by show 30 * _ ≤ 3900; omega)
  have bW : AllB 4000 (lgL ws) := lg_b4 rw1' wide6 (by omega) (by omega) (by show 30 * _ ≤ 3900; omega)
  refine ⟨fun σ G => ∃ vt, σ = [some (.ref a0), some (.ref B), some (.int (n : Nat)), some va, some vb, some vs, some vc, some vu, some vw, some (.ref vt), none, none, none] ∧ Lw4 K C T B p va vb vu vw vs us ws s G ∧ Nq K G vc c ∧ RwAt K C G (.ref vt) (pwL us c), ?_, ?_⟩
  · refine ⟨_, rfl, _, rfl, rd_pw j.u u0 hc pcC fun G2 y s2 hy => ?_⟩
    obtain ⟨vt, _, _, rfl, _⟩ := hy.its
    exact ⟨vt, rfl, j.same s2, hc.same s2, hy⟩
  clear j hc
  rintro σ G ⟨vt, rfl, j0⟩
  let J1 : Hp → Prop := fun G => Lw4 K C T B p va vb vu vw vs us ws s G ∧ Nq K G vc c ∧ RwAt K C G (.ref vt) (pwL us c)
  have j1s : ∀ {G G'}, J1 G → Same G G' → J1 G' := fun ⟨a, b, c⟩ s => ⟨a.same s, b.same s, c.same s⟩
  have j0 : J1 G := j0
  refine ⟨fun σ G => σ = [some (.ref a0), some (.ref B), some (.int (n : Nat)), some va, some vb, some vs, some vc, some vu, some vw, some (.ref vt), none, none, none] ∧ J1 G, ?_, ?_⟩
  · obtain ⟨x, dx, fs, e, hx, _⟩ := j0.2.2.its
    obtain rfl := V.ref.inj e
    refine ⟨_, rfl, .ref vt, .ref C, .ref C, .ref C, true, rfl, .own C, U.rk.ty _ _ _ _ hx, U.rk.kit, _, rfl, iteF ?_⟩
    refine ⟨_, rfl, rd_nu j0.2.2 fun d G2 s2 hd => ?_⟩
    have j2 := j1s j0 s2
    refine ⟨_, rfl, _, rfl, .ref d, va, vc, us, c, bc, 2, rfl, hd, j2.1.la, j2.2.1, l3, by omega, bqc, wbc, by decide, (exc.rw rw1).mono (by decide), rwC, Nat.le_trans (Nat.mul_le_mul_left _ (by omega)) wc2, fun G3 s3 => ⟨_, rfl, iteF ?_⟩⟩
    have j3 := j1s j2 s3
    refine ⟨_, rfl, _, rfl, rfl, rd_pw j3.1.u u0 j3.2.1 pcC fun G4 y s4 hy => rd_nu hy fun d2 G5 s5 h5 => ?_⟩
    have j5 := j1s j3 (s4.trans s5)
    refine ⟨_, rfl, rd_nu j5.2.2 fun d3 G6 s6 h6 => ?_⟩
    refine ⟨datL _, datL _, (h5.same s6).dp, h6.dp, shaped_list _, shaped_list _, _, rfl, ?_⟩
    rw [eqv_list, decide_eq_true rfl]
    exact iteF ⟨rfl, j1s j5 s6⟩
  clear j0
  rintro σ G ⟨rfl, j0⟩
  refine ⟨fun σ G => ∃ vl, σ = [some (.ref a0), some (.ref B), some (.int (n : Nat)), some va, some vb, some vs, some vc, some vu, some vw, some (.ref vt), some (.ref vl), none, none] ∧ J1 G ∧ RwAt K C G (.ref vl) (lgL us), ?_, ?_⟩
  · refine ⟨_, rfl, rd_lg j0.1.u u0 lsU fun G2 y s2 hy => ?_⟩
    obtain ⟨vl, _, _, rfl, _⟩ := hy.its
    exact ⟨vl, rfl, j1s j0 s2, hy⟩
  clear j0
  rintro σ G ⟨vl, rfl, j0⟩
  let J2 : Hp → Prop := fun G => J1 G ∧ RwAt K C G (.ref vl) (lgL us)
  have j2s : ∀ {G G'}, J2 G → Same G G' → J2 G' := fun ⟨a, b⟩ s => ⟨j1s a s, b.same s⟩
  have j0 : J2 G := j0
  refine ⟨fun σ G => σ = [some (.ref a0), some (.ref B), some (.int (n : Nat)), some va, some vb, some vs, some vc, some vu, some vw, some (.ref vt), some (.ref vl), none, none] ∧ J2 G, ?_, ?_⟩
  · obtain ⟨x, dx, fs, e, hx, _⟩ := j0.2.its
    obtain rfl := V.ref.inj e
    refine ⟨_, rfl, .ref vl, .ref C, .ref C, .ref C, true, rfl, .own C, U.rk.ty _ _ _ _ hx, U.rk.kit, _, rfl, iteF ?_⟩
    refine ⟨_, rfl, rd_nu j0.2 fun d G2 s2 hd => ?_⟩
    have j2 := j2s j0 s2
    refine ⟨_, rfl, .ref d, va, us, b6, 1, rfl, hd, j2.1.1.la, l3, by omega, wide6, by decide, rw1, by show 30 * _ ≤ 3900; omega, fun G3 s3 => ⟨_, rfl, iteF ?_⟩⟩
    have j3 := j2s j2 s3
    refine ⟨_, rfl, rfl, rd_lg j3.1.1.u u0 lsU fun G4 y s4 hy => rd_nu hy fun d2 G5 s5 h5 => ?_⟩
    have j5 := j2s j3 (s4.trans s5)
    refine ⟨_, rfl, rd_nu j5.2 fun d3 G6 s6 h6 => ?_⟩
    refine ⟨datL _, datL _, (h5.same s6).dp, h6.dp, shaped_list _, shaped_list _, _, rfl, ?_⟩
    rw [eqv_list, decide_eq_true rfl]
    exact iteF ⟨rfl, j2s j5 s6⟩
  clear j0
  rintro σ G ⟨rfl, j0⟩
  refine ⟨fun σ G => σ = [some (.ref a0), some (.ref B), some (.int (n : Nat)), some va, some vb, some vs, some vc, some vu, some vw, some (.ref vt), some (.ref vl), none, none] ∧ J2 G, ?_, ?_⟩
  · obtain ⟨x, dx, fs, e, hx, _, _, hx3⟩ := j0.2.its
    obtain rfl := V.ref.inj e
    refine ⟨_, rfl, vl, dx, fs, rfl, hx, hx3, _, rfl, .ref vl, vc, lgL us, true, rfl, j0.2, j0.1.2.1.isG, fun z => Bool.noConfusion z, fun _ => ⟨c, j0.1.2.1, bU, bqc, fun G2 y s2 hy => ?_⟩⟩
    refine rd_nu hy fun d2 G3 s3 h3 => ?_
    have j3 := j2s j0 (s2.trans s3)
    refine ⟨_, rfl, rd_lg j3.1.2.2 (p0 c) lsC fun G4 y s4 hy => rd_nu hy fun d4 G5 s5 h5 => ?_⟩
    have j5 := j2s j3 (s4.trans s5)
    refine ⟨datL _, datL _, (h3.same (s4.trans s5)).dp, h5.dp, shaped_list _, shaped_list _, _, rfl, ?_⟩
    rw [eqv_list, lg_pw c l1, decide_eq_true rfl]
    refine iteF ⟨_, rfl, rd_lg j5.1.1.w w0 lsW fun G6 y s6 hy => rd_nu hy fun d6 G7 s7 h7 => ?_⟩
    have j7 := j2s j5 (s6.trans s7)
    exact ⟨_, rfl, .ref d6, vb, ws, b6, 1, rfl, h7, j7.1.1.lb, by omega, by omega, wide6, by decide, rw1', by show 30 * _ ≤ 3900; omega, fun G8 s8 => ⟨_, rfl, iteF ⟨rfl, j2s j7 s8⟩⟩⟩
  clear j0
  rintro σ G ⟨rfl, j0⟩
  have zm : AllZ b6 2 (mulL us ws) := mulL_z zu zw (by omega)
  have lm : (mulL us ws).length = us.length := mulL_len' us ws
  have m0 : ser (mulL us ws) 0 = 1 := by rw [mul_zero0 l1, u0, w0]; decide +kernel
  have rw2 : RW b6 2 (mulL us ws) := rw_of m0 zm
  have lsM : LsC (mulL us ws) := lsC_of wide6 rw2 (by decide) (by omega) (by show 30 * _ ≤ 6000; omega) (by show 30 * _ ≤ 3900; omega)
  refine ⟨fun σ G => σ = [some (.ref a0), some (.ref B), some (.int (n : Nat)), some va, some vb, some vs, some vc, some vu, some vw, some (.ref vt), some (.ref vl), none, none] ∧ J2 G, ?_, ?_⟩
  · refine ⟨_, rfl, _, rfl, rd_mulR b6 1 1 j0.1.1.u j0.1.1.w lx (by decide) zu zw fun G2 y s2 hy => ?_⟩
    refine rd_lg hy m0 lsM fun G3 y3 s3 h3 => rd_nu h3 fun d4 G4 s4 h4 => ?_
    have j4 := j2s j0 (s2.trans (s3.trans s4))
    refine ⟨_, rfl, _, rfl, rd_lg j4.1.1.w w0 lsW fun G5 y5 s5 h5 => ?_⟩
    refine rd_addR (j4.2.same s5) h5 (by rw [lU, lW, lx]) bU bW fun G6 y6 s6 h6 => rd_nu h6 fun d7 G7 s7 h7 => ?_
    have s57 := s5.trans (s6.trans s7)
    refine ⟨datL _, datL _, (h4.same s57).dp, h7.dp, shaped_list _, shaped_list _, _, rfl, ?_⟩
    rw [eqv_list, lg_mul lx l1 u0 w0, decide_eq_true rfl]
    exact iteF ⟨rfl, j2s j4 s57⟩
  clear j0
  rintro σ G ⟨rfl, j0⟩
  have wX : Wide (bX b6) := (ss.s.ex b6).wide wide6
  have pwM : PwC (mulL us ws) s := pwC_of wide6 (ss.s.ex b6) rw2 (by decide) (by omega) (by omega) (ss.s.bq.mono (by decide)) (by show 57 * _ ≤ 6000; omega) (by show 57 * _ ≤ 3900; omega)
  have pwS : ∀ {us : List Rat} {t : Rat}, RW b6 1 us → S144 t → 3 ≤ us.length → us.length ≤ 9 → PwC us t := fun h st l3 l9 => pwC_of wide6 (st.ex b6) h (by decide) l3 l9 (st.bq.mono (by decide)) (by show 57 * _ ≤ 6000; omega) (by show 57 * _ ≤ 3900; omega)
  have rwS : ∀ {us : List Rat} {t : Rat}, RW b6 1 us → S144 t → 1 ≤ us.length → us.length ≤ 9 → RW (bX b6) 2 (pwL us t) := fun h st l1 l9 => pw_w wide6 (st.ex b6) h l1 l9
  have zS : ∀ {us : List Rat} {t : Rat}, RW b6 1 us → S144 t → 1 ≤ us.length → us.length ≤ 9 → AllZ (bX b6) 18 (pwL us t) := fun h st l1 l9 => ((rwS h st l1 l9).all (by decide)).mono (by rw [pwL_len]; omega)
  refine ⟨fun σ G => σ = [some (.ref a0), some (.ref B), some (.int (n : Nat)), some va, some vb, some vs, some vc, some vu, some vw, some (.ref vt), some (.ref vl), none, none] ∧ J2 G, ?_, ?_⟩
  · refine ⟨_, rfl, _, rfl, rd_mulR b6 1 1 j0.1.1.u j0.1.1.w lx (by decide) zu zw fun G2 y s2 hy => ?_⟩
    refine ⟨_, rfl, rd_pw hy m0 (j0.1.1.s.same s2) pwM fun G3 y3 s3 h3 => rd_nu h3 fun d4 G4 s4 h4 => ?_⟩
    have j4 := j2s j0 (s2.trans (s3.trans s4))
    refine ⟨_, rfl, _, rfl, rd_pw j4.1.1.u u0 j4.1.1.s (pwS rw1 ss.s l3 l9) fun G5 y5 s5 h5 => ?_⟩
    have j5 := j2s j4 s5
    refine ⟨_, rfl, _, rfl, rd_pw j5.1.1.w w0 j5.1.1.s (pwS rw1' ss.s (by omega) (by omega)) fun G6 y6 s6 h6 => ?_⟩
    refine rd_mulR (bX b6) 18 18 (h5.same s6) h6 (by rw [pwL_len, pwL_len, lx]) (by decide) (zS rw1 ss.s l1 l9) (zS rw1' ss.s (by omega) (by omega)) fun G7 y7 s7 h7 => rd_nu h7 fun d8 G8 s8 h8 => ?_
    have s58 := s5.trans (s6.trans (s7.trans s8))
    refine ⟨datL _, datL _, (h4.same s58).dp, h8.dp, shaped_list _, shaped_list _, _, rfl, ?_⟩
    rw [eqv_list, pw_mul s lx l1 u0 w0, decide_eq_true rfl]
    exact iteF ⟨rfl, j2s j4 s58⟩
  clear pcC rwC wbc lsC exc wc1 wc2 bqc bc lsU lsW lU lW bU bW pwM lsM
  rintro σ G ⟨rfl, j0⟩
  replace j0 := j0.1.1
  clear j1s j2s
  refine ⟨fun σ G => ∃ vc c, σ = [some (.ref a0), some (.ref B), some (.int (n : Nat)), some va, some vb, some vs, some vc, some vu, some vw, some (.ref vt), some (.ref vl), none, none] ∧ Lw4 K C T B p va vb vu vw vs us ws s G ∧ Nq K G vc c ∧ SmT c, ?_, ?_⟩
  · exact ⟨_, rfl, B, p, rfl, j0.b, fun G2 vc c b2 u2 hc sc => ⟨vc, c, rfl, j0.but l2 m2 b2 u2, hc, sc⟩⟩
  clear j0
  rintro σ G ⟨vc, c, rfl, j0, hc, sc⟩
  refine ⟨fun σ G => σ = [some (.ref a0), some (.ref B), some (.int (n : Nat)), some va, some vb, some vs, some vc, some vu, some vw, some (.ref vt), some (.ref vl), none, none] ∧ Lw4 K C T B p va vb vu vw vs us ws s G ∧ Nq K G vc c, ?_, ?_⟩
  · refine ⟨_, rfl, _, rfl, rd_pw j0.u u0 j0.s (pwS rw1 ss.s l3 l9) fun G2 y2 s2 h2 => ?_⟩
    have j2 := j0.same s2
    refine ⟨_, rfl, _, rfl, rd_pw j2.u u0 (hc.same s2) (pwS rw1 sc.s l3 l9) fun G3 y3 s3 h3 => ?_⟩
    refine rd_mulR (bX b6) 18 18 (h2.same s3) h3 (by rw [pwL_len, pwL_len]) (by decide) (zS rw1 ss.s l1 l9) (zS rw1 sc.s l1 l9) fun G4 y4 s4 h4 => rd_nu h4 fun d5 G5 s5 h5 => ?_
    have s35 := s3.trans (s4.trans s5)
    have j5 := j2.same s35
    have c5 := (hc.same s2).same s35
    refine ⟨_, rfl, _, rfl, _, rfl, vs, vc, s, c, rfl, j5.s, c5, ss.s.bq.mono (by decide), sc.s.bq.mono (by decide), fun t6 G6 s6 n6 e6 => ?_⟩
    have j6 := j5.same s6
    refine rd_pw j6.u u0 (.at e6) (pwS rw1 (ss.add sc) l3 l9) fun G7 y7 s7 h7 => rd_nu h7 fun d8 G8 s8 h8 => ?_
    have s68 := s6.trans (s7.trans s8)
    refine ⟨datL _, datL _, (h5.same s68).dp, h8.dp, shaped_list _, shaped_list _, _, rfl, ?_⟩
    rw [eqv_list, pw_add s c l1, decide_eq_true rfl]
    exact iteF ⟨rfl, j5.same s68, c5.same s68⟩
  clear j0 hc
  rintro σ G ⟨rfl, j0, hc⟩
  refine ⟨fun σ G => σ = [some (.ref a0), some (.ref B), some (.int (n : Nat)), some va, some vb, some vs, some vc, some vu, some vw, some (.ref vt), some (.ref vl), none, none] ∧ Lw4 K C T B p va vb vu vw vs us ws s G, ?_, ?_⟩
  · refine ⟨_, rfl, _, rfl, rd_pw j0.u u0 j0.s (pwS rw1 ss.s l3 l9) fun G2 y2 s2 h2 => ?_⟩
    have pp : PwC (pwL us s) c := pwC_of wX (sc.s.ex (bX b6)) (rwS rw1 ss.s l1 l9) (by decide) (by rw [pwL_len]; exact l3) (by rw [pwL_len]; exact l9) (sc.s.bq.mono (by decide)) (by rw [pwL_len]; show 84 * _ ≤ 6000; omega) (by rw [pwL_len]; show 84 * _ ≤ 3900; omega)
    refine ⟨_, rfl, rd_pw h2 (p0 s) (hc.same s2) pp fun G4 y4 s4 h4 => rd_nu h4 fun d5 G5 s5 h5 => ?_⟩
    have s25 := s2.trans (s4.trans s5)
    have j5 := j0.same s25
    have c5 := hc.same s25
    refine ⟨_, rfl, _, rfl, _, rfl, vs, vc, s, c, rfl, j5.s, c5, ss.s.bq.mono (by decide), sc.s.bq.mono (by decide), fun t6 G6 s6 n6 e6 => ?_⟩
    have j6 := j5.same s6
    refine rd_pw j6.u u0 (.at e6) (pwS rw1 (ss.mul sc) l3 l9) fun G7 y7 s7 h7 => rd_nu h7 fun d8 G8 s8 h8 => ?_
    have s68 := s6.trans (s7.trans s8)
    refine ⟨datL _, datL _, (h5.same s68).dp, h8.dp, shaped_list _, shaped_list _, _, rfl, ?_⟩
    rw [eqv_list, pw_pw s c l1, decide_eq_true rfl]
    exact iteF ⟨rfl, j5.same s68⟩
  clear j0 hc
  rintro σ G ⟨rfl, j0⟩
  refine ⟨fun σ G => σ = [some (.ref a0), some (.ref B), some (.int (n : Nat)), some va, some vb, some vs, some vc, some vu, some vw, some (.ref vt), some (.ref vl), none, none] ∧ Lw4 K C T B p va vb vu vw vs us ws s G, ?_, ?_⟩
  · refine ⟨_, rfl, _, rfl, B, p, va, us, rfl, j0.b, j0.la, l3, l9, zu, u0, fun G2 b2 u2 => ⟨_, rfl, iteF ?_⟩⟩
    have j2 := j0.but l2 m2 b2 u2
    refine ⟨_, rfl, _, rfl, B, p, vb, ws, rfl, j2.b, j2.lb, by omega, by omega, zw, w0, fun G3 b3 u3 => ⟨_, rfl, iteF ?_⟩⟩
    have j3 := j2.but l2 m2 b3 u3
    refine ⟨_, rfl, rd_nu j3.u fun d4 G4 s4 h4 => ?_⟩
    refine ⟨_, rfl, rd_nu (j3.w.same s4) fun d5 G5 s5 h5 => ⟨(by show 2 ≤ sizeLine; decide), fun l6 n6 => ?_⟩⟩
    have s6 := new_same n6 (HO.lst [V.ref d4, .ref d5])
    refine ⟨_, rfl, _, rfl, (by show 2 ≤ sizeLine; decide), fun l7 n7 => ?_⟩
    have s7 := new_same n7 (HO.lst [va, vb])
    have s67 := s6.trans s7
    have j7 := (j3.same s4).same (s5.trans s67)
    exact ⟨_, _, rfl, Lk.lst (n := 4) (s7 _ _ upd_same) upd_same (by show 2 ≤ 60; decide) (.cons (Ls.lk (n := 2) (h4.same (s5.trans s67)) j7.la (by omega)) (.cons (Ls.lk (n := 2) (h5.same s67) j7.lb (by omega)) .nil)), fun H' s' => ⟨_, rfl, iteF ⟨rfl, j7.same s'⟩⟩⟩
  clear j0
  rintro σ G ⟨rfl, j0⟩
  refine ⟨fun σ G => ∃ v1 q1, σ = [some (.ref a0), some (.ref B), some (.int (n : Nat)), some va, some vb, some vs, some vc, some vu, some vw, some (.ref vt), some (.ref vl), some v1, none] ∧ Lw4 K C T B p va vb vu vw vs us ws s G ∧ Nq K G v1 q1 ∧ Zq b6 1 q1, ?_, ?_⟩
  · refine ⟨_, rfl, (by show 2 ≤ sizeLine; decide), fun t1 n1 => ⟨_, rfl, (by show 2 ≤ sizeLine; decide), fun t2 nn2 => ⟨(by show 2 ≤ sizeLine; decide), fun t3 n3 => ⟨(by show 2 ≤ sizeLine; decide), fun t4 n4 => ?_⟩⟩⟩⟩
    have s1 := new_same n1 (HO.tup [V.int 0, .int 1])
    have s2 := new_same nn2 (HO.tup [V.int (-1), .int 1])
    have s3 := new_same n3 (HO.tup [V.int 2, .int 1])
    have s4 := new_same n4 (HO.tup [V.int 1, .int 2])
    have k1 : Nq K _ (.ref t1) 0 := (at_lit (K := K) (show upd G t1 (HO.tup [V.int 0, .int 1]) t1 = some (HO.tup [V.int 0, .int ((1 : Nat) : Int)]) from upd_same) (by decide +kernel) (by decide +kernel)).same (s2.trans (s3.trans s4))
    have k2 : Nq K _ (.ref t2) (-1) := (at_lit (K := K) (show upd _ t2 (HO.tup [V.int (-1), .int 1]) t2 = some (HO.tup [V.int (-1), .int ((1 : Nat) : Int)]) from upd_same) (by decide +kernel) (by decide +kernel)).same (s3.trans s4)
    have k3 : Nq K _ (.ref t3) 2 := (at_lit (K := K) (show upd _ t3 (HO.tup [V.int 2, .int 1]) t3 = some (HO.tup [V.int 2, .int ((1 : Nat) : Int)]) from upd_same) (by decide +kernel) (by decide +kernel)).same s4
    have k4 : Nq K _ (.ref t4) (1 / 2) := at_lit (K := K) (show upd (upd (upd (upd G t1 (HO.tup [V.int 0, .int 1])) t2 (HO.tup [V.int (-1), .int 1])) t3 (HO.tup [V.int 2, .int 1])) t4 (HO.tup [V.int 1, .int 2]) t4 = some (HO.tup [V.int 1, .int ((2 : Nat) : Int)]) from upd_same) (by decide +kernel) (by decide +kernel)
    have j4 := j0.same (s1.trans (s2.trans (s3.trans s4)))
    generalize upd (upd (upd (upd G t1 (HO.tup [V.int 0, .int 1])) t2 (HO.tup [V.int (-1), .int 1])) t3 (HO.tup [V.int 2, .int 1])) t4 (HO.tup [V.int 1, .int 2]) = G4 at k1 k2 k3 k4 j4 ⊢
    clear j0 s1 s2 s3 s4
    refine ⟨_, rfl, B, p, rfl, j4.b, fun G5 v5 q5 b5 u5 k5 z5 => ⟨(by show 2 ≤ sizeLine; decide), fun t6 n6 => ⟨(by show 6 ≤ sizeLine; decide), fun l nl => ?_⟩⟩⟩
    have j5 := j4.but l2 m2 b5 u5
    have k1 := k1.go j4.b (Go.of u5)
    have k2 := k2.go j4.b (Go.of u5)
    have k3 := k3.go j4.b (Go.of u5)
    have k4 := k4.go j4.b (Go.of u5)
    have s6 := new_same n6 (HO.tup [V.int 1, .int 1])
    have k6 : Nq K _ (.ref t6) 1 := at_lit (K := K) (show upd G5 t6 (HO.tup [V.int 1, .int 1]) t6 = some (HO.tup [V.int 1, .int ((1 : Nat) : Int)]) from upd_same) (by decide +kernel) (by decide +kernel)
    have s7 := new_same nl (HO.lst [V.ref t1, .ref t2, .ref t3, .ref t4, v5, .ref t6])
    have s67 := s6.trans s7
    have b6' := j5.b.same s6
    refine ⟨B, p, l, _, rfl, upd_same, (b6'.at nl).1, (by show 0 < 6; decide), (by show 6 ≤ 1000; decide), b6'.put nl, fun G8 x b8 u8 hx => ?_⟩
    have j7 := j5.same s67
    have j8 := j7.but l2 m2 b8 u8
    have up : ∀ {v : V} {q : Rat}, Nq K G5 v q → Nq K G8 v q := fun h => (h.same s67).go j7.b (Go.of u8)
    simp only [List.mem_cons, List.not_mem_nil, or_false] at hx
    have zz : ∀ {q : Rat}, q.num.natAbs < 2 ^ 21 ∧ q.den < 2 ^ 21 → q.den ∣ 6 → Zq b6 1 q := fun h d => Zq.num h d
    rcases hx with rfl | rfl | rfl | rfl | rfl | rfl
    · exact ⟨_, _, rfl, j8, up k1, zz (by decide +kernel) (by decide +kernel)⟩
    · exact ⟨_, _, rfl, j8, up k2, zz (by decide +kernel) (by decide +kernel)⟩
    · exact ⟨_, _, rfl, j8, up k3, zz (by decide +kernel) (by decide +kernel)⟩
    · exact ⟨_, _, rfl, j8, up k4, zz (by decide +kernel) (by decide +kernel)⟩
    · exact ⟨_, _, rfl, j8, up k5, z5⟩
    · exact ⟨_, _, rfl, j8, (k6.same s7).go j7.b (Go.of u8), Zq.one1⟩
  clear j0
  rintro σ G ⟨v1, q1, rfl, j0, h1, z1⟩
  refine ⟨fun σ G => ∃ vd ds, σ = [some (.ref a0), some (.ref B), some (.int (n : Nat)), some va, some vb, some vs, some vc, some vu, some vw, some (.ref vt), some (.ref vl), some v1, some vd] ∧ Lw4 K C T B p va vb vu vw vs us ws s G ∧ Ls K G vd ds ∧ ds.length = n + 1 ∧ AllZ b6 1 ds, ?_, ?_⟩
  · exact ⟨_, rfl, _, rfl, _, rfl, B, p, n, v1, q1, rfl, j0.b, n2, n8, h1, z1, fun G2 vd ds b2 u2 hd ld zd _ => ⟨vd, ds, rfl, j0.but l2 m2 b2 u2, hd, ld, zd⟩⟩
  clear j0 h1
  rintro σ G ⟨vd, ds, rfl, j0, hd, ld, zd⟩
  refine ⟨_, rfl, _, rfl, .ref B, va, us, rfl, j0.la, l3, l9, zu, j0.t, fun G2 t2 e2 => ⟨_, rfl, iteT ?_⟩⟩
  have j2 := j0.ext t2 e2
  have hd := hd.ext e2
  refine ⟨_, rfl, _, rfl, .ref B, vd, ds, rfl, hd, by omega, by omega, zd, j2.t, fun G3 t3 e3 => ⟨_, rfl, iteT ?_⟩⟩
  have j3 := j2.ext t3 e3
  have hd := hd.ext e3
  refine ⟨_, rfl, _, rfl, B, p, vd, ds, rfl, j3.b, hd, by omega, by omega, zd, j3.t, fun G4 b4 g4 t4 => ⟨_, rfl, iteT ?_⟩⟩
  have j4 := j3.go l2 m2 b4 g4 t4
  exact ⟨_, rfl, _, rfl, B, p, va, us, rfl, j4.b, j4.la, l3, l9, zu, j4.t, fun G5 b5 g5 t5 => q _⟩
end
end Kx
end
section
set_option maxHeartbeats 4000000
namespace Kx
open PySem PySem.Spec PyProof.Rows L2
theorem kpB_ok {K : PySem.W.Frag} {a : Addr} {x y : Int} (h : kpB K a x y = true) : KP K a x y := by
  unfold kpB at h
  split at h
  · rename_i c d its n sl q
    obtain ⟨h1, h⟩ := He.ba h
    obtain ⟨h2, h3⟩ := He.ba h
    exact ⟨_, its, n, q, congrArg Value.type (of_decide_eq_true h1), rfl, of_decide_eq_true h2, He.relAll_ok h3⟩
  · cases h
theorem owB_ok {K : PySem.W.Frag} {C iA sA gA : Addr} {m : Str} {ns : List Str} (h : owB K C iA sA gA m ns = true) (hk : PySem.W.keepIn K (.ref gA) = true) :
    Cls K C ∧ (∀ n ∈ ns, NoAttr K C n) ∧ Mk K C iA ∧ ClX.CRead K C (.type "type") ∧ CSta K C (.type "type") m sA gA ∧ ∀ (H : Hp) a dx fs, H a = some (.ins C dx fs) → TyX K H (.ref a) (.ref C) := by
  unfold owB at h
  obtain ⟨a1, h⟩ := He.ba h
  obtain ⟨a2, h⟩ := He.ba h
  obtain ⟨a3, h⟩ := He.ba h
  obtain ⟨a4, h⟩ := He.ba h
  obtain ⟨a5, h⟩ := He.ba h
  obtain ⟨a6, h⟩ := He.ba h
  obtain ⟨a7, h⟩ := He.ba h
  obtain ⟨a8, h⟩ := He.ba h
  obtain ⟨a9, h⟩ := He.ba h
  obtain ⟨b1, h⟩ := He.ba h
  obtain ⟨b2, h⟩ := He.ba h
  obtain ⟨b3, h⟩ := He.ba h
  obtain ⟨b4, h⟩ := He.ba h
  obtain ⟨b5, h⟩ := He.ba h
  obtain ⟨b6, h⟩ := He.ba h
  obtain ⟨b7, h⟩ := He.ba h
  obtain ⟨b8, b9⟩ := He.ba h
  have cls : Cls K C := ⟨a1, a2, a3, He.eqO_ok a4⟩
  obtain ⟨w1, w2⟩ := He5.wrapB_ok b1
  rw [of_decide_eq_true b2] at w1 w2
  rw [of_decide_eq_true b3] at w2
  exact ⟨cls, fun n hn => He.eqO_ok (List.all_eq_true.mp a5 n hn), ⟨a6, He.eqO_ok a7, a8, a9⟩, ⟨b4, He.eqO_ok b5⟩, ⟨w1, w2, hk⟩,
    fun H a dx fs e => .base (.ins e cls (He.eqO_ok b6) (He.eqO_ok b7) (of_decide_eq_true b8) (of_decide_eq_true b9))⟩
theorem owT_ok {K : PySem.W.Frag} {C iA : Addr} {ns : List Str} (h : owT K C iA ns = true) :
    Cls K C ∧ (∀ n ∈ ns, NoAttr K C n) ∧ Mk K C iA ∧ ∀ (H : Hp) a dx fs, H a = some (.ins C dx fs) → TyX K H (.ref a) (.ref C) := by
  unfold owT at h
  obtain ⟨a1, h⟩ := He.ba h
  obtain ⟨a2, h⟩ := He.ba h
  obtain ⟨a3, h⟩ := He.ba h
  obtain ⟨a4, h⟩ := He.ba h
  obtain ⟨a5, h⟩ := He.ba h
  obtain ⟨a6, h⟩ := He.ba h
  obtain ⟨a7, h⟩ := He.ba h
  obtain ⟨a8, h⟩ := He.ba h
  obtain ⟨a9, h⟩ := He.ba h
  obtain ⟨b6, h⟩ := He.ba h
  obtain ⟨b7, h⟩ := He.ba h
  obtain ⟨b8, b9⟩ := He.ba h
  have cls : Cls K C := ⟨a1, a2, a3, He.eqO_ok a4⟩
  exact ⟨cls, fun n hn => He.eqO_ok (List.all_eq_true.mp a5 n hn), ⟨a6, He.eqO_ok a7, a8, a9⟩,
    fun H a dx fs e => .base (.ins e cls (He.eqO_ok b6) (He.eqO_ok b7) (of_decide_eq_true b8) (of_decide_eq_true b9))⟩
theorem ecB_ok {K : PySem.W.Frag} {C iA : Addr} {mb : List Value} {nw : String} {ns : List Str} (h : ecB K C iA mb nw ns = true) (hb : ∃ B iid, ExcBaseFacts B nw iid mb ∧ StoreFacts B mb "object.__setattr__" "object") :
    XC K C ∧ PySem.W.typeIn K (.ref C) = some (.type "type") ∧ PySem.W.findIn K (.ref C) "__init__" = some (some (.ref iA)) ∧ PySem.W.isFn K (.ref iA) = true ∧ ∀ n ∈ ns, PySem.W.findIn K (.ref C) n = some none := by
  unfold ecB at h
  obtain ⟨B, iid, FB, SF⟩ := hb
  obtain ⟨a1, h⟩ := He.ba h
  obtain ⟨a2, h⟩ := He.ba h
  obtain ⟨a3, h⟩ := He.ba h
  obtain ⟨a4, h⟩ := He.ba h
  obtain ⟨a5, h⟩ := He.ba h
  obtain ⟨a6, h⟩ := He.ba h
  obtain ⟨a7, h⟩ := He.ba h
  obtain ⟨a8, h⟩ := He.ba h
  obtain ⟨a9, h⟩ := He.ba h
  obtain ⟨b1, h⟩ := He.ba h
  obtain ⟨b2, h⟩ := He.ba h
  obtain ⟨b3, h⟩ := He.ba h
  obtain ⟨b4, h⟩ := He.ba h
  obtain ⟨b5, h⟩ := He.ba h
  obtain ⟨b6, h⟩ := He.ba h
  obtain ⟨b7, b8⟩ := He.ba h
  exact ⟨⟨⟨B, nw, iid, mb, FB, SF, a1, a2⟩, a3, a4, He.eqO_ok a5, He.eqO_ok a6, He.eqO_ok a7, of_decide_eq_true a8, He.eqO_ok a9, He.eqO_ok b1, of_decide_eq_true b2, of_decide_eq_true b3, b4⟩, of_decide_eq_true b5, He.eqO_ok b6, b7, fun n hn => He.eqO_ok (List.all_eq_true.mp b8 n hn)⟩
section
variable {K : PySem.W.Frag}
theorem SaysR.fact (c : SaysR K) (i : Nat) {f : PySem.W.Frag → Bool} (h : faT[i]? = some f := by rfl) : f K = true :=
  List.all_eq_true.mp (He.ba (show ((faT.all fun f => f K) && fnT.all fun d => d.ok K) = true from congrArg (fun z : ObV => z.1) c)).1 f (List.mem_of_getElem? h)
theorem SaysR.def_ (c : SaysR K) (i : Nat) {d : He5.DefA} (h : fnT[i]? = some d) : ∃ fd, L2.FunD K d.name d.qual d.params d.body d.scope (d.dvs K) (d.kws K) (d.at_ K) fd := by
  have c2 := (He.ba (show ((faT.all fun f => f K) && fnT.all fun d => d.ok K) = true from congrArg (fun z : ObV => z.1) c)).2
  have e : fnT.map (fun d => He5.fnA K (d.at_ K)) = fnT.map He5.DefA.val := congrArg (fun z : ObV => z.2) c
  have e2 : (fnT.map fun d => He5.fnA K (d.at_ K))[i]? = (fnT.map He5.DefA.val)[i]? := by rw [e]
  rw [List.getElem?_map, List.getElem?_map, h] at e2
  exact He5.DefA.funD (Option.some.inj e2) (List.all_eq_true.mp c2 d (List.mem_of_getElem? h))
theorem fun_ld (c : SaysR K) (i : Nat) {d : LD} (h : ldT[i]? = some d) : ∃ fd, Fun K d.nm d.nm (top d.ix) d.f fd := by
  obtain ⟨fd, F⟩ := c.def_ (i + 16) (d := ldD d) (by
    show (clT ++ ldT.map ldD)[i + 16]? = _
    rw [List.getElem?_append_right (by show 16 ≤ i + 16; omega)]
    show (ldT.map ldD)[i + 16 - 16]? = _
    rw [Nat.add_sub_cancel, List.getElem?_map, h]
    rfl)
  exact ⟨fd, He5.fun_of F⟩
theorem fun_cl (c : SaysR K) (i : Nat) {q nm : Str} {f : Addr} {st : Stmt} (h : fnT[i]? = some (mtD q nm f st) := by rfl) : ∃ fd, Fun K nm q st f fd := by
  obtain ⟨fd, F⟩ := c.def_ i h
  exact ⟨fd, He5.fun_of F⟩
theorem fun_c {x q : Str} {st : Stmt} {f c : Addr} {fd : FuncData} (F : Fun K x q st f fd) (h : codeB K f c = true) : FunC K x q st f fd c := by
  obtain ⟨oc, od, kV, doc, pm, an, cdv, ct, osl, rfl, lk, hcd⟩ := F.ex
  have e : cdv = .ref c := by
    unfold codeB at h
    rw [lk] at h
    cases cdv <;> first | exact congrArg Value.ref (of_decide_eq_true h) | exact (Bool.false_ne_true h).elim
  subst e
  exact ⟨⟨oc, od, kV, doc, pm, an, ct, osl, rfl, lk, hcd⟩, F.kp⟩
section
variable {h : Heap} {mg : Str → Option Value}
theorem mg_ld (X : K.In h) (G : h.Ns mainGlobals mg) (c : SaysR K) {d : LD} (hd : d ∈ ldT) : mg d.nm = some (.ref d.f) := PySem.W.mg_of X G (He.eqO_ok (List.all_eq_true.mp (c.fact 0) d hd))
theorem mg_free (X : K.In h) (G : h.Ns mainGlobals mg) (c : SaysR K) {x : Str} (hx : x ∈ freeN) : mg x = none := PySem.W.mg_none_of X G (He.eqO_ok (List.all_eq_true.mp (c.fact 1) x hx))
theorem mg_at (X : K.In h) (G : h.Ns mainGlobals mg) {x : Str} {v : Value} (e : He.eqO (PySem.W.nsIn K mainGlobals x) (some (some v)) = true) : mg x = some v := PySem.W.mg_of X G (He.eqO_ok e)
theorem at_ld (X : K.In h) (G : h.Ns mainGlobals mg) (c : SaysR K) {d : LD} (i : Nat) (e : ldT[i]? = some d) : (∃ fd, Fun K d.nm d.nm (top d.ix) d.f fd) ∧ mg d.nm = some (.ref d.f) := ⟨fun_ld c i e, mg_ld X G c (List.mem_of_getElem? e)⟩
end
end
end Kx
end
section
set_option maxHeartbeats 4000000
namespace Kx
open PySem PySem.Spec PyProof.Rows L2
section
variable {P : Program} {w : World} {K : PySem.W.Frag} {mg : Str → Option Value} {h base : Heap} {CX : CXT} {k : Nat} {x : Str} {f : Addr} {fd : FuncData} {ps ks : List Str} {sp : Sp}
theorem use0 (G : FnOk P w K mg base CX k f fd ps sp) (b : Binds K fd ps []) (kp : PySem.W.keepIn K (.ref f) = true) (m : mg x = some (.ref f)) : Use P w K mg base CX k x ps sp [] := ⟨⟨f, fd, G, b, kp, m, (fun _ h => (nomatch h)), (fun _ h => (nomatch h))⟩⟩
theorem useR (G : FnOk P w K mg base CX k f fd ps sp) (b : Binds K fd ps []) (kp : PySem.W.keepIn K (.ref f) = true) (m : mg x = some (.ref f)) (kb : KBn K fd ps 0 ks revB revA) (hl : ¬ (ks.length = 1 ∧ ps.length = 2)) : Use P w K mg base CX k x ps sp [ks] :=
  ⟨⟨f, fd, G, b, kp, m, fun ks' h _ => by rw [List.mem_singleton.mp h]; exact kb, fun ks' h l1 l2 => absurd ⟨by rw [← List.mem_singleton.mp h]; exact l1, l2⟩ hl⟩⟩
theorem useN (G : FnOk P w K mg base CX k f fd ps sp) (b : Binds K fd ps []) (kp : PySem.W.keepIn K (.ref f) = true) (m : mg x = some (.ref f)) (kb : KBn K fd ps 1 ks appB appA) (hl : ks.length ≠ ps.length) : Use P w K mg base CX k x ps sp [ks] :=
  ⟨⟨f, fd, G, b, kp, m, fun ks' h l => absurd (by rw [← List.mem_singleton.mp h]; exact l) hl, fun ks' h _ _ => by rw [List.mem_singleton.mp h]; exact kb⟩⟩
end
def csT : List (Addr × Addr) := [(1013, 1011), (1020, 1016)]
theorem c1 : ((1013 : Addr), (1011 : Addr)) ∈ csT := List.mem_cons_self
theorem c2 : ((1020 : Addr), (1016 : Addr)) ∈ csT := List.mem_cons_of_mem _ (List.mem_cons_self)
abbrev lmN (x : Str) : Str := (x ++ ".<locals>.") ++ "<lambda>"
def tbT : List (Addr × Str) := [(1011, lmN "_law_back_so"), (1016, lmN "_law_refused_so")]
theorem t1 : ((1011 : Addr), lmN "_law_back_so") ∈ tbT := List.mem_cons_self
theorem t2 : ((1016 : Addr), lmN "_law_refused_so") ∈ tbT := List.mem_cons_of_mem _ (List.mem_cons_self)
theorem memN {α : Type} {p a0 a1 : α} (h : p ∈ [a0, a1]) : p = a0 ∨ p = a1 := by simpa using h
theorem tu1 : ∀ p ∈ tbT, p.1 = 1011 → p.2 = lmN "_law_back_so" := fun p hp e => by
  rcases memN hp with h | h <;> rw [h] at e ⊢
  · exact absurd (show (1016 : Nat) = 1011 from e) (by decide)
theorem tu2 : ∀ p ∈ tbT, p.1 = 1016 → p.2 = lmN "_law_refused_so" := fun p hp e => by
  rcases memN hp with h | h <;> rw [h] at e ⊢
  · exact absurd (show (1011 : Nat) = 1016 from e) (by decide)
theorem allE {f : _root_.Fin 3 → Bool} (h : (List.finRange 3).all f = true) (i : _root_.Fin 3) : f i = true := List.all_eq_true.mp h i (List.mem_finRange i)
section
variable {P : Program} {w : World} {K : PySem.W.Frag} {mg : Str → Option Value} {h : Heap}
theorem facts {f : Addr} (X : K.In h) (G : h.Ns mainGlobals mg) (hfa : mg ("law" : Str) = some (.ref f)) (c : SaysR K) :
    ∃ fd : FuncData, (∀ (s : Shared) (v : Value), BindsTo s fd ⟨[v], []⟩ [("_law_script", v)]) ∧ ∀ base : Heap, K.In base → base.Ns mainGlobals mg → (∀ p ∈ csT, LamX.TabB base mg p.1 p.2) → FnOk P w K mg base CX0 12 f fd ["_law_script"] (spLaw K tbT) := by
  have mf : ∀ x ∈ freeN, mg x = none := fun x hx => mg_free X G c hx
  have mn := mf "len" (by decide)
  have mI := mf "isinstance" (by decide)
  have ml := mf "list" (by decide)
  have mt := mf "tuple" (by decide)
  have mi := mf "int" (by decide)
  have mr := mf "range" (by decide)
  have ma := mf "all" (by decide)
  have mz := mf "zip" (by decide)
  have mb := mf "bool" (by decide)
  have ms := mf "str" (by decide)
  have mabs := mf "abs" (by decide)
  have men := mf "enumerate" (by decide)
  have msum := mf "sum" (by decide)
  have mG : mg "gcd" = some (.builtin "math.gcd") := mg_at X G (c.fact 2)
  have mLc : mg "lcm" = some (.builtin "math.lcm") := mg_at X G (c.fact 3)
  have mS : mg "Step" = some (.ref stA) := mg_at X G (c.fact 4)
  have mR : mg "Row" = some (.ref rwA) := mg_at X G (c.fact 5)
  have mZ : mg "ZERO" = some (.ref zeA) := mg_at X G (c.fact 6)
  have mO : mg "ONE" = some (.ref onA) := mg_at X G (c.fact 7)
  have mM : mg "MINUS_ONE" = some (.ref moA) := mg_at X G (c.fact 8)
  have mC : mg "CreepError" = some (.ref ceA) := mg_at X G (c.fact 9)
  have mNA : mg "NoAnswer" = some (.ref naA) := mg_at X G (c.fact 10)
  have mLO : ∃ u, mg "LOWEST_ORDER" = some u ∧ RelV (.int 2) u := let ⟨t, e⟩ := He.int_ok X G (c.fact 11); ⟨_, e, t, rfl⟩
  have mHO : ∃ u, mg "HIGHEST_ORDER" = some u ∧ RelV (.int 24) u := let ⟨t, e⟩ := He.int_ok X G (c.fact 12); ⟨_, e, t, rfl⟩
  have k0 : KP K zeA 0 1 := kpB_ok (c.fact 13)
  have k1 : KP K onA 1 1 := kpB_ok (c.fact 14)
  have km : KP K moA (-1) 1 := kpB_ok (c.fact 15)
  obtain ⟨dm0, Fm0⟩ := fun_cl c 0
  obtain ⟨dm1, Fm1⟩ := fun_cl c 1
  obtain ⟨dm2, Fm2⟩ := fun_cl c 2
  obtain ⟨dm3, Fm3⟩ := fun_cl c 3
  obtain ⟨dm4, Fm4⟩ := fun_cl c 4
  obtain ⟨dm5, Fm5⟩ := fun_cl c 5
  obtain ⟨dm6, Fm6⟩ := fun_cl c 6
  obtain ⟨dm7, Fm7⟩ := fun_cl c 7
  obtain ⟨dm8, Fm8⟩ := fun_cl c 8
  obtain ⟨dm9, Fm9⟩ := fun_cl c 9
  obtain ⟨dm10, Fm10⟩ := fun_cl c 10
  obtain ⟨dm11, Fm11⟩ := fun_cl c 11
  obtain ⟨dm12, Fm12⟩ := fun_cl c 12
  obtain ⟨dm13, Fm13⟩ := fun_cl c 13
  obtain ⟨dm14, Fm14⟩ := fun_cl c 14
  obtain ⟨dm15, Fm15⟩ := fun_cl c 15
  obtain ⟨clS, nAS, MkS, rS, cS, tyS'⟩ := owB_ok (c.fact 16) Fm1.kp
  obtain ⟨clR, nAR, MkR, tyR'⟩ := owT_ok (c.fact 17)
  obtain ⟨x0, ty0, i0, fi0, n0⟩ := ecB_ok (c.fact 18) ⟨_, _, F.excBase_ValueError, F.store_ValueError⟩
  obtain ⟨x1, ty1, i1, fi1, n1⟩ := ecB_ok (c.fact 19) ⟨_, _, F.excBase_ValueError, F.store_ValueError⟩
  obtain ⟨x2, ty2, i2, fi2, n2⟩ := ecB_ok (c.fact 20) ⟨_, _, F.excBase_ArithmeticError, F.store_ArithmeticError⟩
  obtain ⟨x3, ty3, i3, fi3, n3⟩ := ecB_ok (c.fact 21) ⟨_, _, F.excBase_ValueError, F.store_ValueError⟩
  obtain ⟨x4, ty4, i4, fi4, n4⟩ := ecB_ok (c.fact 22) ⟨_, _, F.excBase_ValueError, F.store_ValueError⟩
  obtain ⟨x5, ty5, i5, fi5, n5⟩ := ecB_ok (c.fact 23) ⟨_, _, F.excBase_ValueError, F.store_ValueError⟩
  obtain ⟨x6, ty6, i6, fi6, n6⟩ := ecB_ok (c.fact 24) ⟨_, _, F.excBase_ValueError, F.store_ValueError⟩
  obtain ⟨⟨d_is_whole, F_is_whole⟩, g_is_whole⟩ := at_ld X G c 0 rfl
  obtain ⟨⟨d_is_between, F_is_between⟩, g_is_between⟩ := at_ld X G c 1 rfl
  obtain ⟨⟨d_is_fraction, F_is_fraction⟩, g_is_fraction⟩ := at_ld X G c 2 rfl
  obtain ⟨⟨d_ratio, F_ratio⟩, g_ratio⟩ := at_ld X G c 3 rfl
  obtain ⟨⟨d_difference_of, F_difference_of⟩, g_difference_of⟩ := at_ld X G c 4 rfl
  obtain ⟨⟨d_product_of, F_product_of⟩, g_product_of⟩ := at_ld X G c 5 rfl
  obtain ⟨⟨d_quotient_of, F_quotient_of⟩, g_quotient_of⟩ := at_ld X G c 6 rfl
  obtain ⟨⟨d_negative_of, F_negative_of⟩, g_negative_of⟩ := at_ld X G c 7 rfl
  obtain ⟨⟨d_is_listing, F_is_listing⟩, g_is_listing⟩ := at_ld X G c 8 rfl
  obtain ⟨⟨d_check_order, F_check_order⟩, g_check_order⟩ := at_ld X G c 9 rfl
  obtain ⟨⟨d_check_orders, F_check_orders⟩, g_check_orders⟩ := at_ld X G c 10 rfl
  obtain ⟨⟨d_check_place, F_check_place⟩, g_check_place⟩ := at_ld X G c 11 rfl
  obtain ⟨⟨d_check_number, F_check_number⟩, g_check_number⟩ := at_ld X G c 12 rfl
  obtain ⟨⟨d_wrong_item, F_wrong_item⟩, g_wrong_item⟩ := at_ld X G c 13 rfl
  obtain ⟨⟨d_check_fractions, F_check_fractions⟩, g_check_fractions⟩ := at_ld X G c 14 rfl
  obtain ⟨⟨d_checked_numbers, F_checked_numbers⟩, g_checked_numbers⟩ := at_ld X G c 15 rfl
  obtain ⟨⟨d_is_zero, F_is_zero⟩, g_is_zero⟩ := at_ld X G c 16 rfl
  obtain ⟨⟨d_least_place, F_least_place⟩, g_least_place⟩ := at_ld X G c 17 rfl
  obtain ⟨⟨d_sums_of, F_sums_of⟩, g_sums_of⟩ := at_ld X G c 18 rfl
  obtain ⟨⟨d_multiples_of, F_multiples_of⟩, g_multiples_of⟩ := at_ld X G c 19 rfl
  obtain ⟨⟨d_dot, F_dot⟩, g_dot⟩ := at_ld X G c 20 rfl
  obtain ⟨⟨d_over_one_lower, F_over_one_lower⟩, g_over_one_lower⟩ := at_ld X G c 21 rfl
  obtain ⟨⟨d_multiplied, F_multiplied⟩, g_multiplied⟩ := at_ld X G c 22 rfl
  obtain ⟨⟨d_reciprocal_of, F_reciprocal_of⟩, g_reciprocal_of⟩ := at_ld X G c 23 rfl
  obtain ⟨⟨d_log_slopes, F_log_slopes⟩, g_log_slopes⟩ := at_ld X G c 24 rfl
  obtain ⟨⟨d_unit_log, F_unit_log⟩, g_unit_log⟩ := at_ld X G c 25 rfl
  obtain ⟨⟨d_unit_power, F_unit_power⟩, g_unit_power⟩ := at_ld X G c 26 rfl
  obtain ⟨⟨d_still_numbers, F_still_numbers⟩, g_still_numbers⟩ := at_ld X G c 27 rfl
  obtain ⟨⟨d_reciprocal, F_reciprocal⟩, g_reciprocal⟩ := at_ld X G c 28 rfl
  obtain ⟨⟨d_check_unit_row, F_check_unit_row⟩, g_check_unit_row⟩ := at_ld X G c 29 rfl
  obtain ⟨⟨d_row_power, F_row_power⟩, g_row_power⟩ := at_ld X G c 30 rfl
  obtain ⟨⟨d_row_log, F_row_log⟩, g_row_log⟩ := at_ld X G c 31 rfl
  obtain ⟨⟨d_kind_of, F_kind_of⟩, g_kind_of⟩ := at_ld X G c 32 rfl
  obtain ⟨⟨d__law_bag, F__law_bag⟩, g__law_bag⟩ := at_ld X G c 33 rfl
  obtain ⟨⟨d__law_draw, F__law_draw⟩, g__law_draw⟩ := at_ld X G c 34 rfl
  obtain ⟨⟨d__law_of, F__law_of⟩, g__law_of⟩ := at_ld X G c 35 rfl
  obtain ⟨⟨d__law_like, F__law_like⟩, g__law_like⟩ := at_ld X G c 36 rfl
  obtain ⟨⟨d__law_low, F__law_low⟩, g__law_low⟩ := at_ld X G c 37 rfl
  obtain ⟨⟨d__law_add, F__law_add⟩, g__law_add⟩ := at_ld X G c 38 rfl
  obtain ⟨⟨d__law_mul, F__law_mul⟩, g__law_mul⟩ := at_ld X G c 39 rfl
  obtain ⟨⟨d__law_times, F__law_times⟩, g__law_times⟩ := at_ld X G c 40 rfl
  obtain ⟨⟨d__law_scale, F__law_scale⟩, g__law_scale⟩ := at_ld X G c 41 rfl
  obtain ⟨⟨d__law_number, F__law_number⟩, g__law_number⟩ := at_ld X G c 42 rfl
  obtain ⟨⟨d__law_odd, F__law_odd⟩, g__law_odd⟩ := at_ld X G c 43 rfl
  obtain ⟨⟨d__law_big, F__law_big⟩, g__law_big⟩ := at_ld X G c 44 rfl
  obtain ⟨⟨d__law_wide, F__law_wide⟩, g__law_wide⟩ := at_ld X G c 45 rfl
  obtain ⟨⟨d__law_is, F__law_is⟩, g__law_is⟩ := at_ld X G c 46 rfl
  obtain ⟨⟨d__law_fault, F__law_fault⟩, g__law_fault⟩ := at_ld X G c 47 rfl
  obtain ⟨⟨d__law_ask, F__law_ask⟩, g__law_ask⟩ := at_ld X G c 48 rfl
  obtain ⟨⟨d__law_row, F__law_row⟩, g__law_row⟩ := at_ld X G c 49 rfl
  obtain ⟨⟨d__law_slope, F__law_slope⟩, g__law_slope⟩ := at_ld X G c 50 rfl
  obtain ⟨⟨d__law_power_so, F__law_power_so⟩, g__law_power_so⟩ := at_ld X G c 51 rfl
  obtain ⟨⟨d__law_log_so, F__law_log_so⟩, g__law_log_so⟩ := at_ld X G c 52 rfl
  obtain ⟨⟨d__law_small, F__law_small⟩, g__law_small⟩ := at_ld X G c 53 rfl
  obtain ⟨⟨d__law_whole_so, F__law_whole_so⟩, g__law_whole_so⟩ := at_ld X G c 54 rfl
  obtain ⟨⟨d__law_back_so, F__law_back_so⟩, g__law_back_so⟩ := at_ld X G c 55 rfl
  obtain ⟨⟨d__law_refused_so, F__law_refused_so⟩, g__law_refused_so⟩ := at_ld X G c 56 rfl
  obtain ⟨⟨d_law, F_law⟩, g_law⟩ := at_ld X G c 57 rfl
  have b_is_whole : Binds K d_is_whole ["value"] [] := F_is_whole.binds fun _ _ _ _ _ _ us hl => match us, hl with | [_], _ => rfl
  have b_is_between : Binds K d_is_between ["value", "low", "high"] [] := F_is_between.binds fun _ _ _ _ _ _ us hl => match us, hl with | [_, _, _], _ => rfl
  have b_is_fraction : Binds K d_is_fraction ["value"] [] := F_is_fraction.binds fun _ _ _ _ _ _ us hl => match us, hl with | [_], _ => rfl
  have b_ratio : Binds K d_ratio ["upper", "lower"] [] := F_ratio.binds fun _ _ _ _ _ _ us hl => match us, hl with | [_, _], _ => rfl
  have b_difference_of : Binds K d_difference_of ["one", "other"] [] := F_difference_of.binds fun _ _ _ _ _ _ us hl => match us, hl with | [_, _], _ => rfl
  have b_product_of : Binds K d_product_of ["one", "other"] [] := F_product_of.binds fun _ _ _ _ _ _ us hl => match us, hl with | [_, _], _ => rfl
  have b_quotient_of : Binds K d_quotient_of ["one", "other"] [] := F_quotient_of.binds fun _ _ _ _ _ _ us hl => match us, hl with | [_, _], _ => rfl
  have b_negative_of : Binds K d_negative_of ["value"] [] := F_negative_of.binds fun _ _ _ _ _ _ us hl => match us, hl with | [_], _ => rfl
  have b_is_listing : Binds K d_is_listing ["value"] [] := F_is_listing.binds fun _ _ _ _ _ _ us hl => match us, hl with | [_], _ => rfl
  have b_check_order : Binds K d_check_order ["order"] [] := F_check_order.binds fun _ _ _ _ _ _ us hl => match us, hl with | [_], _ => rfl
  have b_check_orders : Binds K d_check_orders ["one", "other"] [] := F_check_orders.binds fun _ _ _ _ _ _ us hl => match us, hl with | [_, _], _ => rfl
  have b_check_place : Binds K d_check_place ["place", "first", "last"] [] := F_check_place.binds fun _ _ _ _ _ _ us hl => match us, hl with | [_, _, _], _ => rfl
  have b_check_number : Binds K d_check_number ["value"] [] := F_check_number.binds fun _ _ _ _ _ _ us hl => match us, hl with | [_], _ => rfl
  have b_wrong_item : Binds K d_wrong_item ["numbers"] [] := F_wrong_item.binds fun _ _ _ _ _ _ us hl => match us, hl with | [_], _ => rfl
  have b_check_fractions : Binds K d_check_fractions ["numbers"] [] := F_check_fractions.binds fun _ _ _ _ _ _ us hl => match us, hl with | [_], _ => rfl
  have b_checked_numbers : Binds K d_checked_numbers ["numbers", "further"] [] := F_checked_numbers.binds fun _ _ _ _ _ _ us hl => match us, hl with | [_, _], _ => rfl
  have b_is_zero : Binds K d_is_zero ["numbers"] [] := F_is_zero.binds fun _ _ _ _ _ _ us hl => match us, hl with | [_], _ => rfl
  have b_least_place : Binds K d_least_place ["numbers", "first"] [] := F_least_place.binds fun _ _ _ _ _ _ us hl => match us, hl with | [_, _], _ => rfl
  have b_sums_of : Binds K d_sums_of ["one", "other"] [] := F_sums_of.binds fun _ _ _ _ _ _ us hl => match us, hl with | [_, _], _ => rfl
  have b_multiples_of : Binds K d_multiples_of ["numbers", "t"] [] := F_multiples_of.binds fun _ _ _ _ _ _ us hl => match us, hl with | [_, _], _ => rfl
  have b_dot : Binds K d_dot ["ones", "others"] [] := F_dot.binds fun _ _ _ _ _ _ us hl => match us, hl with | [_, _], _ => rfl
  have b_over_one_lower : Binds K d_over_one_lower ["numbers"] [] := F_over_one_lower.binds fun _ _ _ _ _ _ us hl => match us, hl with | [_], _ => rfl
  have b_multiplied : Binds K d_multiplied ["one", "other"] [] := F_multiplied.binds fun _ _ _ _ _ _ us hl => match us, hl with | [_, _], _ => rfl
  have b_reciprocal_of : Binds K d_reciprocal_of ["numbers"] [] := F_reciprocal_of.binds fun _ _ _ _ _ _ us hl => match us, hl with | [_], _ => rfl
  have b_log_slopes : Binds K d_log_slopes ["numbers"] [] := F_log_slopes.binds fun _ _ _ _ _ _ us hl => match us, hl with | [_], _ => rfl
  have b_unit_log : Binds K d_unit_log ["numbers"] [] := F_unit_log.binds fun _ _ _ _ _ _ us hl => match us, hl with | [_], _ => rfl
  have b_unit_power : Binds K d_unit_power ["numbers", "t"] [] := F_unit_power.binds fun _ _ _ _ _ _ us hl => match us, hl with | [_, _], _ => rfl
  have b_still_numbers : Binds K d_still_numbers ["order"] [] := F_still_numbers.binds fun _ _ _ _ _ _ us hl => match us, hl with | [_], _ => rfl
  have b_reciprocal : Binds K d_reciprocal ["row"] [] := F_reciprocal.binds fun _ _ _ _ _ _ us hl => match us, hl with | [_], _ => rfl
  have b_check_unit_row : Binds K d_check_unit_row ["row"] [] := F_check_unit_row.binds fun _ _ _ _ _ _ us hl => match us, hl with | [_], _ => rfl
  have b_row_power : Binds K d_row_power ["row", "t"] [] := F_row_power.binds fun _ _ _ _ _ _ us hl => match us, hl with | [_, _], _ => rfl
  have b_row_log : Binds K d_row_log ["row"] [] := F_row_log.binds fun _ _ _ _ _ _ us hl => match us, hl with | [_], _ => rfl
  have b_kind_of : Binds K d_kind_of ["numbers"] [] := F_kind_of.binds fun _ _ _ _ _ _ us hl => match us, hl with | [_], _ => rfl
  have b__law_bag : Binds K d__law_bag ["_law_script"] [] := F__law_bag.binds fun _ _ _ _ _ _ us hl => match us, hl with | [_], _ => rfl
  have b__law_draw : Binds K d__law_draw ["_law_bag_here", "_law_limit"] [] := F__law_draw.binds fun _ _ _ _ _ _ us hl => match us, hl with | [_, _], _ => rfl
  have b__law_of : Binds K d__law_of ["_law_bag_here", "_law_things"] [] := F__law_of.binds fun _ _ _ _ _ _ us hl => match us, hl with | [_, _], _ => rfl
  have b__law_like : Binds K d__law_like ["_law_told", "_law_due"] [] := F__law_like.binds fun _ _ _ _ _ _ us hl => match us, hl with | [_, _], _ => rfl
  have b__law_low : Binds K d__law_low ["_law_p", "_law_q"] [] := F__law_low.binds fun _ _ _ _ _ _ us hl => match us, hl with | [_, _], _ => rfl
  have b__law_add : Binds K d__law_add ["_law_a", "_law_b"] [] := F__law_add.binds fun _ _ _ _ _ _ us hl => match us, hl with | [_, _], _ => rfl
  have b__law_mul : Binds K d__law_mul ["_law_a", "_law_b"] [] := F__law_mul.binds fun _ _ _ _ _ _ us hl => match us, hl with | [_, _], _ => rfl
  have b__law_times : Binds K d__law_times ["_law_u", "_law_w"] [] := F__law_times.binds fun _ _ _ _ _ _ us hl => match us, hl with | [_, _], _ => rfl
  have b__law_scale : Binds K d__law_scale ["_law_u", "_law_c"] [] := F__law_scale.binds fun _ _ _ _ _ _ us hl => match us, hl with | [_, _], _ => rfl
  have b__law_number : Binds K d__law_number ["_law_bag_here"] [] := F__law_number.binds fun _ _ _ _ _ _ us hl => match us, hl with | [_], _ => rfl
  have b__law_odd : Binds K d__law_odd ["_law_bag_here"] [] := F__law_odd.binds fun _ _ _ _ _ _ us hl => match us, hl with | [_], _ => rfl
  have b__law_big : Binds K d__law_big ["_law_bag_here"] [] := F__law_big.binds fun _ _ _ _ _ _ us hl => match us, hl with | [_], _ => rfl
  have b__law_wide : Binds K d__law_wide ["_law_bag_here"] [] := F__law_wide.binds fun _ _ _ _ _ _ us hl => match us, hl with | [_], _ => rfl
  have b__law_is : Binds K d__law_is ["_law_thing"] [] := F__law_is.binds fun _ _ _ _ _ _ us hl => match us, hl with | [_], _ => rfl
  have b__law_fault : Binds K d__law_fault ["_law_error"] [] := F__law_fault.binds fun _ _ _ _ _ _ us hl => match us, hl with | [_], _ => rfl
  have b__law_ask : Binds K d__law_ask ["_law_deed"] [] := F__law_ask.binds fun _ _ _ _ _ _ us hl => match us, hl with | [_], _ => rfl
  have b__law_row : Binds K d__law_row ["_law_bag_here", "_law_size", "_law_first"] [] := F__law_row.binds fun _ _ _ _ _ _ us hl => match us, hl with | [_, _, _], _ => rfl
  have b__law_slope : Binds K d__law_slope ["_law_a"] [] := F__law_slope.binds fun _ _ _ _ _ _ us hl => match us, hl with | [_], _ => rfl
  have b__law_power_so : Binds K d__law_power_so ["_law_told", "_law_a", "_law_c"] [] := F__law_power_so.binds fun _ _ _ _ _ _ us hl => match us, hl with | [_, _, _], _ => rfl
  have b__law_log_so : Binds K d__law_log_so ["_law_told", "_law_a"] [] := F__law_log_so.binds fun _ _ _ _ _ _ us hl => match us, hl with | [_, _], _ => rfl
  have b__law_small : Binds K d__law_small ["_law_bag_here"] [] := F__law_small.binds fun _ _ _ _ _ _ us hl => match us, hl with | [_], _ => rfl
  have b__law_whole_so : Binds K d__law_whole_so ["_law_bag_here", "_law_a"] [] := F__law_whole_so.binds fun _ _ _ _ _ _ us hl => match us, hl with | [_, _], _ => rfl
  have b__law_back_so : Binds K d__law_back_so ["_law_bag_here", "_law_a"] [] := F__law_back_so.binds fun _ _ _ _ _ _ us hl => match us, hl with | [_, _], _ => rfl
  have b__law_refused_so : Binds K d__law_refused_so ["_law_bag_here", "_law_a"] [] := F__law_refused_so.binds fun _ _ _ _ _ _ us hl => match us, hl with | [_, _], _ => rfl
  have b_law : Binds K d_law ["_law_script"] [] := F_law.binds fun _ _ _ _ _ _ us hl => match us, hl with | [_], _ => rfl
  have bm0 : Binds K dm0 ["self", "numbers"] [] := Fm0.binds fun _ _ _ _ _ _ us hl => match us, hl with | [_, _], _ => rfl
  have bm1 : Binds K dm1 ["order"] [] := Fm1.binds fun _ _ _ _ _ _ us hl => match us, hl with | [_], _ => rfl
  have bm2 : Binds K dm2 ["self", "other"] [] := Fm2.binds fun _ _ _ _ _ _ us hl => match us, hl with | [_, _], _ => rfl
  have bm3 : Binds K dm3 ["self", "numbers"] [] := Fm3.binds fun _ _ _ _ _ _ us hl => match us, hl with | [_, _], _ => rfl
  have bm4 : Binds K dm4 ["self"] [] := Fm4.binds fun _ _ _ _ _ _ us hl => match us, hl with | [_], _ => rfl
  have bm5 : Binds K dm5 ["self", "place"] [] := Fm5.binds fun _ _ _ _ _ _ us hl => match us, hl with | [_, _], _ => rfl
  have bm6 : Binds K dm6 ["self", "t"] [] := Fm6.binds fun _ _ _ _ _ _ us hl => match us, hl with | [_, _], _ => rfl
  have bm7 : Binds K dm7 ["self", "other"] [] := Fm7.binds fun _ _ _ _ _ _ us hl => match us, hl with | [_, _], _ => rfl
  have bm8 : Binds K dm8 ["self", "other"] [] := Fm8.binds fun _ _ _ _ _ _ us hl => match us, hl with | [_, _], _ => rfl
  have bm9 : Binds K dm9 ["self", "value"] [] := Fm9.binds fun _ _ _ _ _ _ us hl => match us, hl with | [_, _], _ => rfl
  have bm10 : Binds K dm10 ["self", "first"] [] := Fm10.binds fun _ _ _ _ _ _ us hl => match us, hl with | [_, _], _ => rfl
  have bm11 : Binds K dm11 ["self"] [] := Fm11.binds fun _ _ _ _ _ _ us hl => match us, hl with | [_], _ => rfl
  have bm12 : Binds K dm12 ["self", "one", "other"] [] := Fm12.binds fun _ _ _ _ _ _ us hl => match us, hl with | [_, _, _], _ => rfl
  have bm13 : Binds K dm13 ["self", "at"] [] := Fm13.binds fun _ _ _ _ _ _ us hl => match us, hl with | [_, _], _ => rfl
  have bm14 : Binds K dm14 ["self", "value"] [] := Fm14.binds fun _ _ _ _ _ _ us hl => match us, hl with | [_, _], _ => rfl
  have bm15 : Binds K dm15 ["self", "value"] [] := Fm15.binds fun _ _ _ _ _ _ us hl => match us, hl with | [_, _], _ => rfl
  have e : f = 1028 := Value.ref.inj (Option.some.inj (hfa.symm.trans g_law))
  subst e
  refine ⟨d_law, fun s v => ?_, fun base _ _ hTB => ?_⟩
  · obtain ⟨oc, od, kV, doc, pm, an, cdv, ct, osl, e, lk, hcd⟩ := F_law.ex
    rw [e]
    exact .of_eq rfl
  have Z0 : ErrC P w K mg base "InvalidNumber" 1 (fs1 "InvalidNumber" "value") (csE 0) := ⟨x0, ty0, mg_at X G (c.fact 25), 76, dm9, _, i0, fi0, init_1 Fm9 x0 (n0 _ (by decide)) (n0 _ (by decide)), bm9⟩
  have Z1 : ErrC P w K mg base "NotOne" 1 (fs1 "NotOne" "first") (csE 1) := ⟨x1, ty1, mg_at X G (c.fact 26), 228, dm10, _, i1, fi1, init_N Fm10 x1 (n1 _ (by decide)) (n1 _ (by decide)), bm10⟩
  have Z2 : ErrC P w K mg base "DividedByZero" 0 (fs0 "DividedByZero") (csE 2) := ⟨x2, ty2, mg_at X G (c.fact 27), 260, dm11, _, i2, fi2, init_Z Fm11 x2 (n2 _ (by decide)) , bm11⟩
  have Z3 : ErrC P w K mg base "UnlikeOrders" 2 (fs2 "UnlikeOrders" "one" "other") cuA := ⟨x3, ty3, mg_at X G (c.fact 28), 133, dm12, _, i3, fi3, init_5 Fm12 x3 (n3 _ (by decide)) (n3 _ (by decide)) (n3 _ (by decide)), bm12⟩
  have Z4 : ErrC P w K mg base "InvalidFraction" 1 (fs1 "InvalidFraction" "at") cfA := ⟨x4, ty4, mg_at X G (c.fact 29), 95, dm13, _, i4, fi4, init_2 Fm13 x4 (n4 _ (by decide)) (n4 _ (by decide)), bm13⟩
  have Z5 : ErrC P w K mg base "InvalidOrder" 1 (fs1 "InvalidOrder" "value") coA := ⟨x5, ty5, mg_at X G (c.fact 30), 114, dm14, _, i5, fi5, init_3 Fm14 x5 (n5 _ (by decide)) (n5 _ (by decide)), bm14⟩
  have Z6 : ErrC P w K mg base "InvalidPlace" 1 (fs1 "InvalidPlace" "value") cpA := ⟨x6, ty6, mg_at X G (c.fact 31), 152, dm15, _, i6, fi6, init_6 Fm15 x6 (n6 _ (by decide)) (n6 _ (by decide)), bm15⟩
  have Uw : Use P w K mg base CX0 1 "is_whole" ["value"] (spWhole K) [] := use0 (ok_whole F_is_whole mI mi mb) b_is_whole F_is_whole.kp g_is_whole
  have Ub : Use P w K mg base CX0 2 "is_between" ["value", "low", "high"] (spBtw K) [] := use0 (ok_btw F_is_between Uw) b_is_between F_is_between.kp g_is_between
  have Uf : Use P w K mg base CX0 2 "is_fraction" ["value"] (spIsG K) [] := use0 (ok_isg F_is_fraction mI mt mn mG Uw) b_is_fraction F_is_fraction.kp g_is_fraction
  have Ur : Use P w K mg base CX0 1 "ratio" ["upper", "lower"] spLowQ [] := use0 (ok_ratio F_ratio mG) b_ratio F_ratio.kp g_ratio
  have UrZ : Use P w K mg base (L2.CX P w) 3 "ratio" ["upper", "lower"] (spRatZ (csE 2)) [] := use0 (ok_ratioZ F_ratio mG Z2) b_ratio F_ratio.kp g_ratio
  have Udf : Use P w K mg base CX0 2 "difference_of" ["one", "other"] (spDifQ K) [] := use0 (ok_difference F_difference_of Ur) b_difference_of F_difference_of.kp g_difference_of
  have Up : Use P w K mg base CX0 2 "product_of" ["one", "other"] (spProQ K) [] := use0 (ok_product F_product_of Ur) b_product_of F_product_of.kp g_product_of
  have Uqu : Use P w K mg base CX0 2 "quotient_of" ["one", "other"] (spQuoQ K) [] := use0 (ok_quotient F_quotient_of Ur) b_quotient_of F_quotient_of.kp g_quotient_of
  have UqZ : Use P w K mg base (L2.CX P w) 4 "quotient_of" ["one", "other"] (spQuoZ K (csE 2)) [] := use0 (ok_quotientZ F_quotient_of UrZ) b_quotient_of F_quotient_of.kp g_quotient_of
  have Ung : Use P w K mg base CX0 1 "negative_of" ["value"] (spNegQ K) [] := use0 (ok_negative F_negative_of) b_negative_of F_negative_of.kp g_negative_of
  have Uco : Use P w K mg base (L2.CX P w) 3 "check_order" ["order"] (spCo K coA) [] := use0 (ok_corder F_check_order Ub mLO mHO Z5) b_check_order F_check_order.kp g_check_order
  have Ucs : Use P w K mg base (L2.CX P w) 3 "check_orders" ["one", "other"] (spCor K cuA) [] := use0 (ok_corders F_check_orders Z3) b_check_orders F_check_orders.kp g_check_orders
  have Ucp : Use P w K mg base (L2.CX P w) 3 "check_place" ["place", "first", "last"] (spCp K cpA) [] := use0 (ok_cplace F_check_place Ub Z6) b_check_place F_check_place.kp g_check_place
  have Uck : Use P w K mg base (L2.CX P w) 3 "check_number" ["value"] (spCk K (csE 0)) [] := use0 (ok_cnum F_check_number Uf Z0) b_check_number F_check_number.kp g_check_number
  have Uil : Use P w K mg base CX0 1 "is_listing" ["value"] (spIl K) [] := use0 (ok_listing F_is_listing mI ml mt) b_is_listing F_is_listing.kp g_is_listing
  have Uwi : Use P w K mg base CX0 3 "wrong_item" ["numbers"] (spWi K) [] := use0 (ok_wrong F_wrong_item men Uf) b_wrong_item F_wrong_item.kp g_wrong_item
  have Ucf : Use P w K mg base (L2.CX P w) 4 "check_fractions" ["numbers"] (spCf K cfA) [] := use0 (ok_cfrac F_check_fractions Uwi Z4) b_check_fractions F_check_fractions.kp g_check_fractions
  have Ucn : Use P w K mg base (L2.CX P w) 5 "checked_numbers" ["numbers", "further"] (spCn K cfA coA) [] := use0 (ok_checked F_checked_numbers mn ml Uil Uco Ucf Z4) b_checked_numbers F_checked_numbers.kp g_checked_numbers
  have Uiz : Use P w K mg base CX0 1 "is_zero" ["numbers"] (spIz K) [] := use0 (ok_iszero F_is_zero k0 ma mZ) b_is_zero F_is_zero.kp g_is_zero
  have Ulp : Use P w K mg base CX0 1 "least_place" ["numbers", "first"] (spLp K) [] := use0 (ok_least F_least_place k0 men mZ) b_least_place F_least_place.kp g_least_place
  have Usu : Use P w K mg base CX0 2 "sums_of" ["one", "other"] (spTwoL K (· + ·)) [] := use0 (ok_sums F_sums_of mz Ur) b_sums_of F_sums_of.kp g_sums_of
  have Umu : Use P w K mg base CX0 3 "multiples_of" ["numbers", "t"] (spMulsL K) [] := use0 (ok_multiples F_multiples_of Up) b_multiples_of F_multiples_of.kp g_multiples_of
  have Uol : Use P w K mg base CX0 1 "over_one_lower" ["numbers"] (spOol K) [] := use0 (ok_ool F_over_one_lower mLc) b_over_one_lower F_over_one_lower.kp g_over_one_lower
  have Umd : Use P w K mg base CX0 2 "multiplied" ["one", "other"] (spMulL K) [] := use0 (ok_multiplied F_multiplied mn mr msum Uol Ur) b_multiplied F_multiplied.kp g_multiplied
  have Udo : Use P w K mg base CX0 2 "dot" ["ones", "others"] (spDot K) [] := use0 (ok_dot F_dot mz mLc Ur) b_dot F_dot.kp g_dot
  have Urc : Use P w K mg base (L2.CX P w) 5 "reciprocal_of" ["numbers"] (spRcL K (csE 2)) [] := use0 (ok_rcl F_reciprocal_of mn mr k1 mO UqZ Uqu Udo Ung) b_reciprocal_of F_reciprocal_of.kp g_reciprocal_of
  have Uls : Use P w K mg base CX0 3 "log_slopes" ["numbers"] (spLsL K) [] := use0 (ok_lsl F_log_slopes mn mr Udo Udf Up) b_log_slopes F_log_slopes.kp g_log_slopes
  have Ulg : Use P w K mg base CX0 4 "unit_log" ["numbers"] (spLgL K) [] := use0 (ok_lgl F_unit_log men k0 mZ Uls Uqu) b_unit_log F_unit_log.kp g_unit_log
  have Upw : Use P w K mg base CX0 4 "unit_power" ["numbers", "t"] (spPwL K) [] := use0 (ok_pwl F_unit_power mn mr k1 mO Uls Udo Up Uqu) b_unit_power F_unit_power.kp g_unit_power
  have Usn : Use P w K mg base CX0 1 "still_numbers" ["order"] (spSn K) [] := use0 (ok_stilln F_still_numbers k1 k0 mZ mO) b_still_numbers F_still_numbers.kp g_still_numbers
  have Uko : Use P w K mg base CX0 2 "kind_of" ["numbers"] (spKo K) [] := use0 (ok_kind F_kind_of k1 k0 km mZ mO mM Uiz) b_kind_of F_kind_of.kp g_kind_of
  have rk : RowK P w K mg base rwA cfA coA := ⟨clR, nAR, mR, ⟨_, _, MkR, ok_rwinit Fm3 clR nAR mn Ucn Ulp, bm3, kb_mix Fm3 (fun _ _ _ _ _ _ _ _ => rfl)⟩, tyR', of_decide_eq_true (c.fact 40)⟩
  have sk : StepK P w K mg base rwA stA cfA coA := ⟨clS, nAS, mS, ⟨_, _, MkS, ok_stinit Fm0 clS nAS mn Ucn Uko Ulp, bm0⟩, tyS', of_decide_eq_true (c.fact 39), fun n hn => of_decide_eq_true (List.all_eq_true.mp (c.fact 37) n hn), of_decide_eq_true (c.fact 38)⟩
  have mt' : ∀ t ∈ mtT, PySem.W.findIn K (.ref t.1) t.2.2 = some (some (.ref t.2.1)) ∧ PySem.W.isFn K (.ref t.2.1) = true := fun t ht => by
    obtain ⟨h1, h2⟩ := He.ba (List.all_eq_true.mp (c.fact 43) t ht)
    exact ⟨He.eqO_ok h1, h2⟩
  have Mnu : MUse P w K mg base CX0 1 rwA "numbers" ["self"] (spNu K rwA) [] := ⟨⟨599, dm4, ⟨(mt' (rwA, 599, "numbers") (by simp [mtT])).1, (mt' (rwA, 599, "numbers") (by simp [mtT])).2, Fm4.kp⟩, ok_numbers Fm4 rk ml, bm4, fun ks hk => nomatch hk⟩, clR⟩
  have Mnm : MUse P w K mg base (L2.CX P w) 4 rwA "number" ["self", "place"] (spNm K rwA cpA) [] := ⟨⟨606, dm5, ⟨(mt' (rwA, 606, "number") (by simp [mtT])).1, (mt' (rwA, 606, "number") (by simp [mtT])).2, Fm5.kp⟩, ok_number Fm5 rk Ucp, bm5, fun ks hk => nomatch hk⟩, clR⟩
  have Msc : MUse P w K mg base (L2.CX P w) 8 rwA "scaled" ["self", "t"] (spSc K rwA (csE 0)) [] := ⟨⟨613, dm6, ⟨(mt' (rwA, 613, "scaled") (by simp [mtT])).1, (mt' (rwA, 613, "scaled") (by simp [mtT])).2, Fm6.kp⟩, ok_scaled Fm6 rk Uck Umu, bm6, fun ks hk => nomatch hk⟩, clR⟩
  have Oad : OpM P w K mg base (L2.CX P w) 8 rwA "__add__" (spOp K rwA cuA 4000 (List.zipWith (· + ·))) := ⟨⟨641, dm7, _, (mt' (rwA, 641, "__add__") (by simp [mtT])).1, (mt' (rwA, 641, "__add__") (by simp [mtT])).2, ok_radd Fm7 rk Ucs Usu Mnu, bm7⟩, c.fact 42⟩
  have Oml : OpM P w K mg base (L2.CX P w) 8 rwA "__mul__" (spOpM K rwA cuA) := ⟨⟨655, dm8, _, (mt' (rwA, 655, "__mul__") (by simp [mtT])).1, (mt' (rwA, 655, "__mul__") (by simp [mtT])).2, ok_rmul Fm8 rk Ucs Umd Mnu, bm8⟩, c.fact 42⟩
  have Ose : OpM P w K mg base CX0 1 stA "__eq__" (spEqS K stA) := ⟨⟨841, dm2, _, (mt' (stA, 841, "__eq__") (by simp [mtT])).1, (mt' (stA, 841, "__eq__") (by simp [mtT])).2, ok_seq Fm2 sk mI, bm2⟩, c.fact 41⟩
  have Gst : FnOk P w K mg base CX0 8 751 dm1 ["order"] (spStil K stA) := calm (ok_still Fm1 sk Uco Usn) (fun _ _ _ _ z => z)
  have Ucu : Use P w K mg base (L2.CX P w) 5 "check_unit_row" ["row"] (spCu1 K rwA (csE 1)) [] := use0 (ok_cunit F_check_unit_row k1 mO Mnm Z1) b_check_unit_row F_check_unit_row.kp g_check_unit_row
  have Urp : Use P w K mg base (L2.CX P w) 8 "reciprocal" ["row"] (spRecip K rwA (csE 2)) [["row"]] := useR (ok_recip F_reciprocal rk Mnu Urc) b_reciprocal F_reciprocal.kp g_reciprocal (kb_one F_reciprocal (fun _ _ _ _ _ _ _ => rfl)) (by decide)
  have Uwp : Use P w K mg base (L2.CX P w) 8 "row_power" ["row", "t"] (spRpow K rwA (csE 0) (csE 1)) [["t", "row"]] := useR (ok_rpow F_row_power rk Mnu Ucu Uck Upw) b_row_power F_row_power.kp g_row_power (kb_two F_row_power (fun _ _ _ _ _ _ _ _ => rfl)) (by decide)
  have Uwl : Use P w K mg base (L2.CX P w) 8 "row_log" ["row"] (spRlog K rwA (csE 1)) [["row"]] := useR (ok_rlog F_row_log rk Mnu Ucu Ulg) b_row_log F_row_log.kp g_row_log (kb_one F_row_log (fun _ _ _ _ _ _ _ => rfl)) (by decide)
  have Ldr : Use P w K mg base CX0 1 "_law_draw" ["_law_bag_here", "_law_limit"] spDraw [] := use0 (ok_draw F__law_draw mn mi) b__law_draw F__law_draw.kp g__law_draw
  have Lof : Use P w K mg base CX0 2 "_law_of" ["_law_bag_here", "_law_things"] spOfL [] := use0 (ok_ofL F__law_of (ok_draw F__law_draw mn mi) b__law_draw F__law_draw.kp g__law_draw mn) b__law_of F__law_of.kp g__law_of
  have Glo := ok_lowQ (P := P) (w := w) (base := base) F__law_low mabs mi
  have Llo : Use P w K mg base CX0 1 "_law_low" ["_law_p", "_law_q"] spLowQ [] := use0 (Glo) b__law_low F__law_low.kp g__law_low
  have Lad : Use P w K mg base CX0 2 "_law_add" ["_law_a", "_law_b"] (spAddQ K) [] := use0 (ok_addQ F__law_add Glo b__law_low F__law_low.kp g__law_low) b__law_add F__law_add.kp g__law_add
  have Lmu : Use P w K mg base CX0 2 "_law_mul" ["_law_a", "_law_b"] (spMulQ K) [] := use0 (ok_mulQ F__law_mul Glo b__law_low F__law_low.kp g__law_low) b__law_mul F__law_mul.kp g__law_mul
  have Lti : Use P w K mg base CX0 3 "_law_times" ["_law_u", "_law_w"] (spTimes K) [] := use0 (ok_times F__law_times mn mr Lad Lmu) b__law_times F__law_times.kp g__law_times
  have Lsc : Use P w K mg base CX0 3 "_law_scale" ["_law_u", "_law_c"] (spScale K) [] := use0 (ok_scale F__law_scale Lmu) b__law_scale F__law_scale.kp g__law_scale
  have Lnu : Use P w K mg base CX0 3 "_law_number" ["_law_bag_here"] (spNum K) [] := use0 (ok_num Ldr Lof Llo F__law_number) b__law_number F__law_number.kp g__law_number
  have Lbg : Use P w K mg base CX0 3 "_law_big" ["_law_bag_here"] spBig [] := use0 (ok_big F__law_big mr Ldr Lof) b__law_big F__law_big.kp g__law_big
  have Lwd : Use P w K mg base CX0 4 "_law_wide" ["_law_bag_here"] (spWid K) [] := use0 (ok_wid F__law_wide Ldr Lbg Llo) b__law_wide F__law_wide.kp g__law_wide
  have Lsm : Use P w K mg base CX0 3 "_law_small" ["_law_bag_here"] (spSml K) [] := use0 (ok_sml F__law_small Ldr Lof Llo) b__law_small F__law_small.kp g__law_small
  have Lrw : Use P w K mg base CX0 4 "_law_row" ["_law_bag_here", "_law_size", "_law_first"] (spRow4 K) [] := use0 (ok_row4 F__law_row mr Lof Lnu) b__law_row F__law_row.kp g__law_row
  have Lsl : Use P w K mg base CX0 3 "_law_slope" ["_law_a"] (spSlp K) [] := use0 (ok_slp F__law_slope mn mr Lmu) b__law_slope F__law_slope.kp g__law_slope
  have Lod : Use P w K mg base CX0 9 "_law_odd" ["_law_bag_here"] (spOdd K stA) [] := use0 (ok_odd F__law_odd sk rS cS Gst bm1 Lof) b__law_odd F__law_odd.kp g__law_odd
  have Lis : Use P w K mg base CX0 2 "_law_is" ["_law_thing"] (spIs K) [] := use0 (ok_is F__law_is mI mt mn mi mb ma Llo) b__law_is F__law_is.kp g__law_is
  have Lps : Use P w K mg base CX0 4 "_law_power_so" ["_law_told", "_law_a", "_law_c"] (spPso K) [] := use0 (ok_powerso F__law_power_so mn ma Lis Lti Lsl Lsc) b__law_power_so F__law_power_so.kp g__law_power_so
  have Lls : Use P w K mg base CX0 4 "_law_log_so" ["_law_told", "_law_a"] (spLso K) [] := use0 (ok_logso F__law_log_so mn ma Lis Lti Lsl) b__law_log_so F__law_log_so.kp g__law_log_so
  have L0 : FnOk P w K mg base CX0 2 _ _ _ (spLike K stA 0) := ok_like F__law_like sk Ose b__law_like g__law_like (fun n' e => by cases e) mI ml mt mb ms mi mn mz ma
  have L1 : FnOk P w K mg base CX0 3 _ _ _ (spLike K stA 1) := ok_like F__law_like sk Ose b__law_like g__law_like (fun n' e => by cases e; exact L0) mI ml mt mb ms mi mn mz ma
  have L2 : FnOk P w K mg base CX0 4 _ _ _ (spLike K stA 2) := ok_like F__law_like sk Ose b__law_like g__law_like (fun n' e => by cases e; exact L1) mI ml mt mb ms mi mn mz ma
  have L3 : FnOk P w K mg base CX0 5 _ _ _ (spLike K stA 3) := ok_like F__law_like sk Ose b__law_like g__law_like (fun n' e => by cases e; exact L2) mI ml mt mb ms mi mn mz ma
  have L4 : FnOk P w K mg base CX0 6 _ _ _ (spLike K stA 4) := ok_like F__law_like sk Ose b__law_like g__law_like (fun n' e => by cases e; exact L3) mI ml mt mb ms mi mn mz ma
  have L5 : FnOk P w K mg base CX0 7 _ _ _ (spLike K stA 5) := ok_like F__law_like sk Ose b__law_like g__law_like (fun n' e => by cases e; exact L4) mI ml mt mb ms mi mn mz ma
  have Llk : Use P w K mg base CX0 7 "_law_like" ["_law_told", "_law_due"] (spLike K stA 5) [] := use0 (L5) b__law_like F__law_like.kp g__law_like
  have ZZ : Errs3 P w K mg base csE := ⟨Z0, Z1, Z2, fun i => by
    match i with
    | 0 => exact n0 _ (by decide)
    | 1 => exact n1 _ (by decide)
    | 2 => exact n2 _ (by decide),
    n0 "value" (by decide), n1 "first" (by decide),
    fun i j => of_decide_eq_true (allE (allE (c.fact 32) i) j)⟩
  have Gfa := ok_fault3 (P := P) (w := w) (base := base) F__law_fault mI ZZ
  have kit : Kit4 P w K mg base rwA stA cfA coA cuA ceA naA csE := {
    rk := rk
    sk := sk
    rkit := of_decide_eq_true (c.fact 40)
    rnum := Mnu
    rsc := Msc
    radd := Oad
    rmul := Oml
    rcp := Urp
    rpw := Uwp
    rlg := Uwl
    draw := Ldr
    ofL := Lof
    low := Llo
    add := Lad
    mul := Lmu
    times := Lti
    num := Lnu
    wid := Lwd
    sml := Lsm
    row4 := Lrw
    odd := Lod
    is := Lis
    pso := Lps
    lso := Lls
    lik := Llk
    flt := ⟨_, _, Gfa, b__law_fault, F__law_fault.kp, g__law_fault⟩
    ask := ⟨_, _, F__law_ask, b__law_ask, g__law_ask⟩
    mC := mC
    mN := mNA
    e0 := of_decide_eq_true (c.fact 33)
    e1 := of_decide_eq_true (c.fact 34)
    e2 := of_decide_eq_true (c.fact 35)
    e3 := of_decide_eq_true (c.fact 36)
    mn := mn
    mI := mI
    mr := mr
    ma := ma
    mabs := mabs }
  have Lwh : Use P w K mg base CX0 9 "_law_whole_so" ["_law_bag_here", "_law_a"] (spWso K) [] := use0 (ok_wholeso F__law_whole_so kit) b__law_whole_so F__law_whole_so.kp g__law_whole_so
  have Lbk : Use P w K mg base CX0 11 "_law_back_so" ["_law_bag_here", "_law_a"] (spBso K tbT) [] := use0 (ok_backso (fun_c F__law_back_so (c.fact 45)) kit (hTB (1013, 1011) c1) t1 tu1) b__law_back_so F__law_back_so.kp g__law_back_so
  have Lrf : Use P w K mg base CX0 11 "_law_refused_so" ["_law_bag_here", "_law_a"] (spRso K tbT) [] := use0 (ok_refusedso (fun_c F__law_refused_so (c.fact 46)) kit (hTB (1020, 1016) c2) t2 tu2) b__law_refused_so F__law_refused_so.kp g__law_refused_so
  have kitL : Kit5 P w K mg base rwA tbT := {
    who := Lwh
    bac := Lbk
    rfd := Lrf
    bag := use0 (ok_bag F__law_bag ml mi) b__law_bag F__law_bag.kp g__law_bag }
  exact ok_law F_law kit kitL
end
end Kx
end
section
set_option maxHeartbeats 0
namespace Kx
open PySem PySem.Spec PyProof.Rows L2
theorem cs_tab {h : Heap} (hT : ∀ a ∈ tabA, h.get? a = some { cls := .none, data := .fields #[] }) : ∀ p ∈ csT, h.get? p.2 = some { cls := .none, data := .fields #[] } := fun p hp => by
  rcases memN hp with e | e <;> rw [e]
  · exact hT 1011 (List.mem_cons_self)
  · exact hT 1016 (List.mem_cons_of_mem _ (List.mem_cons_self))
theorem cs_none {K : PySem.W.Frag} (c : SaysR K) : ∀ p ∈ csT, K.lookup p.2 = none := fun p hp => by
  have n := c.fact 44
  have nn : ∀ a ∈ tabA, K.lookup a = none := fun a ha => Option.isNone_iff_eq_none.mp (List.all_eq_true.mp n a ha)
  rcases memN hp with e | e <;> rw [e]
  · exact nn 1011 (List.mem_cons_self)
  · exact nn 1016 (List.mem_cons_of_mem _ (List.mem_cons_self))
theorem cs_code {K : PySem.W.Frag} {h : Heap} (X : K.In h) (c : SaysR K) : ∀ p ∈ csT, PySem.W.CodeHd h p.1 p.2 := fun p hp => by
  rcases memN hp with e | e <;> rw [e]
  · exact PySem.W.codeHd_of_K X (c.fact 47)
  · exact PySem.W.codeHd_of_K X (c.fact 48)
theorem tabs_start {H : Hp} (hH : ∀ p ∈ csT, H p.2 = some (.tbl #[])) : LamX.Tabs tbT H := fun p hp => by
  rcases memN hp with e | e <;> rw [e]
  · exact LamX.TabS.nil (hH _ c1)
  · exact LamX.TabS.nil (hH _ c2)
end Kx
open PySem PySem.W PySem.Calls PyProof.Rows
theorem PySem.Challenge.cw_creepclocks_k04_whole_powers_and_logs_of_holds : PySem.Challenge.rw_creepclocks_k04_whole_powers_and_logs_of.Holds := by
  w_on; o_law
  refine HandSHeadRun.head_imp (r := OpenLaw.row PySem.Challenge.rw_creepclocks_k04_whole_powers_and_logs_of) (q := view (OpenLaw.row PySem.Challenge.rw_creepclocks_k04_whole_powers_and_logs_of).prog [0, 105]) (H := Kx.hookR) (ob := Kx.ob) (M := 20000) (loose := Kx.names) (d := HandSHeadRun.topDef (OpenLaw.row PySem.Challenge.rw_creepclocks_k04_whole_powers_and_logs_of).prog 105) (kwd := []) Kx.ob_eq
    Kx.run (by kernel_rfl) (by kernel_rfl) (by kernel_rfl) (by rfl) (by first | assumption | decide +kernel) (by decide +kernel) ⟨rfl, rfl, rfl, rfl, rfl, by decide +kernel⟩ ?hw ?hc
  case hw => w_witness2
  case hc =>
    refine LamX.walk_ofTsE (l := PySem.Challenge.rw_creepclocks_k04_whole_powers_and_logs_of) (n := 63) (k := 12) (x := "_law_script") (CX := fun _ => L2.CX0) rfl (by decide) (by kernel_rfl) ⟨rfl, by decide, by decide⟩ ?F (fun _ _ _ _ _ z => z)
    intro w mg fa h Y G hmg0
    obtain ⟨⟨K, KX, c⟩, hT⟩ := Y
    have hmg : mg ("law" : PySem.Str) = some (.ref fa) := by
      have e : (HandSHeadRun.topDef (OpenLaw.row PySem.Challenge.rw_creepclocks_k04_whole_powers_and_logs_of).prog 105).name = ("law" : PySem.Str) := by kernel_rfl
      rw [← e]
      exact hmg0
    obtain ⟨fd, hb, hF⟩ := Kx.facts (P := (PySem.Challenge.rw_creepclocks_k04_whole_powers_and_logs_of).prog) (w := w) KX G hmg c
    exact ⟨K, KX, fd, Kx.csT, Kx.spLaw K Kx.tbT, Kx.cs_tab hT, Kx.cs_none c, Kx.cs_code KX c, hb, fun H a ns hl _ hH hS => ⟨a, ns, rfl, hS, Kx.tabs_start hH, fun _ => rfl⟩, hF⟩
end
