import PyProof.Rows.All
import Wide.All
import OpenK.AllK
import Wide.FinOn
import HandS.Words
import HandS.WordsExc
import HandS.ForMost
import HandS.Zip
import HandS.Codes
import HandS.Walk
import HandS.Wide
import HandS.Gcd
import HandS.IsInst
import HandS.AnyAll
import HandS.ClsMeth
import HandS.Lambda
import HandS.ExcInitHot
import HandS.Defaults
import HandS.HeadHook1
import HandS.HeadHook2
import HandS.HeadNt
import HandS.NestedK
import KE.KExcInit
import KE.KStateDown
import Lean
import HandS.Head0
import HandS.Head1
import HandS.Head2
import HandS.Head3
import HandS.HeadEnd
import HandS.Style
import HandS.ExcInit
import KE.KExcIs
import HandS.MakeKw
import HandS.Exc
import PyProof.Draws
import PyProof.EnumMake
import KE.GoesMore
import HandS.MakeKwOnly
import KE.KDictZip
import HandS.ExcIs
import HandS.ExcField
import HandS.TryMany
import HandS.HotCalls
import HandS.HeadWalk
import PySem.Challenge.RW_creepclocks_k24_whole_clocks_move_on_by
set_option Elab.async false
set_option linter.all false
set_option maxRecDepth 100000
section
set_option maxHeartbeats 4000000
namespace Kx
open PySem PySem.Spec PyProof.Rows L2
def top (i : Nat) : Stmt := PySem.Challenge.pw_creepclocks_k24_whole_clocks_move_on_by.main.body.getD i (.Pass ⟨0, 0, 0, 0⟩)
abbrev F__wall : Stmt := top 1
abbrev C_CreepError : Stmt := top 3
abbrev C_InvalidNumber : Stmt := top 4
abbrev C_InvalidNumber_init : Stmt := inClass (top 4) 0
abbrev C_InvalidFraction : Stmt := top 5
abbrev C_InvalidFraction_init : Stmt := inClass (top 5) 0
abbrev C_InvalidOrder : Stmt := top 6
abbrev C_InvalidOrder_init : Stmt := inClass (top 6) 0
abbrev C_UnlikeOrders : Stmt := top 7
abbrev C_UnlikeOrders_init : Stmt := inClass (top 7) 0
abbrev C_InvalidPlace : Stmt := top 8
abbrev C_InvalidPlace_init : Stmt := inClass (top 8) 0
abbrev C_InvalidPower : Stmt := top 9
abbrev C_InvalidPower_init : Stmt := inClass (top 9) 0
abbrev C_CantTurn : Stmt := top 10
abbrev C_CantTurn_init : Stmt := inClass (top 10) 0
abbrev C_NotSlow : Stmt := top 11
abbrev C_NotSlow_init : Stmt := inClass (top 11) 0
abbrev C_IsStill : Stmt := top 12
abbrev C_IsStill_init : Stmt := inClass (top 12) 0
abbrev C_InvalidFlat : Stmt := top 13
abbrev C_InvalidFlat_init : Stmt := inClass (top 13) 0
abbrev C_UnlikeFlats : Stmt := top 14
abbrev C_UnlikeFlats_init : Stmt := inClass (top 14) 0
abbrev C_NoAnswer : Stmt := top 15
abbrev C_DividedByZero : Stmt := top 16
abbrev C_DividedByZero_init : Stmt := inClass (top 16) 0
abbrev F_is_whole : Stmt := top 22
abbrev F_is_between : Stmt := top 23
abbrev F_is_fraction : Stmt := top 24
abbrev F_ratio : Stmt := top 25
abbrev F_difference_of : Stmt := top 26
abbrev F_product_of : Stmt := top 27
abbrev F_quotient_of : Stmt := top 28
abbrev F_negative_of : Stmt := top 29
abbrev F_raised : Stmt := top 30
abbrev F_power_of : Stmt := top 31
abbrev F_fraction_text : Stmt := top 32
abbrev F_is_listing : Stmt := top 36
abbrev F_check_order : Stmt := top 37
abbrev F_check_orders : Stmt := top 38
abbrev F_check_flats : Stmt := top 39
abbrev F_check_place : Stmt := top 40
abbrev F_check_number : Stmt := top 41
abbrev F_wrong_item : Stmt := top 42
abbrev F_check_fractions : Stmt := top 43
abbrev F_checked_numbers : Stmt := top 44
abbrev F_check_slow : Stmt := top 45
abbrev F_check_creep : Stmt := top 46
abbrev F_check_turnable : Stmt := top 47
abbrev F_is_zero : Stmt := top 49
abbrev F_least_place : Stmt := top 50
abbrev F_sums_of : Stmt := top 51
abbrev F_differences_of : Stmt := top 52
abbrev F_multiples_of : Stmt := top 53
abbrev F_dot : Stmt := top 54
abbrev F_mixed : Stmt := top 55
abbrev F_over_one_lower : Stmt := top 56
abbrev F_multiplied : Stmt := top 57
abbrev F_log_slopes : Stmt := top 58
abbrev F_unit_log : Stmt := top 59
abbrev F_unit_power : Stmt := top 60
abbrev F_still_numbers : Stmt := top 61
abbrev F_table_lines : Stmt := top 62
abbrev F_row_behind : Stmt := top 63
abbrev F_put_behind : Stmt := top 64
abbrev F_solved : Stmt := top 65
abbrev F_turned_back : Stmt := top 66
abbrev F_done_times : Stmt := top 67
abbrev F_differences : Stmt := top 68
abbrev F_binomials : Stmt := top 69
abbrev F_binomial_power : Stmt := top 70
abbrev F_letter_text : Stmt := top 72
abbrev F_term_text : Stmt := top 73
abbrev F_term_words : Stmt := top 74
abbrev F_numbers_text : Stmt := top 75
abbrev F_tally_text : Stmt := top 76
abbrev C_Row : Stmt := top 78
abbrev C_Row_init : Stmt := inClass (top 78) 0
abbrev C_Row_constant : Stmt := inClass (top 78) 1
abbrev C_Row_numbers : Stmt := inClass (top 78) 2
abbrev C_Row_number : Stmt := inClass (top 78) 3
abbrev C_Row_scaled : Stmt := inClass (top 78) 4
abbrev C_Row_cut : Stmt := inClass (top 78) 5
abbrev C_Row_behind : Stmt := inClass (top 78) 6
abbrev C_Row_text : Stmt := inClass (top 78) 7
abbrev C_Row_add : Stmt := inClass (top 78) 8
abbrev C_Row_sub : Stmt := inClass (top 78) 9
abbrev C_Row_mul : Stmt := inClass (top 78) 10
abbrev C_Row_neg : Stmt := inClass (top 78) 11
abbrev C_Row_eq : Stmt := inClass (top 78) 12
abbrev C_Row_len : Stmt := inClass (top 78) 13
abbrev C_Row_str : Stmt := inClass (top 78) 14
abbrev C_Row_repr : Stmt := inClass (top 78) 15
abbrev F_kind_of : Stmt := top 80
abbrev C_Step : Stmt := top 81
abbrev C_Step_init : Stmt := inClass (top 81) 0
abbrev C_Step_still : Stmt := inClass (top 81) 1
abbrev C_Step_scaling : Stmt := inClass (top 81) 2
abbrev C_Step_numbers : Stmt := inClass (top 81) 3
abbrev C_Step_number : Stmt := inClass (top 81) 4
abbrev C_Step_power : Stmt := inClass (top 81) 5
abbrev C_Step_renamed : Stmt := inClass (top 81) 6
abbrev C_Step_cut : Stmt := inClass (top 81) 7
abbrev C_Step_gone_on : Stmt := inClass (top 81) 8
abbrev C_Step_as_row : Stmt := inClass (top 81) 9
abbrev C_Step_text : Stmt := inClass (top 81) 10
abbrev C_Step_mul : Stmt := inClass (top 81) 11
abbrev C_Step_invert : Stmt := inClass (top 81) 12
abbrev C_Step_eq : Stmt := inClass (top 81) 13
abbrev C_Step_len : Stmt := inClass (top 81) 14
abbrev C_Step_str : Stmt := inClass (top 81) 15
abbrev C_Step_repr : Stmt := inClass (top 81) 16
abbrev F_checked_tally : Stmt := top 83
abbrev C_Tally : Stmt := top 84
abbrev C_Tally_init : Stmt := inClass (top 84) 0
abbrev C_Tally_numbers : Stmt := inClass (top 84) 1
abbrev C_Tally_number : Stmt := inClass (top 84) 2
abbrev C_Tally_scaled : Stmt := inClass (top 84) 3
abbrev C_Tally_behind : Stmt := inClass (top 84) 4
abbrev C_Tally_text : Stmt := inClass (top 84) 5
abbrev C_Tally_add : Stmt := inClass (top 84) 6
abbrev C_Tally_sub : Stmt := inClass (top 84) 7
abbrev C_Tally_neg : Stmt := inClass (top 84) 8
abbrev C_Tally_eq : Stmt := inClass (top 84) 9
abbrev C_Tally_len : Stmt := inClass (top 84) 10
abbrev C_Tally_str : Stmt := inClass (top 84) 11
abbrev C_Tally_repr : Stmt := inClass (top 84) 12
abbrev F_letters_behind : Stmt := top 85
abbrev F_letter_gains : Stmt := top 87
abbrev F_gain : Stmt := top 88
abbrev F_along : Stmt := top 89
abbrev F_clock_of : Stmt := top 90
abbrev L_bag : Stmt := top 92
abbrev L_draw : Stmt := top 93
abbrev L_of : Stmt := top 94
abbrev L_same : Stmt := top 95
abbrev L_low : Stmt := top 96
abbrev L_add : Stmt := top 97
abbrev L_sub : Stmt := top 98
abbrev L_mul : Stmt := top 99
abbrev L_div : Stmt := top 100
abbrev L_plus : Stmt := top 101
abbrev L_zeros : Stmt := top 102
abbrev L_x : Stmt := top 103
abbrev L_whole : Stmt := top 104
abbrev L_conv : Stmt := top 105
abbrev L_prod : Stmt := top 106
abbrev L_slope : Stmt := top 107
abbrev L_recip : Stmt := top 108
abbrev L_log_row : Stmt := top 109
abbrev L_parts : Stmt := top 110
abbrev L_gain : Stmt := top 111
abbrev L_num : Stmt := top 112
abbrev L_not0 : Stmt := top 113
abbrev L_wide : Stmt := top 114
abbrev L_order : Stmt := top 115
abbrev L_flat : Stmt := top 116
abbrev L_tail : Stmt := top 117
abbrev L_creep : Stmt := top 118
abbrev L_step : Stmt := top 119
abbrev L_not_slow : Stmt := top 120
abbrev L_is_fraction : Stmt := top 121
abbrev L_is_step : Stmt := top 122
abbrev L_is_tally : Stmt := top 123
abbrev L_one : Stmt := top 124
abbrev L_nums : Stmt := top 125
abbrev L_no_creep : Stmt := top 126
abbrev L_creep_error : Stmt := top 127
abbrev L_fits : Stmt := top 128
abbrev L_try : Stmt := top 129
abbrev L_spoilt : Stmt := top 130
abbrev L_refused : Stmt := top 131
abbrev L_once : Stmt := top 132
abbrev L_law : Stmt := top 133
end Kx
end
section
set_option maxHeartbeats 4000000
namespace Kx
open PySem PySem.Spec PyProof.Rows L2
/-- a def of the module: its name, its place in the text, its address -/
structure LD where
  nm : Str
  ix : Nat
  f : Addr
def rwN0 : List Str := ["_numbers", "order", "height"]
def stN0 : List Str := ["_numbers", "order", "lead", "kind", "height", "flat", "strength"]
def taN0 : List Str := ["_numbers", "flat", "order", "last", "log"]
def ldT : List LD := [
  ⟨"is_whole", 22, 313⟩,
  ⟨"is_between", 23, 320⟩,
  ⟨"is_fraction", 24, 327⟩,
  ⟨"ratio", 25, 334⟩,
  ⟨"difference_of", 26, 341⟩,
  ⟨"product_of", 27, 348⟩,
  ⟨"quotient_of", 28, 355⟩,
  ⟨"is_listing", 36, 390⟩,
  ⟨"check_order", 37, 397⟩,
  ⟨"check_orders", 38, 404⟩,
  ⟨"check_number", 41, 425⟩,
  ⟨"wrong_item", 42, 432⟩,
  ⟨"check_fractions", 43, 439⟩,
  ⟨"checked_numbers", 44, 446⟩,
  ⟨"check_slow", 45, 453⟩,
  ⟨"is_zero", 49, 472⟩,
  ⟨"least_place", 50, 479⟩,
  ⟨"multiples_of", 53, 494⟩,
  ⟨"over_one_lower", 56, 511⟩,
  ⟨"multiplied", 57, 516⟩,
  ⟨"dot", 54, 501⟩,
  ⟨"mixed", 55, 506⟩,
  ⟨"kind_of", 80, 766⟩,
  ⟨"solved", 65, 566⟩,
  ⟨"log_slopes", 58, 523⟩,
  ⟨"unit_log", 59, 528⟩,
  ⟨"unit_power", 60, 535⟩,
  ⟨"raised", 30, 369⟩,
  ⟨"power_of", 31, 376⟩,
  ⟨"letters_behind", 85, 1022⟩,
  ⟨"checked_tally", 83, 912⟩,
  ⟨"letter_gains", 87, 1027⟩,
  ⟨"check_flats", 39, 411⟩,
  ⟨"check_creep", 46, 460⟩,
  ⟨"gain", 88, 1034⟩,
  ⟨"along", 89, 1041⟩,
  ⟨"clock_of", 90, 1048⟩,
  ⟨"_law_bag", 92, 1055⟩,
  ⟨"_law_draw", 93, 1062⟩,
  ⟨"_law_of", 94, 1069⟩,
  ⟨"_law_same", 95, 1074⟩,
  ⟨"_law_low", 96, 1081⟩,
  ⟨"_law_add", 97, 1088⟩,
  ⟨"_law_sub", 98, 1095⟩,
  ⟨"_law_mul", 99, 1102⟩,
  ⟨"_law_div", 100, 1109⟩,
  ⟨"_law_plus", 101, 1114⟩,
  ⟨"_law_zeros", 102, 1121⟩,
  ⟨"_law_x", 103, 1128⟩,
  ⟨"_law_whole", 104, 1133⟩,
  ⟨"_law_conv", 105, 1140⟩,
  ⟨"_law_prod", 106, 1145⟩,
  ⟨"_law_slope", 107, 1150⟩,
  ⟨"_law_recip", 108, 1157⟩,
  ⟨"_law_log_row", 109, 1162⟩,
  ⟨"_law_parts", 110, 1169⟩,
  ⟨"_law_gain", 111, 1176⟩,
  ⟨"_law_num", 112, 1183⟩,
  ⟨"_law_not0", 113, 1190⟩,
  ⟨"_law_wide", 114, 1197⟩,
  ⟨"_law_order", 115, 1204⟩,
  ⟨"_law_flat", 116, 1211⟩,
  ⟨"_law_tail", 117, 1216⟩,
  ⟨"_law_creep", 118, 1223⟩,
  ⟨"_law_step", 119, 1228⟩,
  ⟨"_law_not_slow", 120, 1235⟩,
  ⟨"_law_is_fraction", 121, 1242⟩,
  ⟨"_law_is_step", 122, 1249⟩,
  ⟨"_law_is_tally", 123, 1256⟩,
  ⟨"_law_one", 124, 1263⟩,
  ⟨"_law_nums", 125, 1268⟩,
  ⟨"_law_no_creep", 126, 1275⟩,
  ⟨"_law_creep_error", 127, 1282⟩,
  ⟨"_law_fits", 128, 1287⟩,
  ⟨"_law_try", 129, 1294⟩,
  ⟨"_law_spoilt", 130, 1301⟩,
  ⟨"_law_refused", 131, 1308⟩,
  ⟨"_law_once", 132, 1313⟩,
  ⟨"law", 133, 1320⟩
]
abbrev stA : Addr := 901
abbrev rwA : Addr := 755
abbrev zeA : Addr := 304
abbrev onA : Addr := 305
abbrev moA : Addr := 306
abbrev ceA : Addr := 59
abbrev tyA : Addr := 1011
def csE : _root_.Fin 4 → Addr := fun i => [136, 212, 231, 269].getD i.val 0
abbrev cfA : Addr := 98
abbrev coA : Addr := 117
abbrev cnA : Addr := 79
def freeN : List Str := ["isinstance", "len", "list", "tuple", "int", "range", "all", "zip", "bool", "str", "abs", "enumerate", "sum", "min", "max"]
def tabA : List Addr := [1303]
def ldD (d : LD) : He5.DefA := { at_ := fun _ => d.f, name := d.nm, qual := d.nm, params := defArgs (top d.ix), body := defBody (top d.ix), scope := defScope (top d.ix) }
def mtD (q nm : Str) (f : Addr) (st : Stmt) : He5.DefA := { at_ := fun _ => f, name := nm, qual := q, params := defArgs st, body := defBody st, scope := defScope st }
def clT : List He5.DefA := [mtD "Step.__init__" "__init__" 780 (inClass (top 81) 0),
  mtD "Row.constant" "constant" 653 (inClass (top 78) 1),
  mtD "Row.__init__" "__init__" 646 (inClass (top 78) 0),
  mtD "Row.numbers" "numbers" 663 (inClass (top 78) 2),
  mtD "Tally.__init__" "__init__" 926 (inClass (top 84) 0),
  mtD "Tally.numbers" "numbers" 933 (inClass (top 84) 1),
  mtD "Tally.__len__" "__len__" 994 (inClass (top 84) 10),
  mtD "Step.numbers" "numbers" 807 (inClass (top 81) 3),
  mtD "UnlikeOrders.__init__" "__init__" 133 (inClass (top 7) 0),
  mtD "NotSlow.__init__" "__init__" 209 (inClass (top 11) 0),
  mtD "IsStill.__init__" "__init__" 228 (inClass (top 12) 0),
  mtD "UnlikeFlats.__init__" "__init__" 266 (inClass (top 14) 0),
  mtD "InvalidFraction.__init__" "__init__" 95 (inClass (top 5) 0),
  mtD "InvalidOrder.__init__" "__init__" 114 (inClass (top 6) 0),
  mtD "InvalidNumber.__init__" "__init__" 76 (inClass (top 4) 0)]
def fnT : List He5.DefA := clT ++ ldT.map ldD
def kpB (K : PySem.W.Frag) (a : Addr) (x y : Int) : Bool := match K.lookup a with
  | some ⟨.type c, _, .seq its _, _⟩ => decide (c = "tuple") && (decide (its.size ≤ sizeLine) && He.relAll [.int x, .int y] its.toList)
  | _ => false
/-- an own class -/
def owB (K : PySem.W.Frag) (C iA sA gA : Addr) (m : Str) (ns : List Str) : Bool :=
  PySem.W.plainGet K C Str.empty && (PySem.W.hasDictIn K C && (PySem.W.plainOver K C && (He.eqO (PySem.W.findIn K (.ref C) "__setattr__") (some (some (.builtin "object.__setattr__"))) && (ns.all (fun x => He.eqO (PySem.W.findIn K (.ref C) x) (some none)) &&
  (PySem.W.makesIn K C && (He.eqO (PySem.W.findIn K (.ref C) "__init__") (some (some (.ref iA))) && (PySem.W.isFn K (.ref iA) && (PySem.W.keepIn K (.ref C) && (He5.wrapB K C "staticmethod" "staticmethod.__get__" m && (decide (He.ma K C m = sA) && (decide (He5.wf K C "staticmethod" m = gA) &&
  (PySem.W.readsIn K C (.type "type") && (He.eqO (PySem.W.specialIn K (.ref C) "__getattribute__") (some (some (.builtin "type.__getattribute__"))) && (He.eqO (PySem.W.findIn K (.ref C) "__class__") (some (some (.builtin "object.__class__"))) &&
  (He.eqO (PySem.W.specialIn K (.builtin "object.__class__") "__get__") (some (some (.builtin "getset_descriptor.__get__"))) && (decide (PySem.W.takesIn K (.builtin "object.__class__") = some true) && decide (PySem.W.mroIn K C (.type "object") = some true)))))))))))))))))
def owT (K : PySem.W.Frag) (C iA : Addr) (ns : List Str) : Bool :=
  PySem.W.plainGet K C Str.empty && (PySem.W.hasDictIn K C && (PySem.W.plainOver K C && (He.eqO (PySem.W.findIn K (.ref C) "__setattr__") (some (some (.builtin "object.__setattr__"))) && (ns.all (fun x => He.eqO (PySem.W.findIn K (.ref C) x) (some none)) &&
  (PySem.W.makesIn K C && (He.eqO (PySem.W.findIn K (.ref C) "__init__") (some (some (.ref iA))) && (PySem.W.isFn K (.ref iA) && (PySem.W.keepIn K (.ref C) && (He.eqO (PySem.W.findIn K (.ref C) "__class__") (some (some (.builtin "object.__class__"))) &&
  (He.eqO (PySem.W.specialIn K (.builtin "object.__class__") "__get__") (some (some (.builtin "getset_descriptor.__get__"))) && (decide (PySem.W.takesIn K (.builtin "object.__class__") = some true) && decide (PySem.W.mroIn K C (.type "object") = some true))))))))))))
/-- an own exception class -/
def exB (K : PySem.W.Frag) (C iA : Addr) (mb : List Value) (nw : String) (ns : List Str) : Bool :=
  PySem.W.excInitIn K C mb nw && (PySem.W.excOver K C mb && ((PySem.W.clsIn K C).isSome && (PySem.W.hasDictIn K C && (He.eqO (PySem.W.findIn K (.ref C) "__setattr__") (some (some (.builtin "object.__setattr__"))) && (He.eqO (PySem.W.findIn K (.ref C) "__getattribute__") (some (some (.builtin "BaseException.__getattribute__"))) &&
  (He.eqO (PySem.W.findIn K (.ref C) "__getattr__") (some none) && (decide (PySem.W.subIn K (.ref C) (.type "BaseException") = some true) && (He.eqO (PySem.W.findIn K (.ref C) "__class__") (some (some (.builtin "object.__class__"))) && (He.eqO (PySem.W.specialIn K (.builtin "object.__class__") "__get__") (some (some (.builtin "getset_descriptor.__get__"))) &&
  (decide (PySem.W.takesIn K (.builtin "object.__class__") = some true) && (decide (PySem.W.mroIn K C (.type "object") = some true) && (PySem.W.keepIn K (.ref C) && (decide (PySem.W.typeIn K (.ref C) = some (.type "type")) && (He.eqO (PySem.W.findIn K (.ref C) "__init__") (some (some (.ref iA))) &&
  (PySem.W.isFn K (.ref iA) && ns.all (fun x => He.eqO (PySem.W.findIn K (.ref C) x) (some none)))))))))))))))))
def codeB (K : PySem.W.Frag) (f c : Addr) : Bool := match K.lookup f with
  | some ⟨_, _, .func fd, _⟩ => (match fd.code with | .ref c' => decide (c' = c) | _ => false)
  | _ => false
def mtB (K : PySem.W.Frag) (C f : Addr) (m : Str) : Bool := He.eqO (PySem.W.findIn K (.ref C) m) (some (some (.ref f))) && PySem.W.isFn K (.ref f)
def mtT : List (Addr × Addr × Str) := [(rwA, 663, "numbers"), (tyA, 933, "numbers"), (tyA, 994, "__len__"), (stA, 807, "numbers")]
/-- the looks -/
def faT : List (PySem.W.Frag → Bool) := [
  fun K => ldT.all fun d => He.eqO (PySem.W.nsIn K mainGlobals d.nm) (some (some (.ref d.f))),
  fun K => freeN.all fun x => He.eqO (PySem.W.nsIn K mainGlobals x) (some none),
  fun K => He.eqO (PySem.W.nsIn K mainGlobals "gcd") (some (some (.builtin "math.gcd"))),
  fun K => He.eqO (PySem.W.nsIn K mainGlobals "lcm") (some (some (.builtin "math.lcm"))),
  fun K => He.eqO (PySem.W.nsIn K mainGlobals "Step") (some (some (.ref stA))),
  fun K => He.eqO (PySem.W.nsIn K mainGlobals "Tally") (some (some (.ref tyA))),
  fun K => He.eqO (PySem.W.nsIn K mainGlobals "Row") (some (some (.ref rwA))),
  fun K => He.eqO (PySem.W.nsIn K mainGlobals "ZERO") (some (some (.ref zeA))),
  fun K => He.eqO (PySem.W.nsIn K mainGlobals "ONE") (some (some (.ref onA))),
  fun K => He.eqO (PySem.W.nsIn K mainGlobals "MINUS_ONE") (some (some (.ref moA))),
  fun K => He.eqO (PySem.W.nsIn K mainGlobals "CreepError") (some (some (.ref ceA))),
  (He.Fa.int "LOWEST_ORDER" 2).ok,
  (He.Fa.int "HIGHEST_ORDER" 24).ok,
  (He.Fa.int "MOST_POWER" 64).ok,
  fun K => kpB K zeA 0 1,
  fun K => kpB K onA 1 1,
  fun K => kpB K moA (-1) 1,
  fun K => owT K stA 780 stN0,
  fun K => owB K rwA 646 655 653 "constant" rwN0,
  fun K => decide (PySem.W.kitOne K (.ref tyA) (.ref tyA) = some true),
  fun K => owT K tyA 926 taN0,
  fun K => PySem.W.selfFirst K tyA,
  fun K => exB K 136 133 [.type "ValueError", .type "Exception", .type "BaseException", .type "object"] "ValueError.__new__" ["code", "one", "other"],
  fun K => exB K 212 209 [.type "ValueError", .type "Exception", .type "BaseException", .type "object"] "ValueError.__new__" ["code", "first"],
  fun K => exB K 231 228 [.type "ValueError", .type "Exception", .type "BaseException", .type "object"] "ValueError.__new__" ["code", "have"],
  fun K => exB K 269 266 [.type "ValueError", .type "Exception", .type "BaseException", .type "object"] "ValueError.__new__" ["code", "one", "other"],
  fun K => exB K 98 95 [.type "ValueError", .type "Exception", .type "BaseException", .type "object"] "ValueError.__new__" ["code", "at"],
  fun K => exB K 117 114 [.type "ValueError", .type "Exception", .type "BaseException", .type "object"] "ValueError.__new__" ["code", "value"],
  fun K => exB K 79 76 [.type "ValueError", .type "Exception", .type "BaseException", .type "object"] "ValueError.__new__" ["code", "value"],
  fun K => He.eqO (PySem.W.nsIn K mainGlobals "UnlikeOrders") (some (some (.ref 136))),
  fun K => He.eqO (PySem.W.nsIn K mainGlobals "NotSlow") (some (some (.ref 212))),
  fun K => He.eqO (PySem.W.nsIn K mainGlobals "IsStill") (some (some (.ref 231))),
  fun K => He.eqO (PySem.W.nsIn K mainGlobals "UnlikeFlats") (some (some (.ref 269))),
  fun K => He.eqO (PySem.W.nsIn K mainGlobals "InvalidFraction") (some (some (.ref 98))),
  fun K => He.eqO (PySem.W.nsIn K mainGlobals "InvalidOrder") (some (some (.ref 117))),
  fun K => He.eqO (PySem.W.nsIn K mainGlobals "InvalidNumber") (some (some (.ref 79))),
  fun K => (List.finRange 4).all fun i => (List.finRange 4).all fun j => decide (PySem.W.exmOne K (.ref (csE i)) (.ref (csE j)) = some (decide (i = j))),
  fun K => mtT.all fun t => mtB K t.1 t.2.1 t.2.2,
  fun K => tabA.all fun a => (K.lookup a).isNone,
  fun K => codeB K 1308 1307,
  fun K => PySem.W.codeHdIn K 1307 1303]
abbrev ObV : Type := Bool × List He5.FnW
def obK (K : PySem.W.Frag) : ObV := ((faT.all fun f => f K) && fnT.all fun d => d.ok K, fnT.map fun d => He5.fnA K (d.at_ K))
def valR : ObV := (true, fnT.map He5.DefA.val)
def adr : List Addr := [mainGlobals, cStatics, tyA, 1010, stA, 900, rwA, 754, 655, ceA, 58, zeA, onA, moA, 136, 135, 212, 211, 231, 230, 269, 268, 98, 97, 117, 116, 79, 78, 780, 779, 653, 652, 646, 645, 663, 662, 926, 925, 933, 932, 994, 993, 807, 806, 133, 132, 209, 208, 228, 227, 266, 265, 95, 94, 114, 113, 76, 75] ++ ldT.flatMap fun d => [d.f, d.f - 1]
def obR (g : Addr → Option Obj) : ObV := obK (He.frG g adr)
def tblB (g : Addr → Option Obj) : Bool := tabA.all fun a => match g a with
  | some ⟨.none, none, .fields vs, sl⟩ => decide (vs = #[]) && decide (sl.size = 0)
  | _ => false
theorem tblB_ok {g : Addr → Option Obj} (h : tblB g = true) : ∀ a ∈ tabA, g a = some { cls := .none, data := .fields #[] } := fun a ha => by
  have q := List.all_eq_true.mp h a ha
  split at q
  · rename_i vs sl e
    obtain ⟨q1, q2⟩ := He.ba q
    have e2 : sl = #[] := Array.eq_empty_of_size_eq_zero (of_decide_eq_true q2)
    rw [e, of_decide_eq_true q1, e2]
  · cases q
def SaysR (K : PySem.W.Frag) : Prop := obK K = valR
def hookR : PySem.W.Hook where
  α := ObV × Bool
  obs := fun s => (obR s.heap.get?, tblB s.heap.get?)
  val := fun _ => (valR, true)
  says := fun _ h => (∃ K : PySem.W.Frag, K.In h ∧ SaysR K) ∧ ∀ a ∈ tabA, h.get? a = some { cls := .none, data := .fields #[] }
  of := fun _ _ e => ⟨⟨_, He.frG_in, (Prod.mk.inj e).1⟩, tblB_ok (Prod.mk.inj e).2⟩
  keeps := fun _ _ _ ⟨⟨K, hK, c⟩, t⟩ k => ⟨⟨K, PySem.W.Frag.In.keeps hK k, c⟩, fun a ha => k _ _ (t a ha)⟩
end Kx
end
section
set_option maxHeartbeats 0
namespace Kx
open PySem PySem.Spec PyProof.Rows L2
abbrev R : PySem.W.OpenRow := PySem.W.OpenLaw.row PySem.Challenge.rw_creepclocks_k24_whole_clocks_move_on_by
def names0 : List PySem.Str := ["_wall", "CreepError", "InvalidNumber", "InvalidFraction", "InvalidOrder", "UnlikeOrders", "InvalidPlace", "InvalidPower", "CantTurn", "NotSlow", "IsStill", "InvalidFlat", "UnlikeFlats", "NoAnswer", "DividedByZero", "ZERO", "ONE", "MINUS_ONE", "MOST_POWER", "is_whole"]
def names1 : List PySem.Str := ["is_between", "is_fraction", "ratio", "difference_of", "product_of", "quotient_of", "negative_of", "raised", "power_of", "fraction_text", "LOWEST_ORDER", "HIGHEST_ORDER", "is_listing", "check_order", "check_orders", "check_flats", "check_place", "check_number", "wrong_item", "check_fractions"]
def names2 : List PySem.Str := ["checked_numbers", "check_slow", "check_creep", "check_turnable", "is_zero", "least_place", "sums_of", "differences_of", "multiples_of", "dot", "mixed", "over_one_lower", "multiplied", "log_slopes", "unit_log", "unit_power", "still_numbers", "table_lines", "row_behind", "put_behind"]
def names3 : List PySem.Str := ["solved", "turned_back", "done_times", "differences", "binomials", "binomial_power", "letter_text", "term_text", "term_words", "numbers_text", "tally_text", "Row", "kind_of", "Step", "checked_tally", "Tally", "letters_behind", "letter_gains", "gain", "along"]
def names4 : List PySem.Str := ["clock_of", "_law_bag", "_law_draw", "_law_of", "_law_same", "_law_low", "_law_add", "_law_sub", "_law_mul", "_law_div", "_law_plus", "_law_zeros", "_law_x", "_law_whole", "_law_conv", "_law_prod", "_law_slope", "_law_recip", "_law_log_row", "_law_parts"]
def names5 : List PySem.Str := ["_law_gain", "_law_num", "_law_not0", "_law_wide", "_law_order", "_law_flat", "_law_tail", "_law_creep", "_law_step", "_law_not_slow", "_law_is_fraction", "_law_is_step", "_law_is_tally", "_law_one", "_law_nums", "_law_no_creep", "_law_creep_error", "_law_fits", "_law_try", "_law_spoilt"]
def names6 : List PySem.Str := ["_law_refused", "_law_once"]
def names : List PySem.Str := names0 ++ names1 ++ names2 ++ names3 ++ names4 ++ names5 ++ names6
abbrev hk : PySem.W.Hook := hookR
def ob (s : PySem.W.SharedT) : ObV × Bool := (obR (HandSHeadRun.getT s), tblB (HandSHeadRun.getT s))
theorem ob_eq (s : PySem.W.SharedT) : ob s = hk.obs s.abs := by
  have e : HandSHeadRun.getT s = s.abs.heap.get? := funext fun a => HandSHeadRun.getT_eq s a
  unfold ob
  rw [e]
  rfl
noncomputable abbrev endI (w : World) := HandSHeadRun.wholeF (fun p => HandSHeadRun.stepQ (HandSHeadRun.denQ HandSHeadRun.tabQ) p w) HandSHeadRun.fenceQ 20000 R.prog
abbrev qv := PySem.W.view R.prog [0, 133]
theorem run1a (w : World) : (endI w).map (fun x => HandSHeadRun.looksF R.prog x.1.heap x.2.abs) = some true := by
  kernel_rfl
theorem run1b (w : World) : (endI w).map (fun x => (faT.take 14).all fun f => f (He.frG (HandSHeadRun.getT x.2) adr)) = some true := by
  kernel_rfl
theorem run1e (w : World) : (endI w).map (fun x => (faT.drop 14).all fun f => f (He.frG (HandSHeadRun.getT x.2) adr)) = some true := by
  kernel_rfl
theorem run1f (w : World) : (endI w).map (fun x => fnT.all fun d => d.ok (He.frG (HandSHeadRun.getT x.2) adr)) = some true := by
  kernel_rfl
theorem run1c (w : World) : (endI w).map (fun x => (obR (HandSHeadRun.getT x.2)).2) = some valR.2 := by
  kernel_rfl
theorem run1d (w : World) : (endI w).map (fun x => tblB (HandSHeadRun.getT x.2)) = some true := by
  kernel_rfl
theorem run1 (w : World) : (endI w).map (fun x => (HandSHeadRun.looksF R.prog x.1.heap x.2.abs, ob x.2)) = some (true, (valR, true)) := by
  obtain ⟨x, e1, e2⟩ := Option.map_eq_some_iff.mp (run1a w)
  have e3 := run1b w
  have e4 := run1c w
  have e5 := run1d w
  have e7 := run1e w
  have e8 := run1f w
  rw [e1] at e3 e4 e5 e7 e8 ⊢
  have e3 : ((faT.take 14).all fun f => f (He.frG (HandSHeadRun.getT x.2) adr)) = true := Option.some.inj e3
  have e7 : ((faT.drop 14).all fun f => f (He.frG (HandSHeadRun.getT x.2) adr)) = true := Option.some.inj e7
  have e8 : (fnT.all fun d => d.ok (He.frG (HandSHeadRun.getT x.2) adr)) = true := Option.some.inj e8
  have e9 : (faT.all fun f => f (He.frG (HandSHeadRun.getT x.2) adr)) = true := by
    rw [← List.take_append_drop 14 faT, List.all_append, e3, e7]
    rfl
  have e3 : (obR (HandSHeadRun.getT x.2)).1 = true := by
    show ((faT.all fun f => f (He.frG (HandSHeadRun.getT x.2) adr)) && fnT.all fun d => d.ok (He.frG (HandSHeadRun.getT x.2) adr)) = true
    rw [e9, e8]
    rfl
  have e4 : (obR (HandSHeadRun.getT x.2)).2 = valR.2 := Option.some.inj e4
  have e5 : tblB (HandSHeadRun.getT x.2) = true := Option.some.inj e5
  have e6 : obR (HandSHeadRun.getT x.2) = valR := Prod.ext e3 e4
  show some (HandSHeadRun.looksF R.prog x.1.heap x.2.abs, (obR (HandSHeadRun.getT x.2), tblB (HandSHeadRun.getT x.2))) = _
  rw [e2, e5, e6]
theorem run2 (w : World) : (endI w).map (fun x => HandSHeadRun.seenQ qv names (importedModules R.prog.main.body) (fun s => PySem.W.xlAt qv [] s && PySem.W.recOk R.toRowW.records s) x.2.abs) = some (PySem.W.openGood qv names) := by
  kernel_rfl
theorem run (w : World) : HandSHeadRun.RunEqI R qv hk ob 20000 names w := by
  obtain ⟨x, e1, e2⟩ := Option.map_eq_some_iff.mp (run1 w)
  have e3 := run2 w
  show (endI w).map _ = _
  rw [e1] at e3 ⊢
  have e4 := Option.some.inj e3
  have e5 := (Prod.mk.inj e2).1
  have e6 := (Prod.mk.inj e2).2
  show some (HandSHeadRun.looksF R.prog x.1.heap x.2.abs, HandSHeadRun.seenQ qv names (importedModules R.prog.main.body) (fun s => PySem.W.xlAt qv [] s && PySem.W.recOk R.toRowW.records s) x.2.abs, ob x.2) = _
  rw [e5, e6]
  exact congrArg some (congrArg (Prod.mk true) (congrArg (fun z => (z, (valR, true))) e4))
end Kx
end
section
set_option maxHeartbeats 4000000
namespace Kx
open PySem PySem.Spec PyProof.Rows L2
/-! ### powers of greater bases -/
def CPowL (i j : Int) : Prop := 0 ≤ j ∧ j ≤ 4 ∧ i.natAbs < 2 ^ 200
theorem op_powL {X : Cx} : OpR X (binaryOp .Pow) (rI CPowL fun i j => .int (i ^ j.toNat)) := opI fun i j _ _ _ _ _ hc q => pow_int hc.1 (by
  have h1 := hc.1
  have h2 := hc.2.1
  have h3 : Builtin.Int.intBits i ≤ 200 := by
    unfold Builtin.Int.intBits
    split
    · omega
    · have := PySem.Flt.log2_lt_of (k := 200) (by decide) hc.2.2
      omega
  have h4 : (Builtin.Int.intBits i : Int) * j ≤ 200 * 4 := Int.mul_le_mul (by omega) h2 h1 (by decide)
  exact Int.le_trans h4 (by decide)) q
/-! ### the bag: n more draws may come -/
def bagL (p : Addr) (i r sd c : Int) : List V := [.ref p, .int i, .int r, .int sd, .int c]
structure Bag (n : Nat) (H : Hp) (B p : Addr) : Prop where
  ex : ∃ (ns : List Int) (i r sd c : Int), H B = some (.lst (bagL p i r sd c)) ∧ H p = some (.lst (ns.map V.int)) ∧ p ≠ B ∧ 0 ≤ i ∧ 0 ≤ r ∧ 0 ≤ sd ∧ sd < 2305843009213693951 ∧ 0 ≤ c ∧ c + n ≤ 1000000
/-- all but the bag stands -/
def But (B : Addr) (H H' : Hp) : Prop := ∀ b o, b ≠ B → H b = some o → H' b = some o
theorem But.refl {B : Addr} {H : Hp} : But B H H := fun _ _ _ h => h
theorem But.trans {B : Addr} {H H1 H2 : Hp} (a : But B H H1) (b : But B H1 H2) : But B H H2 := fun x o n h => b x o n (a x o n h)
theorem But.new {B : Addr} {H : Hp} {p : Addr} {o : HO} (h : H p = none) : But B H (upd H p o) := fun b u _ q => by rw [upd_ne (ne_of_none q h)]; exact q
theorem But.same {B : Addr} {H H' : Hp} (h : Same H H') : But B H H' := fun b o _ q => h b o q
theorem Bag.same {n : Nat} {H H' : Hp} {B p : Addr} (b : Bag n H B p) (h : Same H H') : Bag n H' B p := by
  obtain ⟨ns, i, r, sd, c, h1, h2, h3⟩ := b.ex
  exact ⟨ns, i, r, sd, c, h _ _ h1, h _ _ h2, h3⟩
theorem Bag.less {n m : Nat} {H : Hp} {B p : Addr} (b : Bag n H B p) (h : m ≤ n) : Bag m H B p := by
  obtain ⟨ns, i, r, sd, c, h1, h2, h3, h4, h5, h6, h7, h8, h9⟩ := b.ex
  exact ⟨ns, i, r, sd, c, h1, h2, h3, h4, h5, h6, h7, h8, by omega⟩
def spDraw : Sp := fun vs H Q _ => ∃ (n : Nat) (B p : Addr) (L : Int), vs = [.ref B, .int L] ∧ 0 < L ∧ L < 1073741824 ∧ Bag (n + 1) H B p ∧
  ∀ H' k, Bag n H' B p → But B H H' → 0 ≤ k → k < L → Q (.int k) H'
section
variable {P : Program} {w : World} {K : PySem.W.Frag} {mg : Str → Option Value} {base : Heap} {f : Addr} {fd : FuncData}
abbrev nDr : List Str := ["_law_bag_here", "_law_many_y", "_law_cell", "_law_digit"]
theorem scDraw : FnScope nDr ["_law_bag_here", "_law_many_y"] (defScope L_draw) := ⟨rfl, rfl, rfl, by decide +kernel, rfl, by decide +kernel, by decide +kernel⟩
theorem pow_bd {x : Int} {n : Nat} (h : x.natAbs < 2 ^ n) (hn : n ≤ 200) : CPowL x 3 := ⟨by decide, by decide, Nat.lt_of_lt_of_le h (Nat.pow_le_pow_right (by decide) hn)⟩
theorem ok_draw (F : Fun K "_law_draw" "_law_draw" L_draw f fd) (ml : mg "len" = none) (mi : mg "int" = none) : FnOk P w K mg base CX0 1 f fd ["_law_bag_here", "_law_many_y"] spDraw := by
  refine F.ok scDraw (fun vs H Q E h => ?_) (fun cdv A outer s H vs Q E hr h => ?_)
  · obtain ⟨n, B, p, L, rfl, _⟩ := h
    rfl
  obtain ⟨n, B, p, L, rfl, l1, l2, hb, q⟩ := h
  obtain ⟨ns, i, r, sd, c, hB, hp, np, i0, r0, s0, s1, c0, cn⟩ := hb.ex
  have cn' : c + 1 + (n : Int) ≤ 1000000 := by omega
  refine ⟨_, pss_cons (ps_asg (pe_op op_add (pe_ix ix_list (pv 0) pe_int (fun _ _ => rfl)) pe_int) (pg_sub (pv 0) pe_int set_list))
    (C8.pss_cut (ps_if (PW.pt (pw_and (pt_cmpR op_eq (pe_ix ix_list (pv 0) pe_int (fun _ _ => rfl)) pe_int (nomark _)) (pw_and1 (pt_cmpR op_lt (pe_ix ix_list (pv 0) pe_int (fun _ _ => rfl)) (pe_callB call_len_seq rfl ml PySem.boot_len (pa_cons (pe_ix ix_list (pv 0) pe_int (fun _ _ => rfl)) pa_nil)) (nomark _)))))
        (pss_cons (ps_set (i := 2) scDraw.nd rfl (Or.inl rfl) (pe_callTy call_int1 rfl mi (by decide +kernel) (pa_cons (pe_ix ix_list (pe_ix ix_list (pv 0) pe_int (fun _ _ => rfl)) (pe_ix ix_list (pv 0) pe_int (fun _ _ => rfl)) (fun _ _ => rfl)) pa_nil)))
        (pss_cons (ps_asg (pe_op op_add (pe_ix ix_list (pv 0) pe_int (fun _ _ => rfl)) pe_int) (pg_sub (pv 0) pe_int set_list))
        (pss_one (ps_if (pt_cmpR op_ge (pv 2) (pe_op op_pow pe_int pe_int) (nomark _))
          (pss_one (ps_asg (pv 2) (pg_sub (pv 0) pe_int set_list)))
          (pss_one (ps_asg (pe_op op_mod (pe_callTy call_int1 rfl mi (by decide +kernel) (pa_cons (pe_op op_powL (pe_op op_add (pe_op op_add (pe_ix ix_list (pv 0) pe_int (fun _ _ => rfl)) (pe_op op_mul (pe_op op_mod (pe_callTy call_int1 rfl mi (by decide +kernel) (pa_cons (pv 2) pa_nil)) pe_int) pe_int)) pe_int) pe_int) pa_nil)) pe_int) (pg_sub (pv 0) pe_int set_list)))))))
        pss_nil)
    (pss_cons (ps_if (pt_cmpR op_gt (pe_ix ix_list (pv 0) pe_int (fun _ _ => rfl)) pe_int (nomark _))
        (pss_cons (ps_set (i := 3) scDraw.nd rfl (Or.inl rfl) (pe_op op_mod (pe_callTy call_int1 rfl mi (by decide +kernel) (pa_cons (pe_ix ix_list (pv 0) pe_int (fun _ _ => rfl)) pa_nil)) (pv 1)))
        (pss_cons (ps_asg (pe_op op_fdiv (pe_callTy call_int1 rfl mi (by decide +kernel) (pa_cons (pe_ix ix_list (pv 0) pe_int (fun _ _ => rfl)) pa_nil)) (pv 1)) (pg_sub (pv 0) pe_int set_list))
        (pss_one (ps_ret (pv 3)))))
        pss_nil)
    (pss_cons (ps_asg (pe_op op_mod (pe_callTy call_int1 rfl mi (by decide +kernel) (pa_cons (pe_op op_powL (pe_op op_add (pe_op op_add (pe_ix ix_list (pv 0) pe_int (fun _ _ => rfl)) (pe_op op_mul (pe_ix ix_list (pv 0) pe_int (fun _ _ => rfl)) pe_int)) pe_int) pe_int) pa_nil)) pe_int) (pg_sub (pv 0) pe_int set_list))
    (pss_one (ps_ret (pe_op op_mod (pe_callTy call_int1 rfl mi (by decide +kernel) (pa_cons (pe_op op_fdivW (pe_ix ix_list (pv 0) pe_int (fun _ _ => rfl)) pe_int) pa_nil)) (pv 1))))))), ?_⟩
  refine ⟨_, rfl, B, _, 4, _, rfl, rfl, SqL.of hB, rfl, c, 1, rfl, rfl, _, rfl, B, _, 4, 4, rfl, rfl, hB, rfl, ?_⟩
  have e1 : (bagL p i r sd c).set 4 (.int (c + 1)) = bagL p i r sd (c + 1) := rfl
  have hB1 : (upd H B (.lst ((bagL p i r sd c).set 4 (.int (c + 1))))) B = some (.lst (bagL p i r sd (c + 1))) := upd_same
  have hp1 : (upd H B (.lst ((bagL p i r sd c).set 4 (.int (c + 1))))) p = some (.lst (ns.map V.int)) := by rw [upd_ne np]; exact hp
  have b1 : But B H (upd H B (.lst ((bagL p i r sd c).set 4 (.int (c + 1))))) := fun b o n z => by rw [upd_ne n]; exact z
  generalize upd H B (.lst ((bagL p i r sd c).set 4 (.int (c + 1)))) = H1 at hB1 hp1 b1 ⊢
  refine ⟨fun σ' H' => ∃ (i r sd : Int) (v w : Option V), σ' = [some (.ref B), some (.int L), v, w] ∧ H' B = some (.lst (bagL p i r sd (c + 1))) ∧ H' p = some (.lst (ns.map V.int)) ∧ But B H H' ∧ 0 ≤ i ∧ 0 ≤ r ∧ 0 ≤ sd ∧ sd < 2305843009213693951, ?_, ?_⟩
  · refine ⟨_, rfl, B, _, 2, _, rfl, rfl, SqL.of hB1, rfl, rfl, _, rfl, ?_⟩
    refine ite2 (fun _ => ?_) (fun _ => iteF ⟨i, r, sd, none, none, rfl, hB1, hp1, b1, i0, r0, s0, s1⟩)
    refine ⟨_, rfl, B, _, 1, _, rfl, rfl, SqL.of hB1, rfl, _, rfl, B, _, 0, _, rfl, rfl, SqL.of hB1, rfl, p, _, rfl, .inl (SqL.of hp1), i, _, rfl, rfl, _, rfl, ?_⟩
    refine ite2 (fun c1 => ?_) (fun _ => ⟨i, r, sd, none, none, rfl, hB1, hp1, b1, i0, r0, s0, s1⟩)
    have c2 : i < (((ns.map V.int).length : Nat) : Int) := of_decide_eq_true c1
    rw [List.length_map] at c2
    have hz : (ns.map V.int)[i.toNat]? = some (.int (ns[i.toNat]'(by omega))) := by rw [List.getElem?_map, List.getElem?_eq_getElem (by omega)]; rfl
    generalize ns[i.toNat]'(by omega) = z at hz
    have ha : atI (ns.map V.int) i = some (.int z) := at_of (by omega) hz
    refine ⟨_, rfl, B, _, 0, _, rfl, rfl, SqL.of hB1, rfl, _, rfl, B, _, 1, _, rfl, rfl, SqL.of hB1, rfl, p, _, i, _, rfl, rfl, SqL.of hp1, ha, .inl ⟨z, rfl, ?_⟩⟩
    refine ⟨_, rfl, B, _, 1, _, rfl, rfl, SqL.of hB1, rfl, i, 1, rfl, rfl, _, rfl, B, _, 1, 1, rfl, rfl, hB1, rfl, ?_⟩
    have hB2 : (upd H1 B (.lst ((bagL p i r sd (c + 1)).set 1 (.int (i + 1))))) B = some (.lst (bagL p (i + 1) r sd (c + 1))) := upd_same
    have hp2 : (upd H1 B (.lst ((bagL p i r sd (c + 1)).set 1 (.int (i + 1))))) p = some (.lst (ns.map V.int)) := by rw [upd_ne np]; exact hp1
    have b2 : But B H (upd H1 B (.lst ((bagL p i r sd (c + 1)).set 1 (.int (i + 1))))) := b1.trans fun b o n z => by rw [upd_ne n]; exact z
    generalize upd H1 B (.lst ((bagL p i r sd (c + 1)).set 1 (.int (i + 1)))) = H2 at hB2 hp2 b2 ⊢
    refine ⟨_, rfl, 10, 18, rfl, rfl, ⟨by decide, by decide, by decide⟩, z, _, rfl, rfl, _, rfl, ?_⟩
    refine ite2 (fun c3 => ?_) (fun _ => ?_)
    · have c4 : (10 : Int) ^ (18 : Int).toNat ≤ z := of_decide_eq_true c3
      refine ⟨_, rfl, _, rfl, B, _, 2, 2, rfl, rfl, hB2, rfl, i + 1, z, sd, some (.int z), none, rfl, upd_same, by rw [upd_ne np]; exact hp2, b2.trans fun b o n z => by rw [upd_ne n]; exact z, by omega, ?_, s0, s1⟩
      exact Int.le_trans (by decide) c4
    · refine ⟨_, rfl, B, _, 3, _, rfl, rfl, SqL.of hB2, rfl, _, rfl, .inl ⟨z, rfl, ?_⟩⟩
      have v0 := Int.emod_nonneg z (show (2305843009213693921 : Int) ≠ 0 by decide)
      have v1 := Int.emod_lt_of_pos z (show (0 : Int) < 2305843009213693921 by decide)
      refine ⟨z, 2305843009213693921, rfl, rfl, (by show (0 : Int) < 2305843009213693921; decide), _, 11, rfl, rfl, .inr ⟨by decide, by decide⟩, sd, _, rfl, rfl, _, 41, rfl, rfl, _, 3, rfl, rfl, ?_, .inl ⟨_, rfl, ?_⟩⟩
      · exact pow_bd (n := 70) (by omega) (by decide)
      refine ⟨_, 2305843009213693951, rfl, rfl, (by show (0 : Int) < 2305843009213693951; decide), _, rfl, B, _, 3, 3, rfl, rfl, hB2, rfl, i + 1, r, _, some (.int z), none, rfl, upd_same, by rw [upd_ne np]; exact hp2, b2.trans fun b o n z => by rw [upd_ne n]; exact z, by omega, r0, Int.emod_nonneg _ (by decide), Int.emod_lt_of_pos _ (by decide)⟩
  · rintro σ' H' ⟨i, r, sd, v, w', rfl, hB2, hp2, b2, i0, r0, s0, s1⟩
    refine ⟨_, rfl, B, _, 2, _, rfl, rfl, SqL.of hB2, rfl, r, 0, rfl, rfl, _, rfl, ?_⟩
    refine ite2 (fun _ => ?_) (fun _ => ?_)
    · refine ⟨_, rfl, B, _, 2, _, rfl, rfl, SqL.of hB2, rfl, .inl ⟨r, rfl, _, rfl, r, L, rfl, rfl, l1, ?_⟩⟩
      refine ⟨_, rfl, B, _, 2, _, rfl, rfl, SqL.of hB2, rfl, .inl ⟨r, rfl, _, rfl, r, L, rfl, rfl, ⟨l1, l2⟩, _, rfl, B, _, 2, 2, rfl, rfl, hB2, rfl, ?_⟩⟩
      refine ⟨_, rfl, q _ _ ⟨ns, i, r / L, sd, c + 1, upd_same, by rw [upd_ne np]; exact hp2, np, i0, Int.ediv_nonneg r0 (by omega), s0, s1, by omega, by omega⟩ (b2.trans fun b o n z => by rw [upd_ne n]; exact z) (Int.emod_nonneg _ (by omega)) (Int.emod_lt_of_pos _ l1)⟩
    · refine ⟨_, rfl, B, _, 3, _, rfl, rfl, SqL.of hB2, rfl, _, rfl, B, _, 4, _, rfl, rfl, SqL.of hB2, rfl, c + 1, 1000003, rfl, rfl, .inr ⟨by decide, by decide⟩, sd, _, rfl, rfl, _, 31, rfl, rfl, _, 3, rfl, rfl, ?_, .inl ⟨_, rfl, ?_⟩⟩
      · exact pow_bd (n := 70) (by omega) (by decide)
      refine ⟨_, 2305843009213693951, rfl, rfl, (by show (0 : Int) < 2305843009213693951; decide), _, rfl, B, _, 3, 3, rfl, rfl, hB2, rfl, ?_⟩
      have v0 := Int.emod_nonneg ((sd + (c + 1) * 1000003 + 31) ^ Int.toNat 3) (show (2305843009213693951 : Int) ≠ 0 by decide)
      have v1 := Int.emod_lt_of_pos ((sd + (c + 1) * 1000003 + 31) ^ Int.toNat 3) (show (0 : Int) < 2305843009213693951 by decide)
      have hB3 : (upd H' B (.lst ((bagL p i r sd (c + 1)).set 3 (.int ((sd + (c + 1) * 1000003 + 31) ^ Int.toNat 3 % 2305843009213693951))))) B = some (.lst (bagL p i r ((sd + (c + 1) * 1000003 + 31) ^ Int.toNat 3 % 2305843009213693951) (c + 1))) := upd_same
      have hp3 : (upd H' B (.lst ((bagL p i r sd (c + 1)).set 3 (.int ((sd + (c + 1) * 1000003 + 31) ^ Int.toNat 3 % 2305843009213693951))))) p = some (.lst (ns.map V.int)) := by rw [upd_ne np]; exact hp2
      have b3 : But B H (upd H' B (.lst ((bagL p i r sd (c + 1)).set 3 (.int ((sd + (c + 1) * 1000003 + 31) ^ Int.toNat 3 % 2305843009213693951))))) := b2.trans fun b o n z => by rw [upd_ne n]; exact z
      refine ⟨_, rfl, B, _, 3, _, rfl, rfl, SqL.of hB3, rfl, _, 1073741827, rfl, rfl, ⟨by decide, by decide⟩, .inl ⟨_, rfl, _, rfl, _, L, rfl, rfl, l1, ?_⟩⟩
      exact q _ _ ⟨ns, i, r, _, c + 1, hB3, hp3, np, i0, r0, v0, v1, by omega, by omega⟩ b3 (Int.emod_nonneg _ (by omega)) (Int.emod_lt_of_pos _ l1)
end
end Kx
end
section
set_option maxHeartbeats 4000000
namespace Kx
open PySem PySem.Spec PyProof.Rows L2
theorem cut_map (ns : List Int) (lo hi : Option Int) : ∃ ms : List Int, cutV (ns.map V.int) lo hi = ms.map V.int := by
  unfold cutV
  rw [List.length_map, ← List.map_drop, ← List.map_take]
  exact ⟨_, rfl⟩
def spBag (K : PySem.W.Frag) : Sp := fun vs H Q _ => ∃ (a : Addr) (ns : List Int), vs = [.ref a] ∧ SqL K H a (ns.map V.int) ∧ ∀ H' B p, Same H H' → H B = none → Bag 1000000 H' B p → Q (.ref B) H'
theorem new_same {H : Hp} {p : Addr} (h : H p = none) (o : HO) : Same H (upd H p o) := fun b u q => by rw [upd_ne (ne_of_none q h)]; exact q
section
variable {P : Program} {w : World} {K : PySem.W.Frag} {mg : Str → Option Value} {base : Heap} {f fD : Addr} {fd fdD : FuncData}
theorem scBag : FnScope ["_law_script", "_law_mixed", "_law_cell"] ["_law_script"] (defScope L_bag) := ⟨rfl, rfl, rfl, by decide +kernel, rfl, by decide +kernel, by decide +kernel⟩
theorem ok_bag (F : Fun K "_law_bag" "_law_bag" L_bag f fd) (ml : mg "list" = none) (mi : mg "int" = none) : FnOk P w K mg base CX0 1 f fd ["_law_script"] (spBag K) := by
  refine F.ok scBag (fun vs H Q E h => ?_) (fun cdv A outer s H vs Q E hr h => ?_)
  · obtain ⟨a, ns, rfl, _⟩ := h
    rfl
  obtain ⟨a, ns, rfl, hS, q⟩ := h
  obtain ⟨ms, hm⟩ := cut_map ns none (some 63)
  refine ⟨_, pss_cons (ps_set (i := 1) scBag.nd rfl (Or.inl rfl) pe_int)
    (pss_cons (ps_for PassesOwn.never rfl (pi_list (pe_slice sl_list (pv 0) po_none (po_some pe_int))) (pg_name (i := 2) scBag.nd rfl (Or.inl rfl))
      (pss_one (ps_set (i := 1) scBag.nd rfl (Or.inl rfl) (pe_op op_mod (pe_callTy call_int1 rfl mi (by decide +kernel) (pa_cons (pe_op op_powL (pe_op op_add (pe_op op_add (pv 1) (pe_op op_mod (pe_callTy call_int1 rfl mi (by decide +kernel) (pa_cons (pv 2) pa_nil)) pe_int)) pe_int) pe_int) pa_nil)) pe_int))))
    (pss_one (ps_ret (pe_lst (pa_cons (pe_callTy call_list_of rfl ml (by decide +kernel) (pa_cons (pe_slice sl_list (pv 0) po_none (po_some pe_int)) pa_nil)) (pa_cons pe_int (pa_cons pe_int (pa_cons (pv 1) (pa_cons pe_int pa_nil))))))))), ?_⟩
  refine ⟨_, rfl, 63, rfl, a, _, rfl, hS, fun p np => ⟨p, rfl, ⟨_, SqL.of upd_same⟩, for_list (K := K) (a := p) (xs := cutV (ns.map V.int) none (some 63))
    (fun i σ H' => ∃ (sd : Int) (v : Option V), σ = [some (.ref a), some (.int sd), v] ∧ 0 ≤ sd ∧ sd < 2305843009213693951 ∧ H' = upd H p (.lst (cutV (ns.map V.int) none (some 63)))) ⟨13960, none, rfl, by decide, by decide, rfl⟩ (fun i σ H' _ h => ?_) ?_ ?_⟩⟩
  · obtain ⟨_, _, _, _, _, rfl⟩ := h
    exact SqL.of upd_same
  · rintro i y σ H' hy ⟨sd, v, rfl, s0, s1, rfl⟩
    obtain ⟨z, rfl⟩ : ∃ z, y = V.int z := by
      rw [hm, List.getElem?_map] at hy
      obtain ⟨z, _, e⟩ := Option.map_eq_some_iff.mp hy
      exact ⟨z, e.symm⟩
    have v0 := Int.emod_nonneg z (show (2305843009213693921 : Int) ≠ 0 by decide)
    have v1 := Int.emod_lt_of_pos z (show (0 : Int) < 2305843009213693921 by decide)
    refine ⟨_, rfl, _, rfl, .inl ⟨z, rfl, z, 2305843009213693921, rfl, rfl, (by show (0 : Int) < 2305843009213693921; decide), sd, _, rfl, rfl, _, 389, rfl, rfl, _, 3, rfl, rfl, ?_, .inl ⟨_, rfl, _, 2305843009213693951, rfl, rfl, (by show (0 : Int) < 2305843009213693951; decide), ?_⟩⟩⟩
    · exact pow_bd (n := 70) (by omega) (by decide)
    exact ⟨_, _, rfl, Int.emod_nonneg _ (by decide), Int.emod_lt_of_pos _ (by decide), rfl⟩
  · rintro σ H' ⟨sd, v, rfl, s0, s1, rfl⟩
    have g1 : Same H (upd H p (.lst (cutV (ns.map V.int) none (some 63)))) := new_same np _
    generalize upd H p (.lst (cutV (ns.map V.int) none (some 63))) = H1 at g1
    refine ⟨_, rfl, 63, rfl, a, _, rfl, g1.seq hS, fun p2 np2 => ⟨p2, _, rfl, .inl (SqL.of upd_same), fun l nl => ?_⟩⟩
    have g2 := g1.trans (new_same np2 (.lst (cutV (ns.map V.int) none (some 63))))
    generalize upd H1 p2 (.lst (cutV (ns.map V.int) none (some 63))) = H2 at g2 nl
    have g3 := g2.trans (new_same nl (.lst (cutV (ns.map V.int) none (some 63))))
    have hl : (upd H2 l (.lst (cutV (ns.map V.int) none (some 63)))) l = some (.lst (ms.map V.int)) := by rw [upd_same, hm]
    generalize upd H2 l (.lst (cutV (ns.map V.int) none (some 63))) = H3 at g3 hl
    refine ⟨_, rfl, (by show 5 ≤ sizeLine; decide), fun B nB => q _ B l (g3.trans (new_same nB _)) (g3.free nB) ⟨ms, 0, 0, sd, 0, upd_same, ?_, ?_, by decide, by decide, s0, s1, by decide, by decide⟩⟩
    · rw [upd_ne (ne_of_none hl nB)]
      exact hl
    · exact ne_of_none hl nB
/-! ### one of several -/
def spOfL : Sp := fun vs H Q _ => ∃ (n : Nat) (B p t : Addr) (xs : List V), vs = [.ref B, .ref t] ∧ H t = some (.lst xs) ∧ t ≠ B ∧ 0 < xs.length ∧ xs.length ≤ 1000 ∧ Bag (n + 1) H B p ∧ ∀ H' x, Bag n H' B p → But B H H' → x ∈ xs → Q x H'
theorem scOf : FnScope ["_law_bag_here", "_law_things"] ["_law_bag_here", "_law_things"] (defScope L_of) := ⟨rfl, rfl, rfl, by decide +kernel, rfl, by decide +kernel, by decide +kernel⟩
theorem at_in {xs : List V} {k : Int} (h0 : 0 ≤ k) (h1 : k < (xs.length : Int)) : ∃ x, atI xs k = some x ∧ x ∈ xs := by
  have hk : k.toNat < xs.length := by omega
  exact ⟨xs[k.toNat], at_of (by omega) (List.getElem?_eq_getElem hk), List.getElem_mem hk⟩
theorem ok_ofL (F : Fun K "_law_of" "_law_of" L_of f fd) (G : FnOk P w K mg base CX0 1 fD fdD ["_law_bag_here", "_law_many_y"] spDraw) (bD : Binds K fdD ["_law_bag_here", "_law_many_y"] []) (kD : PySem.W.keepIn K (.ref fD) = true) (mD : mg "_law_draw" = some (.ref fD)) (ml : mg "len" = none) :
    FnOk P w K mg base CX0 2 f fd ["_law_bag_here", "_law_things"] spOfL := by
  refine F.ok scOf (fun vs H Q E h => ?_) (fun cdv A outer s H vs Q E hr h => ?_)
  · obtain ⟨n, B, p, t, xs, rfl, _⟩ := h
    rfl
  obtain ⟨n, B, p, t, xs, rfl, ht, nt, l0, l1, hb, q⟩ := h
  refine ⟨_, pss_one (ps_ret (pe_ix ix_list (pv 1) (pe_call G hr rfl mD kD bD .nil pass0 (pa_cons (pv 0) (pa_cons (pe_callB call_len_seq rfl ml PySem.boot_len (pa_cons (pv 1) pa_nil)) pa_nil))) (fun _ _ => rfl))), ?_⟩
  refine ⟨_, rfl, _, rfl, _, rfl, t, _, rfl, .inl (SqL.of ht), n, B, p, _, rfl, by omega, by omega, hb, fun H' k b' u k0 k1 => ?_⟩
  obtain ⟨x, hx, hm⟩ := at_in k0 k1
  exact ⟨t, xs, k, x, rfl, rfl, SqL.of (u _ _ nt ht), hx, q H' x b' u hm⟩
end
end Kx
end
section
set_option maxHeartbeats 4000000
namespace Kx
open PySem PySem.Spec PyProof.Rows L2
/-- // by any divisor but 0, below 2 ^ 9000 -/
theorem op_fdivA {X : Cx} : OpR X (binaryOp .FloorDiv) (rI (fun _ j => j ≠ 0 ∧ j.natAbs.log2 < 9000) fun i j => .int (i.fdiv j)) := opI fun _ _ _ _ _ _ _ hc q => floordiv_int hc.1 q (.inl (PyProof.noPylong_of_log2 hc.2))
/-- the greatest common divisor, with the sign of q -/
def gS (p q : Int) : Int := if q < 0 then -((Nat.gcd p.natAbs q.natAbs : Nat) : Int) else ((Nat.gcd p.natAbs q.natAbs : Nat) : Int)
/-- p over q in lowest terms, above and below -/
def lowU (p q : Int) : Int := p.fdiv (gS p q)
def lowL (p q : Int) : Int := q.fdiv (gS p q)
theorem gS_ne {p q : Int} (h : q ≠ 0) : gS p q ≠ 0 := by
  have g : Nat.gcd p.natAbs q.natAbs ≠ 0 := fun e => h (Int.natAbs_eq_zero.mp (Nat.eq_zero_of_gcd_eq_zero_right e))
  unfold gS
  split <;> omega
theorem gS_abs (p q : Int) : (gS p q).natAbs = Nat.gcd p.natAbs q.natAbs := by
  unfold gS
  split <;> omega
theorem gS_le {p q : Int} (h : q ≠ 0) : (gS p q).natAbs ≤ q.natAbs := by
  rw [gS_abs]
  exact Nat.gcd_le_right _ (Nat.pos_of_ne_zero (fun e => h (Int.natAbs_eq_zero.mp e)))
theorem log_le {a b : Nat} (h : a ≤ b) : a.log2 ≤ b.log2 := by
  by_cases e : a = 0
  · subst e
    rw [Nat.log2_zero]
    omega
  · have := Nat.log2_self_le e
    exact (Nat.le_log2 (by omega)).mpr (Nat.le_trans this h)
theorem abs_nat (i : Int) : (if i < 0 then -i else i) = ((i.natAbs : Nat) : Int) := by
  split <;> omega
def spLow : Sp := fun vs H Q _ => ∃ p q : Int, vs = [.int p, .int q] ∧ q ≠ 0 ∧ q.natAbs.log2 < 9000 ∧ ∀ t, H t = none → Q (.ref t) (upd H t (.tup [.int (lowU p q), .int (lowL p q)]))
section
variable {P : Program} {w : World} {K : PySem.W.Frag} {mg : Str → Option Value} {base : Heap} {f : Addr} {fd : FuncData}
end
end Kx
end
section
set_option maxHeartbeats 4000000
namespace Kx
open PySem PySem.Spec PyProof.Rows L2
theorem low_rat {p q : Int} (h : q ≠ 0) : lowU p q = (Rat.divInt p q).num ∧ lowL p q = ((Rat.divInt p q).den : Int) := by
  have g0 : 0 < Nat.gcd p.natAbs q.natAbs := Nat.gcd_pos_of_pos_right _ (Nat.pos_of_ne_zero fun e => h (Int.natAbs_eq_zero.mp e))
  obtain ⟨a, ha⟩ : ((Nat.gcd p.natAbs q.natAbs : Nat) : Int) ∣ p := Int.ofNat_dvd_left.mpr (Nat.gcd_dvd_left _ _)
  obtain ⟨b, hb⟩ : ((Nat.gcd p.natAbs q.natAbs : Nat) : Int) ∣ q := Int.ofNat_dvd_left.mpr (Nat.gcd_dvd_right _ _)
  have gi : (0 : Int) < ((Nat.gcd p.natAbs q.natAbs : Nat) : Int) := by omega
  have gc : Int.gcd q p = Nat.gcd p.natAbs q.natAbs := Nat.gcd_comm _ _
  have key : gS p q = q.sign * ((Nat.gcd p.natAbs q.natAbs : Nat) : Int) ∧ (q.sign = 1 ∨ q.sign = -1) ∧ (q.natAbs : Int) = q.sign * q := by
    unfold gS
    by_cases c : q < 0
    · rw [if_pos c, Int.sign_eq_neg_one_of_neg c]
      omega
    · have c2 : 0 < q := by omega
      rw [if_neg c, Int.sign_eq_one_of_pos c2]
      omega
  obtain ⟨hg, hs, hab⟩ := key
  rw [Rat.num_divInt, Rat.den_divInt, if_neg h, gc]
  unfold lowU lowL
  rw [hg]
  generalize q.sign = s at hs hab ⊢
  generalize ((Nat.gcd p.natAbs q.natAbs : Nat)) = g at *
  have ne : s * (g : Int) ≠ 0 := by rcases hs with rfl | rfl <;> omega
  have dv : ∀ x y : Int, x = (g : Int) * y → x.fdiv (s * g) = s * y := fun x y e => by
    have z : (g : Int) * y = s * (g : Int) * (s * y) := by
      rcases hs with rfl | rfl
      · simp
      · rw [Int.neg_one_mul, Int.neg_one_mul, Int.neg_mul_neg]
    rw [e, z]
    exact Int.mul_fdiv_cancel_left _ ne
  rw [dv p a ha, dv q b hb]
  constructor
  · have e : s * p = (g : Int) * (s * a) := by rw [ha, Int.mul_left_comm]
    rw [e, Int.mul_ediv_cancel_left _ (by omega)]
  · rw [Int.natCast_ediv, hab]
    have e : s * q = (g : Int) * (s * b) := by rw [hb, Int.mul_left_comm]
    rw [e, Int.mul_ediv_cancel_left _ (by omega)]
/-- above and below less than 2 ^ n -/
def Bq (n : Nat) (q : Rat) : Prop := q.num.natAbs < 2 ^ n ∧ q.den < 2 ^ n
theorem Bq.mono {n m : Nat} {q : Rat} (h : Bq n q) (k : n ≤ m) : Bq m q := ⟨Nat.lt_of_lt_of_le h.1 (Nat.pow_le_pow_right (by decide) k), Nat.lt_of_lt_of_le h.2 (Nat.pow_le_pow_right (by decide) k)⟩
theorem div_bd {p q : Int} {n m : Nat} (h : q ≠ 0) (hp : p.natAbs < 2 ^ n) (hq : q.natAbs < 2 ^ m) : (Rat.divInt p q).num.natAbs < 2 ^ n ∧ (Rat.divInt p q).den < 2 ^ m := by
  have g0 : 0 < Int.gcd q p := Int.gcd_pos_of_ne_zero_left _ h
  constructor
  · rw [Rat.num_divInt]
    refine Nat.lt_of_le_of_lt ?_ hp
    have e : (q.sign * p).natAbs = p.natAbs := by
      rw [Int.natAbs_mul, Int.natAbs_sign_of_ne_zero h, Nat.one_mul]
    rw [← e]
    refine Nat.le_trans (Int.natAbs_ediv_le_natAbs _ _) (Nat.le_refl _)
  · rw [Rat.den_divInt, if_neg h]
    exact Nat.lt_of_le_of_lt (Nat.div_le_self _ _) hq
theorem rat_add (a b : Rat) : a + b = Rat.divInt (a.num * b.den + b.num * a.den) (a.den * b.den) := by
  have h1 : (a.den : Int) ≠ 0 := by have := a.den_nz; omega
  have h2 : (b.den : Int) ≠ 0 := by have := b.den_nz; omega
  rw [← Rat.divInt_add_divInt _ _ h1 h2, Rat.num_divInt_den, Rat.num_divInt_den]
theorem rat_mul (a b : Rat) : a * b = Rat.divInt (a.num * b.num) (a.den * b.den) := by
  rw [← Rat.divInt_mul_divInt, Rat.num_divInt_den, Rat.num_divInt_den]
theorem rat_sub (a b : Rat) : a - b = Rat.divInt (a.num * b.den - b.num * a.den) (a.den * b.den) := by
  rw [Rat.sub_eq_add_neg, rat_add, Rat.neg_num, Rat.neg_den, Int.neg_mul, Int.sub_eq_add_neg]
theorem den_ne (a : Rat) : (a.den : Int) ≠ 0 := by have := a.den_nz; omega
theorem lt_add {x y : Int} {n : Nat} (hx : x.natAbs < 2 ^ n) (hy : y.natAbs < 2 ^ n) : (x + y).natAbs < 2 ^ (n + 1) := by
  have := Int.natAbs_add_le x y
  rw [Nat.pow_succ]
  omega
theorem lt_mul {i j : Int} {a b : Nat} (ha : i.natAbs < 2 ^ a) (hb : j.natAbs < 2 ^ b) : (i * j).natAbs < 2 ^ (a + b) := by
  rw [Int.natAbs_mul, Nat.pow_add]
  exact Nat.mul_lt_mul'' ha hb
theorem Bq.dn {n : Nat} {q : Rat} (h : Bq n q) : ((q.den : Int)).natAbs < 2 ^ n := by rw [Int.natAbs_natCast]; exact h.2
theorem Bq.add {n m : Nat} {a b : Rat} (ha : Bq n a) (hb : Bq m b) : Bq (n + m + 1) (a + b) := by
  rw [rat_add]
  have h := div_bd (Int.mul_ne_zero (den_ne a) (den_ne b)) (lt_add (lt_mul ha.1 hb.dn) (by rw [Nat.add_comm]; exact lt_mul hb.1 ha.dn)) (lt_mul ha.dn hb.dn)
  exact ⟨h.1, Nat.lt_of_lt_of_le h.2 (Nat.pow_le_pow_right (by decide) (by omega))⟩
theorem Bq.mul {n m : Nat} {a b : Rat} (ha : Bq n a) (hb : Bq m b) : Bq (n + m) (a * b) := by
  rw [rat_mul]
  exact div_bd (Int.mul_ne_zero (den_ne a) (den_ne b)) (lt_mul ha.1 hb.1) (lt_mul ha.dn hb.dn)
theorem Bq.neg {n : Nat} {a : Rat} (ha : Bq n a) : Bq n (-a) := ⟨by rw [Rat.neg_num, Int.natAbs_neg]; exact ha.1, by rw [Rat.neg_den]; exact ha.2⟩
theorem Bq.sub {n m : Nat} {a b : Rat} (ha : Bq n a) (hb : Bq m b) : Bq (n + m + 1) (a - b) := by
  rw [Rat.sub_eq_add_neg]
  exact ha.add hb.neg
theorem Bq.zero : Bq 1 0 := ⟨by decide, by decide⟩
/-- the sum of the first n products that make the number at the place k -/
def cvT (us ws : List Rat) (k : Nat) : Nat → Rat
  | 0 => 0
  | j + 1 => cvT us ws k j + us.getD j 0 * ws.getD (k - j) 0
def cnv (us ws : List Rat) (k : Nat) : Rat := cvT us ws k (k + 1)
def mulL (us ws : List Rat) : List Rat := (List.range us.length).map (cnv us ws)
def lcmL (l : Nat) : List Rat → Nat
  | [] => l
  | q :: qs => lcmL (Nat.lcm l q.den) qs
theorem lcmL_app (l : Nat) : ∀ (qs rs : List Rat), lcmL l (qs ++ rs) = lcmL (lcmL l qs) rs
  | [], _ => rfl
  | q :: qs, rs => lcmL_app (Nat.lcm l q.den) qs rs
theorem lcmL_dvd : ∀ (qs : List Rat) (l : Nat), l ∣ lcmL l qs ∧ ∀ q ∈ qs, q.den ∣ lcmL l qs
  | [], l => ⟨Nat.dvd_refl _, fun _ h => nomatch h⟩
  | q :: qs, l => by
    have h := lcmL_dvd qs (Nat.lcm l q.den)
    refine ⟨Nat.dvd_trans (Nat.dvd_lcm_left _ _) h.1, fun r hr => ?_⟩
    rcases List.mem_cons.mp hr with rfl | hr
    · exact Nat.dvd_trans (Nat.dvd_lcm_right _ _) h.1
    · exact h.2 r hr
theorem lcmL_pos : ∀ (qs : List Rat) (l : Nat), 0 < l → 0 < lcmL l qs
  | [], _, h => h
  | q :: qs, l, h => lcmL_pos qs _ (Nat.lcm_pos h (Nat.pos_of_ne_zero q.den_nz))
theorem lcmL_bd {n : Nat} : ∀ (qs : List Rat) (l m : Nat), 0 < l → l < 2 ^ m → (∀ q ∈ qs, Bq n q) → lcmL l qs < 2 ^ (m + n * qs.length)
  | [], _, _, _, h, _ => h
  | q :: qs, l, m, h0, h, hb => by
    have hq := (hb q List.mem_cons_self).2
    have e := lcmL_bd qs (Nat.lcm l q.den) (m + n) (Nat.lcm_pos h0 (Nat.pos_of_ne_zero q.den_nz)) (by
      refine Nat.lt_of_le_of_lt (Nat.le_of_dvd (Nat.mul_pos h0 (Nat.pos_of_ne_zero q.den_nz)) (Nat.lcm_dvd_mul _ _)) ?_
      rw [Nat.pow_add]
      exact Nat.mul_lt_mul'' h hq) (fun r hr => hb r (List.mem_cons_of_mem _ hr))
    rw [List.length_cons, Nat.mul_succ]
    rw [show m + (n * qs.length + n) = m + n + n * qs.length by omega]
    exact e
/-- written with one lower part -/
def upL (L : Nat) (qs : List Rat) : List Int := qs.map fun q => q.num * ((L : Int) / (q.den : Int))
theorem up_val {L : Nat} {q : Rat} (h : q.den ∣ L) : ((q.num * ((L : Int) / (q.den : Int)) : Int) : Rat) = q * (L : Rat) := by
  obtain ⟨k, rfl⟩ := h
  have hd : (q.den : Int) ≠ 0 := den_ne q
  have e : (((q.den * k : Nat) : Int) / (q.den : Int)) = (k : Int) := by
    rw [Int.natCast_mul, Int.mul_ediv_cancel_left _ hd]
  have z : q.num = q * q.den := by
    have := Rat.num_divInt_den q
    have h2 : Rat.divInt q.num q.den = (q.num : Rat) / (q.den : Rat) := by rw [Rat.divInt_eq_div]; rfl
    rw [this] at h2
    have h3 : (q.den : Rat) ≠ 0 := by
      intro h0
      have := q.den_nz
      exact this (by exact_mod_cast h0)
    grind
  rw [e, Rat.intCast_mul, z]
  have : (((q.den * k : Nat)) : Rat) = (q.den : Rat) * (k : Rat) := by exact_mod_cast rfl
  rw [this]
  have : ((k : Int) : Rat) = (k : Rat) := rfl
  rw [this]
  grind
theorem getD_up {L : Nat} {qs : List Rat} (h : ∀ q ∈ qs, q.den ∣ L) (j : Nat) : (((upL L qs).getD j 0 : Int) : Rat) = qs.getD j 0 * (L : Rat) := by
  unfold upL
  rw [List.getD_eq_getElem?_getD, List.getElem?_map, List.getD_eq_getElem?_getD]
  cases e : qs[j]? with
  | none => simp
  | some q => exact up_val (h q (List.mem_of_getElem? e))
/-- the products at a place, by whole numbers -/
def pds (xs ys : List Int) (k n : Nat) : List Int := (List.range n).map fun j => xs.getD j 0 * ys.getD (k - j) 0
theorem pds_succ (xs ys : List Int) (k n : Nat) : pds xs ys k (n + 1) = pds xs ys k n ++ [xs.getD n 0 * ys.getD (k - n) 0] := by
  unfold pds
  rw [List.range_succ, List.map_append]
  rfl
theorem pds_val {us ws : List Rat} {L M : Nat} (h : ∀ q ∈ us, q.den ∣ L) (h' : ∀ q ∈ ws, q.den ∣ M) (k : Nat) : ∀ n, (((pds (upL L us) (upL M ws) k n).sum : Int) : Rat) = cvT us ws k n * ((L : Rat) * (M : Rat))
  | 0 => by
    show ((0 : Int) : Rat) = 0 * _
    rw [Rat.zero_mul]
    rfl
  | n + 1 => by
    rw [pds_succ, List.sum_append, Rat.intCast_add, pds_val h h' k n]
    have e : ([(upL L us).getD n 0 * (upL M ws).getD (k - n) 0] : List Int).sum = (upL L us).getD n 0 * (upL M ws).getD (k - n) 0 := by simp
    rw [e, Rat.intCast_mul, getD_up h, getD_up h']
    show _ = (cvT us ws k n + us.getD n 0 * ws.getD (k - n) 0) * _
    grind
theorem cnv_ratio {us ws : List Rat} {L M : Nat} (h : ∀ q ∈ us, q.den ∣ L) (h' : ∀ q ∈ ws, q.den ∣ M) (l0 : 0 < L) (m0 : 0 < M) (k : Nat) :
    Rat.divInt (pds (upL L us) (upL M ws) k (k + 1)).sum ((L : Int) * (M : Int)) = cnv us ws k := by
  rw [Rat.divInt_eq_div, pds_val h h']
  have e : (((L : Int) * (M : Int) : Int) : Rat) = (L : Rat) * (M : Rat) := by rw [Rat.intCast_mul]; rfl
  have lz : (L : Rat) ≠ 0 := by
    intro z
    have : L = 0 := by exact_mod_cast z
    omega
  have mz : (M : Rat) ≠ 0 := by
    intro z
    have : M = 0 := by exact_mod_cast z
    omega
  rw [e]
  unfold cnv
  have : (L : Rat) * (M : Rat) ≠ 0 := by
    intro z
    rcases Rat.mul_eq_zero.mp z with z | z
    · exact lz z
    · exact mz z
  grind
theorem getD_bq {n : Nat} {us : List Rat} (h : ∀ q ∈ us, Bq n q) (n0 : 1 ≤ n) (j : Nat) : Bq n (us.getD j 0) := by
  rw [List.getD_eq_getElem?_getD]
  cases e : us[j]? with
  | none => exact Bq.zero.mono n0
  | some q => exact h q (List.mem_of_getElem? e)
theorem cvT_bd {n m : Nat} {us ws : List Rat} (h : ∀ q ∈ us, Bq n q) (h' : ∀ q ∈ ws, Bq m q) (n0 : 1 ≤ n) (m0 : 1 ≤ m) (k : Nat) : ∀ j, Bq (1 + j * (n + m + 1)) (cvT us ws k j)
  | 0 => by rw [Nat.zero_mul]; exact Bq.zero
  | j + 1 => by
    have := (cvT_bd h h' n0 m0 k j).add ((getD_bq h n0 j).mul (getD_bq h' m0 (k - j)))
    exact this.mono (by rw [Nat.succ_mul]; omega)
/-- the least place, from f on, with a number that is not 0 -/
def hgtN : List Rat → Nat → Option Nat
  | [], _ => none
  | q :: qs, f => if q = 0 then hgtN qs (f + 1) else some f
theorem hgtN_app_zero : ∀ (qs : List Rat) (f : Nat) (rs : List Rat), (∀ q ∈ qs, q = 0) → hgtN (qs ++ rs) f = hgtN rs (f + qs.length)
  | [], f, rs, _ => rfl
  | q :: qs, f, rs, h => by
    show (if q = 0 then hgtN (qs ++ rs) (f + 1) else some f) = _
    rw [if_pos (h q List.mem_cons_self), hgtN_app_zero qs (f + 1) rs (fun r hr => h r (List.mem_cons_of_mem _ hr)), List.length_cons]
    congr 1
    omega
theorem hgtN_shift : ∀ (qs : List Rat) (f : Nat), hgtN qs f = (hgtN qs 0).map (· + f)
  | [], _ => rfl
  | q :: qs, f => by
    show (if q = 0 then hgtN qs (f + 1) else some f) = (if q = 0 then hgtN qs 1 else some 0).map (· + f)
    by_cases h : q = 0
    · rw [if_pos h, if_pos h, hgtN_shift qs (f + 1), hgtN_shift qs 1, Option.map_map]
      congr 1
      funext x
      show x + (f + 1) = x + 1 + f
      omega
    · rw [if_neg h, if_neg h]
      simp
end Kx
end
section
set_option maxHeartbeats 4000000
namespace Kx
/-! ### numbers over a common lower part L, with less than B bits above it -/
def Dq (L B : Nat) (q : Rat) : Prop := ∃ z : Int, q * (L : Rat) = (z : Rat) ∧ z.natAbs < 2 ^ B
def AllD (L B : Nat) (qs : List Rat) : Prop := ∀ q ∈ qs, Dq L B q
/-- such a lower part is small enough for // -/
def SmL (L : Nat) : Prop := 0 < L ∧ L < 2 ^ 4450
/-- a number that + - * may take -/
def Ok (q : Rat) : Prop := q.num.natAbs < 2 ^ 100000 ∧ q.den < 2 ^ 4450
def AllO (qs : List Rat) : Prop := ∀ q ∈ qs, Ok q
theorem natr_ne {L : Nat} (h : 0 < L) : (L : Rat) ≠ 0 := fun z => by
  have : L = 0 := by exact_mod_cast z
  omega
theorem Dq.zero {L B : Nat} : Dq L B 0 := ⟨0, by rw [Rat.zero_mul]; rfl, Nat.pow_pos (by decide)⟩
theorem Dq.neg {L B : Nat} {a : Rat} (h : Dq L B a) : Dq L B (-a) := by
  obtain ⟨z, h, l⟩ := h
  exact ⟨-z, by rw [Rat.neg_mul, h, Rat.intCast_neg], by rw [Int.natAbs_neg]; exact l⟩
theorem Dq.add {L B C D : Nat} {a b : Rat} (ha : Dq L B a) (hb : Dq L C b) (h1 : B < D) (h2 : C < D) : Dq L D (a + b) := by
  obtain ⟨x, hx, lx⟩ := ha
  obtain ⟨y, hy, ly⟩ := hb
  refine ⟨x + y, by rw [Rat.add_mul, hx, hy, Rat.intCast_add], ?_⟩
  obtain ⟨D, rfl⟩ : ∃ d, D = d + 1 := ⟨D - 1, by omega⟩
  have h3 : 2 ^ B ≤ 2 ^ D := Nat.pow_le_pow_right (by decide) (by omega)
  have h4 : 2 ^ C ≤ 2 ^ D := Nat.pow_le_pow_right (by decide) (by omega)
  have := Int.natAbs_add_le x y
  rw [Nat.pow_succ]
  omega
theorem Dq.sub {L B C D : Nat} {a b : Rat} (ha : Dq L B a) (hb : Dq L C b) (h1 : B < D) (h2 : C < D) : Dq L D (a - b) := by
  rw [Rat.sub_eq_add_neg]
  exact ha.add hb.neg h1 h2
theorem Dq.mul {L M B C : Nat} {a b : Rat} (ha : Dq L B a) (hb : Dq M C b) : Dq (L * M) (B + C) (a * b) := by
  obtain ⟨x, hx, lx⟩ := ha
  obtain ⟨y, hy, ly⟩ := hb
  refine ⟨x * y, ?_, lt_mul lx ly⟩
  rw [Rat.intCast_mul, ← hx, ← hy, Rat.natCast_mul]
  grind
theorem Dq.mono {L B C : Nat} {a : Rat} (h : Dq L B a) (l : B ≤ C) : Dq L C a := by
  obtain ⟨z, h, k⟩ := h
  exact ⟨z, h, Nat.lt_of_lt_of_le k (Nat.pow_le_pow_right (by decide) l)⟩
/-- over a greater lower part -/
theorem Dq.up {L M B C : Nat} {a : Rat} (h : Dq L B a) (k : Nat) (e : M = L * k) (l : k ≤ 2 ^ C) : Dq M (B + C) a := by
  subst e
  obtain ⟨z, h, z2⟩ := h
  refine ⟨z * (k : Int), ?_, ?_⟩
  · rw [Rat.intCast_mul, ← h, Rat.natCast_mul]
    have : ((k : Int) : Rat) = (k : Rat) := rfl
    rw [this]
    grind
  · rw [Int.natAbs_mul, Int.natAbs_natCast, Nat.pow_add]
    exact Nat.lt_of_le_of_lt (Nat.mul_le_mul_left _ l) (Nat.mul_lt_mul_of_pos_right z2 (Nat.pow_pos (by decide)))
theorem Dq.one {L B : Nat} (h : L < 2 ^ B) : Dq L B 1 := ⟨(L : Int), by rw [Rat.one_mul]; rfl, by rw [Int.natAbs_natCast]; exact h⟩
theorem Dq.int {L B : Nat} (i : Int) (h : (i * (L : Int)).natAbs < 2 ^ B) : Dq L B (i : Rat) := ⟨i * (L : Int), by rw [Rat.intCast_mul]; rfl, h⟩
theorem Dq.dvd {L B : Nat} {q : Rat} (h : Dq L B q) (l0 : 0 < L) : q.den ∣ L := by
  obtain ⟨z, hz, _⟩ := h
  have i : ((L : Nat) : Int) ≠ 0 := by omega
  have p := natr_ne l0
  have eq : q = Rat.divInt z (L : Int) := by
    rw [Rat.divInt_eq_div, ← hz]
    show q = q * (L : Rat) / (((L : Nat) : Int) : Rat)
    have : (((L : Nat) : Int) : Rat) = (L : Rat) := rfl
    rw [this]
    grind
  rw [eq, Rat.den_divInt, if_neg i, Int.natAbs_natCast]
  exact Nat.div_dvd_of_dvd (Nat.gcd_dvd_left _ _)
/-- over a part of it -/
theorem Dq.part {L M B : Nat} {q : Rat} (h : Dq L B q) (l0 : 0 < L) (l : M ∣ L) {u : Int} (hu : (u : Rat) = q * (M : Rat)) : u.natAbs < 2 ^ B := by
  obtain ⟨z, hz, lz⟩ := h
  obtain ⟨k, rfl⟩ := l
  have k0 : k ≠ 0 := by
    rintro rfl
    rw [Nat.mul_zero] at l0
    omega
  have eq : z = u * (k : Int) := by
    have : ((u * (k : Int) : Int) : Rat) = (z : Rat) := by
      rw [Rat.intCast_mul, hu, ← hz, Rat.natCast_mul]
      have : ((k : Int) : Rat) = (k : Rat) := rfl
      rw [this]
      grind
    exact (by exact_mod_cast this.symm)
  rw [eq, Int.natAbs_mul, Int.natAbs_natCast] at lz
  have h1 : u.natAbs ≤ u.natAbs * k := Nat.le_mul_of_pos_right _ (by omega)
  omega
theorem Dq.num {L B : Nat} {q : Rat} (h : Dq L B q) (l0 : 0 < L) : q.num.natAbs < 2 ^ B := h.part l0 (h.dvd l0) (by
  have := up_val (q := q) (L := q.den) (Nat.dvd_refl _)
  rw [Int.ediv_self (den_ne q), Int.mul_one] at this
  exact this)
theorem Dq.ok {L B : Nat} {q : Rat} (h : Dq L B q) (l : SmL L) (b : B ≤ 100000) : Ok q := ⟨Nat.lt_of_lt_of_le (h.num l.1) (Nat.pow_le_pow_right (by decide) b), Nat.lt_of_le_of_lt (Nat.le_of_dvd l.1 (h.dvd l.1)) l.2⟩
/-- of a number itself -/
theorem Dq.self (q : Rat) {B : Nat} (h : q.num.natAbs < 2 ^ B) : Dq q.den B q := ⟨q.num, by
  have := up_val (q := q) (L := q.den) (Nat.dvd_refl _)
  rw [Int.ediv_self (den_ne q), Int.mul_one] at this
  exact this.symm, h⟩
theorem Ok.dn {q : Rat} (h : Ok q) : ((q.den : Int)).natAbs < 2 ^ 4450 := by rw [Int.natAbs_natCast]; exact h.2
theorem Ok.one : Ok 1 := ⟨Nat.lt_of_lt_of_le (show (1 : Rat).num.natAbs < 2 ^ 1 by decide) (Nat.pow_le_pow_right (by decide) (by decide)), Nat.lt_of_lt_of_le (show (1 : Rat).den < 2 ^ 1 by decide) (Nat.pow_le_pow_right (by decide) (by decide))⟩
theorem Ok.zero : Ok 0 := ⟨Nat.lt_of_lt_of_le (show (0 : Rat).num.natAbs < 2 ^ 1 by decide) (Nat.pow_le_pow_right (by decide) (by decide)), Nat.lt_of_lt_of_le (show (0 : Rat).den < 2 ^ 1 by decide) (Nat.pow_le_pow_right (by decide) (by decide))⟩
theorem AllD.ok {L B : Nat} {qs : List Rat} (h : AllD L B qs) (l : SmL L) (b : B ≤ 100000) : AllO qs := fun q hq => (h q hq).ok l b
theorem AllD.mono {L B C : Nat} {qs : List Rat} (h : AllD L B qs) (l : B ≤ C) : AllD L C qs := fun q hq => (h q hq).mono l
theorem AllD.getD {L B : Nat} {qs : List Rat} (h : AllD L B qs) (j : Nat) : Dq L B (qs.getD j 0) := by
  rw [List.getD_eq_getElem?_getD]
  cases x : qs[j]? with
  | none => exact Dq.zero
  | some q => exact h q (List.mem_of_getElem? x)
theorem AllD.lcm {L B : Nat} (l0 : 0 < L) : ∀ (qs : List Rat) (l : Nat), AllD L B qs → l ∣ L → lcmL l qs ∣ L
  | [], _, _, h => h
  | q :: qs, l, h, d => AllD.lcm l0 qs (Nat.lcm l q.den) (fun r hr => h r (List.mem_cons_of_mem _ hr)) (Nat.lcm_dvd d ((h q List.mem_cons_self).dvd l0))
theorem div_bq {a b : Rat} (h : b ≠ 0) : a / b = Rat.divInt (a.num * b.den) (a.den * b.num) := by
  have h1 := a.den_nz
  have bn : b.num ≠ 0 := fun z => h (Rat.num_eq_zero.mp z)
  rw [Rat.divInt_eq_div, Rat.intCast_mul, Rat.intCast_mul]
  have ha := up_val (q := a) (L := a.den) (Nat.dvd_refl _)
  have hb := up_val (q := b) (L := b.den) (Nat.dvd_refl _)
  rw [Int.ediv_self (den_ne a), Int.mul_one] at ha
  rw [Int.ediv_self (den_ne b), Int.mul_one] at hb
  have e1 : ((b.den : Int) : Rat) = (b.den : Rat) := rfl
  have e2 : ((a.den : Int) : Rat) = (a.den : Rat) := rfl
  have z1 := natr_ne (Nat.pos_of_ne_zero a.den_nz)
  have z2 := natr_ne (Nat.pos_of_ne_zero b.den_nz)
  rw [ha, hb, e1, e2]
  grind
end Kx
end
section
set_option maxHeartbeats 4000000
namespace Kx
/-! ### sums and series -/
abbrev Ser := Nat → Rat
def sumN (f : Nat → Rat) : Nat → Rat
  | 0 => 0
  | n + 1 => sumN f n + f n
theorem sum_congr {f g : Nat → Rat} : ∀ {n : Nat}, (∀ i, i < n → f i = g i) → sumN f n = sumN g n
  | 0, _ => rfl
  | n + 1, h => by
    show _ + _ = _ + _
    rw [sum_congr (n := n) fun i hi => h i (Nat.lt_succ_of_lt hi), h n (Nat.lt_succ_self n)]
theorem sum_zero {f : Nat → Rat} : ∀ {n : Nat}, (∀ i, i < n → f i = 0) → sumN f n = 0
  | 0, _ => rfl
  | n + 1, h => by
    show _ + _ = _
    rw [sum_zero (n := n) fun i hi => h i (Nat.lt_succ_of_lt hi), h n (Nat.lt_succ_self n), Rat.add_zero]
theorem sum_add (f g : Nat → Rat) : ∀ n, sumN (fun i => f i + g i) n = sumN f n + sumN g n
  | 0 => (Rat.add_zero 0).symm
  | n + 1 => by
    show sumN _ n + _ = (sumN f n + f n) + (sumN g n + g n)
    rw [sum_add f g n]
    grind
theorem sum_mul (c : Rat) (f : Nat → Rat) : ∀ n, sumN (fun i => c * f i) n = c * sumN f n
  | 0 => (Rat.mul_zero c).symm
  | n + 1 => by
    show sumN _ n + _ = c * (sumN f n + f n)
    rw [sum_mul c f n]
    grind
theorem sum_mulR (c : Rat) (f : Nat → Rat) (n : Nat) : sumN (fun i => f i * c) n = sumN f n * c := by
  rw [Rat.mul_comm, ← sum_mul]
  exact sum_congr fun i _ => Rat.mul_comm _ _
theorem sum_swap (F : Nat → Nat → Rat) (m : Nat) : ∀ n, sumN (fun i => sumN (F i) m) n = sumN (fun j => sumN (fun i => F i j) n) m
  | 0 => (sum_zero fun i _ => rfl).symm
  | n + 1 => by
    show sumN _ n + _ = sumN (fun j => sumN (fun i => F i j) n + F n j) m
    rw [sum_swap F m n, sum_add]
theorem sum_first (f : Nat → Rat) : ∀ n, sumN f (n + 1) = f 0 + sumN (fun i => f (i + 1)) n
  | 0 => by
    show (0 : Rat) + f 0 = f 0 + 0
    rw [Rat.zero_add, Rat.add_zero]
  | n + 1 => by
    show sumN f (n + 1) + f (n + 1) = f 0 + (sumN (fun i => f (i + 1)) n + f (n + 1))
    rw [sum_first f n, Rat.add_assoc]
theorem sum_refl (f : Nat → Rat) (n : Nat) : sumN (fun i => f (n - i)) (n + 1) = sumN f (n + 1) := by
  induction n generalizing f with
  | zero => rfl
  | succ n ih =>
    rw [sum_first]
    show f (n + 1) + _ = sumN f (n + 1) + f (n + 1)
    rw [← ih f, Rat.add_comm]
    congr 1
    exact sum_congr fun i _ => by rw [Nat.add_sub_add_right]
theorem sum_tri (G : Nat → Nat → Rat) : ∀ n, sumN (fun i => sumN (fun j => G j (i - j)) (i + 1)) n = sumN (fun j => sumN (G j) (n - j)) n
  | 0 => rfl
  | n + 1 => by
    have e : sumN (fun j => sumN (G j) (n + 1 - j)) (n + 1) = sumN (fun j => sumN (G j) (n - j) + G j (n - j)) (n + 1) := sum_congr fun j hj => by
      rw [show n + 1 - j = (n - j) + 1 by omega]
      rfl
    rw [e, sum_add]
    show sumN _ n + _ = (sumN (fun j => sumN (G j) (n - j)) n + sumN (G n) (n - n)) + _
    rw [sum_tri G n, Nat.sub_self]
    show _ = (_ + (0 : Rat)) + _
    rw [Rat.add_zero]
theorem sum_more {f : Nat → Rat} {n m : Nat} (l : n ≤ m) (h : ∀ i, n ≤ i → f i = 0) : sumN f m = sumN f n := by
  induction l with
  | refl => rfl
  | step l ih =>
    show sumN f _ + f _ = _
    rw [ih, h _ l, Rat.add_zero]
/-- the product of two series -/
def mulS (f g : Ser) : Ser := fun n => sumN (fun i => f i * g (n - i)) (n + 1)
def addS (f g : Ser) : Ser := fun n => f n + g n
def oneS : Ser := fun n => if n = 0 then 1 else 0
theorem mulS_comm (f g : Ser) : mulS f g = mulS g f := by
  funext n
  show _ = sumN (fun i => g i * f (n - i)) (n + 1)
  rw [← sum_refl]
  exact sum_congr fun i hi => by rw [Rat.mul_comm, show n - (n - i) = i by omega]
theorem mulS_assoc (f g h : Ser) : mulS (mulS f g) h = mulS f (mulS g h) := by
  funext n
  have e1 : mulS (mulS f g) h n = sumN (fun i => sumN (fun j => f j * g (i - j) * h (n - j - (i - j))) (i + 1)) (n + 1) := sum_congr fun i hi => by
    show sumN _ (i + 1) * _ = _
    rw [← sum_mulR]
    exact sum_congr fun j hj => by rw [show n - j - (i - j) = n - i by omega]
  rw [e1, sum_tri (fun j k => f j * g k * h (n - j - k))]
  exact sum_congr fun j hj => by
    show _ = f j * sumN _ (n - j + 1)
    rw [← sum_mul, show n + 1 - j = n - j + 1 by omega]
    exact sum_congr fun k _ => Rat.mul_assoc _ _ _
theorem oneS_mul (f : Ser) : mulS oneS f = f := by
  funext n
  show sumN _ (n + 1) = _
  rw [sum_first]
  show oneS 0 * f (n - 0) + _ = _
  rw [sum_zero fun i _ => by show (0 : Rat) * _ = 0; exact Rat.zero_mul _]
  show 1 * f n + 0 = f n
  rw [Rat.one_mul, Rat.add_zero]
theorem mulS_one (f : Ser) : mulS f oneS = f := by rw [mulS_comm, oneS_mul]
theorem mulS_add (f g h : Ser) : mulS (addS f g) h = addS (mulS f h) (mulS g h) := by
  funext n
  show sumN _ _ = sumN _ _ + sumN _ _
  rw [← sum_add]
  exact sum_congr fun i _ => Rat.add_mul _ _ _
def powS (f : Ser) : Nat → Ser
  | 0 => oneS
  | k + 1 => mulS (powS f k) f
theorem powS_one (f : Ser) : powS f 1 = f := oneS_mul f
theorem powS_add (f : Ser) (a : Nat) : ∀ b, powS f (a + b) = mulS (powS f a) (powS f b)
  | 0 => (mulS_one _).symm
  | b + 1 => by
    show mulS (powS f (a + b)) f = mulS (powS f a) (mulS (powS f b) f)
    rw [powS_add f a b, mulS_assoc]
theorem powS_low {f : Ser} (f0 : f 0 = 0) : ∀ (k n : Nat), n < k → powS f k n = 0
  | k + 1, n, h => sum_zero fun i hi => by
    rcases Nat.lt_or_ge i k with c | c
    · rw [powS_low f0 k i c, Rat.zero_mul]
    · rw [show n - i = 0 by omega, f0, Rat.mul_zero]
/-- a series with a series put in -/
def cmpS (u f : Ser) : Ser := fun n => sumN (fun j => u j * powS f j n) (n + 1)
theorem cmpS_to {u f : Ser} (f0 : f 0 = 0) {n N : Nat} (h : n < N) : sumN (fun j => u j * powS f j n) N = cmpS u f n :=
  sum_more h fun i hi => by rw [powS_low f0 i n hi, Rat.mul_zero]
theorem cmpS_add (u w f : Ser) : cmpS (addS u w) f = addS (cmpS u f) (cmpS w f) := by
  funext n
  show sumN _ _ = sumN _ _ + sumN _ _
  rw [← sum_add]
  exact sum_congr fun i _ => Rat.add_mul _ _ _
theorem cmpS_one (f : Ser) : cmpS oneS f = oneS := by
  funext n
  show sumN _ (n + 1) = _
  rw [sum_first, sum_zero fun i _ => by show (0 : Rat) * _ = 0; exact Rat.zero_mul _]
  show 1 * oneS n + 0 = _
  rw [Rat.one_mul, Rat.add_zero]
theorem cmpS_mul {u w f : Ser} (f0 : f 0 = 0) : cmpS (mulS u w) f = mulS (cmpS u f) (cmpS w f) := by
  funext n
  have e1 : cmpS (mulS u w) f n = sumN (fun j => sumN (fun a => u a * w (j - a) * powS f (a + (j - a)) n) (j + 1)) (n + 1) := sum_congr fun j hj => by
    show sumN _ (j + 1) * _ = _
    rw [← sum_mulR]
    exact sum_congr fun a ha => by rw [show a + (j - a) = j by omega]
  rw [e1, sum_tri (fun a b => u a * w b * powS f (a + b) n)]
  have e2 : mulS (cmpS u f) (cmpS w f) n = sumN (fun i => sumN (fun a => sumN (fun b => u a * w b * (powS f a i * powS f b (n - i))) (n + 1)) (n + 1)) (n + 1) := sum_congr fun i hi => by
    show cmpS u f i * cmpS w f (n - i) = _
    rw [← cmpS_to f0 (u := u) (n := i) (N := n + 1) (by omega), ← cmpS_to f0 (u := w) (n := n - i) (N := n + 1) (by omega), ← sum_mulR]
    refine sum_congr fun a _ => ?_
    rw [← sum_mul]
    exact sum_congr fun b _ => by grind
  have e3 : mulS (cmpS u f) (cmpS w f) n = sumN (fun a => sumN (fun b => u a * w b * powS f (a + b) n) (n + 1)) (n + 1) := by
    rw [e2, sum_swap]
    refine sum_congr fun a _ => ?_
    rw [sum_swap]
    refine sum_congr fun b _ => ?_
    rw [sum_mul, powS_add]
    rfl
  rw [e3]
  refine sum_congr fun a ha => (sum_more (by omega) fun b hb => ?_).symm
  rw [powS_low f0 _ _ (by omega), Rat.mul_zero]
theorem cmpS_zero {u f : Ser} : cmpS u f 0 = u 0 := by
  show (0 : Rat) + u 0 * oneS 0 = _
  show (0 : Rat) + u 0 * 1 = _
  rw [Rat.zero_add, Rat.mul_one]
theorem cmpS_pow {f g : Ser} (g0 : g 0 = 0) : ∀ k, cmpS (powS f k) g = powS (cmpS f g) k
  | 0 => cmpS_one g
  | k + 1 => by
    show cmpS (mulS _ _) g = mulS _ _
    rw [cmpS_mul g0, cmpS_pow g0 k]
theorem cmpS_assoc {u f g : Ser} (f0 : f 0 = 0) (g0 : g 0 = 0) : cmpS (cmpS u f) g = cmpS u (cmpS f g) := by
  funext n
  have e1 : cmpS (cmpS u f) g n = sumN (fun j => sumN (fun a => u a * (powS f a j * powS g j n)) (n + 1)) (n + 1) := sum_congr fun j hj => by
    show cmpS u f j * _ = _
    rw [← cmpS_to f0 (u := u) (n := j) (N := n + 1) hj, ← sum_mulR]
    exact sum_congr fun a _ => Rat.mul_assoc _ _ _
  rw [e1, sum_swap]
  refine sum_congr fun a _ => ?_
  rw [sum_mul, ← cmpS_pow g0]
  rfl
def xS : Ser := fun n => if n = 1 then 1 else 0
theorem cmpS_xl (f : Ser) : ∀ n, 0 < n → cmpS xS f n = f n := fun n h => by
  obtain ⟨m, rfl⟩ : ∃ m, n = m + 1 := ⟨n - 1, by omega⟩
  show sumN _ (m + 1 + 1) = _
  rw [sum_first, sum_first, sum_zero fun i _ => by show (0 : Rat) * _ = 0; exact Rat.zero_mul _]
  show (0 : Rat) * _ + (1 * powS f 1 (m + 1) + 0) = _
  rw [powS_one]
  grind
theorem mulS_x (f : Ser) : ∀ n, mulS f xS (n + 1) = f n := fun n => by
  rw [mulS_comm]
  show sumN _ (n + 1 + 1) = _
  rw [sum_first, sum_first, sum_zero fun i _ => by show (0 : Rat) * _ = 0; exact Rat.zero_mul _]
  show (0 : Rat) * _ + (1 * f n + 0) = _
  grind
theorem powS_x : ∀ k n, powS xS k n = if n = k then 1 else 0
  | 0, n => rfl
  | k + 1, 0 => powS_low rfl (k + 1) 0 (Nat.succ_pos k)
  | k + 1, n + 1 => by
    show mulS (powS xS k) xS (n + 1) = _
    rw [mulS_x, powS_x k n]
    by_cases c : n = k
    · rw [if_pos c, if_pos (by omega)]
    · rw [if_neg c, if_neg (by omega)]
theorem cmpS_xr (u : Ser) : cmpS u xS = u := by
  funext n
  show sumN _ n + u n * powS xS n n = _
  rw [powS_x, if_pos rfl, sum_zero fun i hi => by rw [powS_x, if_neg (by omega), Rat.mul_zero], Rat.zero_add, Rat.mul_one]
/-! only the beginning counts -/
def EqTo (n : Nat) (f g : Ser) : Prop := ∀ i, i < n → f i = g i
theorem EqTo.symm {n : Nat} {f g : Ser} (h : EqTo n f g) : EqTo n g f := fun i hi => (h i hi).symm
theorem EqTo.trans {n : Nat} {f g k : Ser} (h : EqTo n f g) (h' : EqTo n g k) : EqTo n f k := fun i hi => (h i hi).trans (h' i hi)
theorem EqTo.le {n m : Nat} {f g : Ser} (h : EqTo n f g) (l : m ≤ n) : EqTo m f g := fun i hi => h i (by omega)
theorem EqTo.mul {n : Nat} {f g k l : Ser} (h : EqTo n f g) (h' : EqTo n k l) : EqTo n (mulS f k) (mulS g l) := fun i hi => sum_congr fun j hj => by rw [h j (by omega), h' (i - j) (by omega)]
theorem EqTo.pow {n : Nat} {f g : Ser} (h : EqTo n f g) : ∀ k, EqTo n (powS f k) (powS g k)
  | 0 => fun _ _ => rfl
  | k + 1 => (EqTo.pow h k).mul h
theorem EqTo.cmp {n : Nat} {u w f g : Ser} (h : EqTo n u w) (h' : EqTo n f g) : EqTo n (cmpS u f) (cmpS w g) := fun i hi => sum_congr fun j hj => by rw [h j (by omega), h'.pow j i hi]
/-! ### lists as series -/
def ser (qs : List Rat) : Ser := fun i => qs.getD i 0
def toL (n : Nat) (f : Ser) : List Rat := (List.range n).map f
theorem toL_len (n : Nat) (f : Ser) : (toL n f).length = n := by unfold toL; rw [List.length_map, List.length_range]
theorem toL_get {n i : Nat} {f : Ser} (h : i < n) : (toL n f)[i]? = some (f i) := by
  unfold toL
  rw [List.getElem?_map, List.getElem?_range h]
  rfl
theorem ser_toL {n : Nat} {f : Ser} : EqTo n (ser (toL n f)) f := fun i hi => by
  show List.getD _ _ _ = _
  rw [List.getD_eq_getElem?_getD, toL_get hi]
  rfl
theorem toL_ser (qs : List Rat) : toL qs.length (ser qs) = qs := by
  apply List.ext_getElem?
  intro i
  rcases Nat.lt_or_ge i qs.length with c | c
  · rw [toL_get c]
    show some (List.getD _ _ _) = _
    rw [List.getD_eq_getElem?_getD, List.getElem?_eq_getElem c]
    rfl
  · rw [List.getElem?_eq_none c, List.getElem?_eq_none (by rw [toL_len]; exact c)]
theorem toL_eq {n : Nat} {f g : Ser} (h : EqTo n f g) : toL n f = toL n g := List.map_congr_left fun i hi => h i (List.mem_range.mp hi)
theorem toL_inj {n : Nat} {f g : Ser} (h : toL n f = toL n g) : EqTo n f g := fun i hi => by
  have := congrArg (fun l : List Rat => l[i]?) h
  rw [toL_get hi, toL_get hi] at this
  exact Option.some.inj this
theorem cvT_sum (us ws : List Rat) (k : Nat) : ∀ j, cvT us ws k j = sumN (fun i => ser us i * ser ws (k - i)) j
  | 0 => rfl
  | j + 1 => by
    show cvT us ws k j + _ = _
    rw [cvT_sum us ws k j]
    rfl
theorem mulL_ser (us ws : List Rat) : mulL us ws = toL us.length (mulS (ser us) (ser ws)) := List.map_congr_left fun k _ => cvT_sum us ws k (k + 1)
theorem toL_take {n m : Nat} (f : Ser) (h : m ≤ n) : (toL n f).take m = toL m f := by
  unfold toL
  rw [← List.map_take, List.take_range, Nat.min_eq_left h]
theorem mulL_toL {n : Nat} (f g : Ser) : mulL (toL n f) (toL n g) = toL n (mulS f g) := by
  rw [mulL_ser, toL_len]
  exact toL_eq (ser_toL.mul ser_toL)
end Kx
end
section
set_option maxHeartbeats 4000000
namespace Kx
open PySem PySem.Spec PyProof.Rows L2
/-! ### numbers -/
structure KP (K : PySem.W.Frag) (a : Addr) (x y : Int) : Prop where
  ex : ∃ (o : Obj) (its : Array Value) (n : Nat), K.lookup a = some o ∧ o.cls = .type "tuple" ∧ o.data = .seq its n ∧ its.size ≤ sizeLine ∧ Vals [.int x, .int y] its.toList
theorem KP.t {K : PySem.W.Frag} {a : Addr} {x y : Int} (k : KP K a x y) (H : Hp) : SqT K H a [.int x, .int y] := .inr k.ex
theorem KP.ty {K : PySem.W.Frag} {a : Addr} {x y : Int} (k : KP K a x y) (H : Hp) : TyX K H (.ref a) (.type "tuple") := by
  obtain ⟨o, its, n, h1, h2, _⟩ := k.ex
  exact .kTuple h1 h2
def rT (r : Rat) : HO := .tup [.int r.num, .int (r.den : Nat)]
/-- the fraction q stands at v, in the heap or in the module -/
def Nq (K : PySem.W.Frag) (H : Hp) (v : V) (q : Rat) : Prop := ∃ a, v = .ref a ∧ (H a = some (rT q) ∨ KP K a q.num (q.den : Nat))
section
variable {K : PySem.W.Frag} {H H' : Hp} {v : V} {q : Rat}
theorem Nq.same (h : Nq K H v q) (s : Same H H') : Nq K H' v q := by
  obtain ⟨a, e, h⟩ := h
  exact ⟨a, e, h.imp (fun h => s _ _ h) id⟩
theorem Nq.sq (h : Nq K H v q) : ∃ a, v = .ref a ∧ SqT K H a [.int q.num, .int (q.den : Nat)] ∧ TyX K H (.ref a) (.type "tuple") := by
  obtain ⟨a, e, h⟩ := h
  rcases h with h | k
  · exact ⟨a, e, SqT.of h, .base (.tup h)⟩
  · exact ⟨a, e, k.t H, k.ty H⟩
theorem Nq.at {t : Addr} (h : H t = some (rT q)) : Nq K H (.ref t) q := ⟨t, rfl, .inl h⟩
theorem Nq.dp (h : Nq K H v q) : Dp K H v (.tuple [.int q.num, .int (q.den : Nat)]) := by
  obtain ⟨a, rfl, s, _⟩ := h.sq
  exact .tup s (.cons (.int _) (.cons (.int _) .nil))
end
/-- a list of numbers -/
def Nl (K : PySem.W.Frag) (H : Hp) (xs : List V) (qs : List Rat) : Prop := xs.length = qs.length ∧ ∀ (i : Nat) (x : V) (q : Rat), xs[i]? = some x → qs[i]? = some q → Nq K H x q
theorem Nl.same {K : PySem.W.Frag} {H H' : Hp} {xs : List V} {qs : List Rat} (h : Nl K H xs qs) (s : Same H H') : Nl K H' xs qs := ⟨h.1, fun i x q h1 h2 => (h.2 i x q h1 h2).same s⟩
theorem Nl.nil {K : PySem.W.Frag} {H : Hp} : Nl K H [] [] := ⟨rfl, fun i x q h => by simp at h⟩
theorem Nl.snoc {K : PySem.W.Frag} {H : Hp} {xs : List V} {qs : List Rat} {x : V} {q : Rat} (h : Nl K H xs qs) (hx : Nq K H x q) : Nl K H (xs ++ [x]) (qs ++ [q]) := by
  refine ⟨by rw [List.length_append, List.length_append, h.1]; rfl, fun i y r h1 h2 => ?_⟩
  by_cases c : i < xs.length
  · rw [List.getElem?_append_left c] at h1
    rw [List.getElem?_append_left (by rw [← h.1]; exact c)] at h2
    exact h.2 i y r h1 h2
  · rw [List.getElem?_append_right (by omega)] at h1
    rw [List.getElem?_append_right (by rw [← h.1]; omega)] at h2
    rw [h.1] at h1
    match hi : i - qs.length, h1, h2 with
    | 0, h1, h2 =>
      rw [← Option.some.inj (show some x = some y from h1), ← Option.some.inj (show some q = some r from h2)]
      exact hx
    | n + 1, h1, _ => simp at h1
theorem Nl.cons {K : PySem.W.Frag} {H : Hp} {xs : List V} {qs : List Rat} {x : V} {q : Rat} (hx : Nq K H x q) (h : Nl K H xs qs) : Nl K H (x :: xs) (q :: qs) := by
  refine ⟨by rw [List.length_cons, List.length_cons, h.1], fun i y r h1 h2 => ?_⟩
  cases i with
  | zero =>
    rw [← Option.some.inj (show some x = some y from h1), ← Option.some.inj (show some q = some r from h2)]
    exact hx
  | succ i => exact h.2 i y r (by simpa using h1) (by simpa using h2)
theorem Nl.tail {K : PySem.W.Frag} {H : Hp} {xs : List V} {qs : List Rat} {x : V} {q : Rat} (h : Nl K H (x :: xs) (q :: qs)) : Nl K H xs qs :=
  ⟨by have := h.1; simp at this; exact this, fun i y r h1 h2 => h.2 (i + 1) y r (by simpa using h1) (by simpa using h2)⟩
theorem Nl.get {K : PySem.W.Frag} {H : Hp} {xs : List V} {qs : List Rat} (h : Nl K H xs qs) {i : Nat} {x : V} (hx : xs[i]? = some x) : ∃ q, qs[i]? = some q ∧ Nq K H x q := by
  have hi : i < xs.length := by
    rcases Nat.lt_or_ge i xs.length with c | c
    · exact c
    · rw [List.getElem?_eq_none c] at hx; cases hx
  have e := List.getElem?_eq_getElem (l := qs) (i := i) (by rw [← h.1]; exact hi)
  exact ⟨_, e, h.2 i x _ hx e⟩
theorem Nl.get' {K : PySem.W.Frag} {H : Hp} {xs : List V} {qs : List Rat} (h : Nl K H xs qs) {i : Nat} (hi : i < qs.length) : ∃ x, xs[i]? = some x ∧ Nq K H x qs[i] := by
  have e := List.getElem?_eq_getElem (l := xs) (i := i) (by rw [h.1]; exact hi)
  exact ⟨_, e, h.2 i _ _ e (List.getElem?_eq_getElem hi)⟩
theorem Nl.app {K : PySem.W.Frag} {H : Hp} {xs ys : List V} {qs rs : List Rat} (h : Nl K H xs qs) (h' : Nl K H ys rs) : Nl K H (xs ++ ys) (qs ++ rs) := by
  refine ⟨by rw [List.length_append, List.length_append, h.1, h'.1], fun i y r h1 h2 => ?_⟩
  by_cases c : i < xs.length
  · rw [List.getElem?_append_left c] at h1
    rw [List.getElem?_append_left (by rw [← h.1]; exact c)] at h2
    exact h.2 i y r h1 h2
  · rw [List.getElem?_append_right (by omega)] at h1
    rw [List.getElem?_append_right (by rw [← h.1]; omega), ← h.1] at h2
    exact h'.2 _ y r h1 h2
theorem Nl.take {K : PySem.W.Frag} {H : Hp} {xs : List V} {qs : List Rat} (h : Nl K H xs qs) (n : Nat) : Nl K H (xs.take n) (qs.take n) := by
  refine ⟨by rw [List.length_take, List.length_take, h.1], fun i y r h1 h2 => ?_⟩
  rw [List.getElem?_take] at h1 h2
  by_cases c : i < n
  · rw [if_pos c] at h1 h2
    exact h.2 i y r h1 h2
  · rw [if_neg c] at h1
    cases h1
theorem Nl.drop {K : PySem.W.Frag} {H : Hp} {xs : List V} {qs : List Rat} (h : Nl K H xs qs) (n : Nat) : Nl K H (xs.drop n) (qs.drop n) := by
  refine ⟨by rw [List.length_drop, List.length_drop, h.1], fun i y r h1 h2 => ?_⟩
  rw [List.getElem?_drop] at h1 h2
  exact h.2 _ y r h1 h2
/-! ### what comes back -/
def GivesQ (H : Hp) (Q : VK) (r : Rat) : Prop := ∀ t H', Same H H' → H t = none → H' t = some (rT r) → Q (.ref t) H'
theorem GivesQ.upd {H : Hp} {Q : VK} {r : Rat} (g : GivesQ H Q r) {t : Addr} (n : H t = none) : Q (.ref t) (upd H t (rT r)) := g t _ (new_same n _) n upd_same
theorem low_HO {p q : Int} (h : q ≠ 0) : HO.tup [.int (lowU p q), .int (lowL p q)] = rT (Rat.divInt p q) := by
  obtain ⟨h1, h2⟩ := low_rat (p := p) h
  rw [h1, h2]
  rfl
theorem div_one (x : Int) : (Rat.divInt x 1).num = x ∧ (Rat.divInt x 1).den = 1 := by
  have e : Rat.divInt x 1 = (x : Rat) := by
    rw [Rat.divInt_eq_div]
    have : ((1 : Int) : Rat) = 1 := rfl
    rw [this]
    grind
  rw [e]
  exact ⟨rfl, rfl⟩
def spLowQ : Sp := fun vs H Q _ => ∃ p q : Int, vs = [.int p, .int q] ∧ q ≠ 0 ∧ q.natAbs.log2 < 9000 ∧ GivesQ H Q (Rat.divInt p q)
theorem log_bd {x : Int} {n : Nat} (h : x.natAbs < 2 ^ n) (h0 : 0 < n) : x.natAbs.log2 < n := PySem.Flt.log2_lt_of h0 h
/-- the law's low -/
abbrev nLow : List Str := ["_law_num_here", "_law_den", "_law_high", "_law_rest"]
def spTwoQ (K : PySem.W.Frag) (op : Rat → Rat → Rat) : Sp := fun vs H Q _ => ∃ (x y : V) (a b : Rat), vs = [x, y] ∧ Nq K H x a ∧ Nq K H y b ∧ Ok a ∧ Ok b ∧ GivesQ H Q (op a b)
def spDivQ (K : PySem.W.Frag) : Sp := fun vs H Q _ => ∃ (x y : V) (a b : Rat), vs = [x, y] ∧ Nq K H x a ∧ Nq K H y b ∧ Ok a ∧ Ok b ∧ b ≠ 0 ∧ b.num.natAbs < 2 ^ 4450 ∧ GivesQ H Q (a / b)
abbrev nPQ : List Str := ["_law_p", "_law_q"]
theorem wide_ok {i j : Int} {a b : Nat} (ha : i.natAbs < 2 ^ a) (hb : j.natAbs < 2 ^ b) (h0 : 0 < a) (h1 : 0 < b) (h : a + b ≤ 1000000) : CMulW i j := wide_mul ha hb h0 h1 h
theorem log_two {i j : Int} (hi : i.natAbs < 2 ^ 4450) (hj : j.natAbs < 2 ^ 4450) : (i * j).natAbs.log2 < 9000 := Nat.lt_trans (log_bd (lt_mul hi hj) (by decide)) (by decide)
section
variable {P : Program} {w : World} {K : PySem.W.Frag} {mg : Str → Option Value} {base : Heap} {f fL : Addr} {fd fdL : FuncData}
theorem scLow : FnScope nLow ["_law_num_here", "_law_den"] (defScope L_low) := ⟨rfl, rfl, rfl, by decide +kernel, rfl, by decide +kernel, by decide +kernel⟩
theorem ok_low (F : Fun K "_law_low" "_law_low" L_low f fd) (ma : mg "abs" = none) (mi : mg "int" = none) : FnOk P w K mg base CX0 1 f fd ["_law_num_here", "_law_den"] spLowQ := by
  refine F.ok scLow (fun vs H Q E h => ?_) (fun cdv A outer s H vs Q E hr h => ?_)
  · obtain ⟨p, q, rfl, _⟩ := h
    rfl
  obtain ⟨p, q, rfl, hq, hl, qq⟩ := h
  refine ⟨_, C8.pss_cut (ps_if (pt_cmpR op_lt (pv 1) pe_int (nomark _)) (pss_one (ps_par (i := 0) (j := 1) rfl scLow.nd rfl rfl (by decide) rfl rfl (pa_cons (pe_un un_neg (pv 0)) (pa_cons (pe_un un_neg (pv 1)) pa_nil)) rfl)) pss_nil)
    (pss_cons (ps_par (i := 2) (j := 3) rfl scLow.nd rfl rfl (by decide) rfl rfl (pa_cons (pe_callB call_abs rfl ma (by decide +kernel) (pa_cons (pv 0) pa_nil)) (pa_cons (pv 1) pa_nil)) rfl)
    (pss_cons (ps_while PassesOwn.never (pt_cmpR op_gt (pv 3) pe_int (nomark _)) (pss_one (ps_par (i := 2) (j := 3) rfl scLow.nd rfl rfl (by decide) rfl rfl (pa_cons (pv 3) (pa_cons (pe_op op_mod (pe_callTy call_int1 rfl mi (by decide +kernel) (pa_cons (pv 2) pa_nil)) (pv 3)) pa_nil)) rfl)))
    (pss_one (ps_ret (pe_tup (pa_cons (pe_op op_fdivA (pv 0) (pv 2)) (pa_cons (pe_op op_fdivA (pv 1) (pv 2)) pa_nil))))))), ?_⟩
  refine ⟨fun σ H' => H' = H ∧ ∃ p' q' : Int, σ = [some (.int p'), some (.int q'), none, none] ∧ 0 < q' ∧ q'.natAbs = q.natAbs ∧ Rat.divInt p' q' = Rat.divInt p q, ?_, ?_⟩
  · refine ⟨_, rfl, q, 0, rfl, rfl, _, rfl, ite2 (fun c => ?_) (fun c => ?_)⟩
    · have c' : q < 0 := of_decide_eq_true c
      exact ⟨_, rfl, p, rfl, _, rfl, q, rfl, _, _, rfl, rfl, -p, -q, rfl, by omega, by omega, Rat.neg_divInt_neg _ _⟩
    · have c' : ¬ q < 0 := of_decide_eq_false (Bool.eq_false_iff.mpr c)
      exact ⟨rfl, p, q, rfl, by omega, rfl, rfl⟩
  rintro σ H' ⟨rfl, p', q', rfl, q0, qa, ed⟩
  rw [← ed] at qq
  rw [← qa] at hl
  clear ed qa hq p q
  refine ⟨_, rfl, p', rfl, _, rfl, _, _, rfl, ?_⟩
  rw [abs_nat]
  refine ⟨fun m σ H2 => H2 = H' ∧ ∃ a b : Nat, σ = [some (.int p'), some (.int q'), some (.int a), some (.int b)] ∧ Nat.gcd a b = Nat.gcd p'.natAbs q'.natAbs ∧ b = m, ⟨q'.natAbs, rfl, p'.natAbs, q'.natAbs, ?_, rfl, rfl⟩, ?_⟩
  · rw [show ((q'.natAbs : Nat) : Int) = q' by omega]
    rfl
  rintro m σ H2 ⟨rfl, a, b, rfl, hg, rfl⟩
  refine ⟨_, rfl, b, 0, rfl, rfl, _, rfl, ite2 (fun c => ?_) (fun c => ?_)⟩
  · have hb : (0 : Int) < (b : Nat) := of_decide_eq_true c
    refine ⟨fun σ' H3 => H3 = H2 ∧ σ' = [some (.int p'), some (.int q'), some (.int b), some (.int ((a % b : Nat) : Int))], ?_, ?_⟩
    · rintro σ' H3 ⟨rfl, rfl⟩
      exact ⟨a % b, Nat.mod_lt _ (by omega), rfl, b, a % b, rfl, by rw [← hg, Nat.gcd_comm a b, Nat.gcd_rec b a, Nat.gcd_comm], rfl⟩
    · exact ⟨_, rfl, _, rfl, .inl ⟨_, rfl, _, rfl, a, b, rfl, rfl, hb, _, _, rfl, rfl, rfl⟩⟩
  · have hb : ¬ (0 : Int) < (b : Nat) := of_decide_eq_false (Bool.eq_false_iff.mpr c)
    obtain rfl : b = 0 := by omega
    rw [Nat.gcd_zero_right] at hg
    subst hg
    have hz : q' ≠ 0 := by omega
    have hgS : ((Nat.gcd p'.natAbs q'.natAbs : Nat) : Int) = gS p' q' := by
      unfold gS
      rw [if_neg (by omega)]
    rw [hgS]
    have n0 := gS_ne (p := p') hz
    have l9 : (gS p' q').natAbs.log2 < 9000 := Nat.lt_of_le_of_lt (log_le (gS_le hz)) hl
    refine ⟨_, rfl, _, rfl, p', _, rfl, rfl, ⟨n0, l9⟩, _, rfl, _, rfl, q', _, rfl, rfl, ⟨n0, l9⟩, (by show 2 ≤ sizeLine; decide), fun t nt => ?_⟩
    show Q _ (upd _ _ (HO.tup [.int (lowU p' q'), .int (lowL p' q')]))
    rw [low_HO hz]
    exact qq.upd nt
theorem scAdd : FnScope nPQ ["_law_p", "_law_q"] (defScope L_add) := ⟨rfl, rfl, rfl, by decide +kernel, rfl, by decide +kernel, by decide +kernel⟩
theorem scMul : FnScope nPQ ["_law_p", "_law_q"] (defScope L_mul) := ⟨rfl, rfl, rfl, by decide +kernel, rfl, by decide +kernel, by decide +kernel⟩
theorem scDiv : FnScope nPQ ["_law_p", "_law_q"] (defScope L_div) := ⟨rfl, rfl, rfl, by decide +kernel, rfl, by decide +kernel, by decide +kernel⟩
theorem ok_addQ (F : Fun K "_law_add" "_law_add" L_add f fd) (G : FnOk P w K mg base CX0 1 fL fdL ["_law_num_here", "_law_den"] spLowQ) (bL : Binds K fdL ["_law_num_here", "_law_den"] []) (kL : PySem.W.keepIn K (.ref fL) = true) (mL : mg "_law_low" = some (.ref fL)) :
    FnOk P w K mg base CX0 2 f fd ["_law_p", "_law_q"] (spTwoQ K (· + ·)) := by
  refine F.ok scAdd (fun vs H Q E h => ?_) (fun cdv A outer s H vs Q E hr h => ?_)
  · obtain ⟨x, y, a, b, rfl, _⟩ := h
    rfl
  obtain ⟨x, y, a, b, rfl, hx, hy, ba, bb, q⟩ := h
  obtain ⟨xa, rfl, sx, _⟩ := hx.sq
  obtain ⟨ya, rfl, sy, _⟩ := hy.sq
  refine ⟨_, pss_one (ps_ret (pe_call G hr rfl mL kL bL .nil pass0 (pa_cons (pe_op op_add (pe_op op_mulW (pe_ix ix_tup (pv 0) pe_int (fun _ _ => rfl)) (pe_ix ix_tup (pv 1) pe_int (fun _ _ => rfl))) (pe_op op_mulW (pe_ix ix_tup (pv 1) pe_int (fun _ _ => rfl)) (pe_ix ix_tup (pv 0) pe_int (fun _ _ => rfl))))
      (pa_cons (pe_op op_mulW (pe_ix ix_tup (pv 0) pe_int (fun _ _ => rfl)) (pe_ix ix_tup (pv 1) pe_int (fun _ _ => rfl))) pa_nil)))), ?_⟩
  exact ⟨_, rfl, xa, _, 0, _, rfl, rfl, sx, rfl, _, rfl, ya, _, 1, _, rfl, rfl, sy, rfl, a.num, (b.den : Nat), rfl, rfl, wide_mul ba.1 bb.dn (by decide) (by decide) (by decide), _, rfl, ya, _, 0, _, rfl, rfl, sy, rfl, _, rfl, xa, _, 1, _, rfl, rfl, sx, rfl, b.num, (a.den : Nat), rfl, rfl, wide_mul bb.1 ba.dn (by decide) (by decide) (by decide), _, _, rfl, rfl,
      _, rfl, xa, _, 1, _, rfl, rfl, sx, rfl, _, rfl, ya, _, 1, _, rfl, rfl, sy, rfl, (a.den : Nat), (b.den : Nat), rfl, rfl, wide_mul ba.dn bb.dn (by decide) (by decide) (by decide), _, _, rfl, Int.mul_ne_zero (den_ne a) (den_ne b), log_two ba.dn bb.dn, by rw [← rat_add]; exact q⟩
theorem ok_mulQ (F : Fun K "_law_mul" "_law_mul" L_mul f fd) (G : FnOk P w K mg base CX0 1 fL fdL ["_law_num_here", "_law_den"] spLowQ) (bL : Binds K fdL ["_law_num_here", "_law_den"] []) (kL : PySem.W.keepIn K (.ref fL) = true) (mL : mg "_law_low" = some (.ref fL)) :
    FnOk P w K mg base CX0 2 f fd ["_law_p", "_law_q"] (spTwoQ K (· * ·)) := by
  refine F.ok scMul (fun vs H Q E h => ?_) (fun cdv A outer s H vs Q E hr h => ?_)
  · obtain ⟨x, y, a, b, rfl, _⟩ := h
    rfl
  obtain ⟨x, y, a, b, rfl, hx, hy, ba, bb, q⟩ := h
  obtain ⟨xa, rfl, sx, _⟩ := hx.sq
  obtain ⟨ya, rfl, sy, _⟩ := hy.sq
  refine ⟨_, pss_one (ps_ret (pe_call G hr rfl mL kL bL .nil pass0 (pa_cons (pe_op op_mulW (pe_ix ix_tup (pv 0) pe_int (fun _ _ => rfl)) (pe_ix ix_tup (pv 1) pe_int (fun _ _ => rfl)))
      (pa_cons (pe_op op_mulW (pe_ix ix_tup (pv 0) pe_int (fun _ _ => rfl)) (pe_ix ix_tup (pv 1) pe_int (fun _ _ => rfl))) pa_nil)))), ?_⟩
  exact ⟨_, rfl, xa, _, 0, _, rfl, rfl, sx, rfl, _, rfl, ya, _, 0, _, rfl, rfl, sy, rfl, a.num, b.num, rfl, rfl, wide_mul ba.1 bb.1 (by decide) (by decide) (by decide),
      _, rfl, xa, _, 1, _, rfl, rfl, sx, rfl, _, rfl, ya, _, 1, _, rfl, rfl, sy, rfl, (a.den : Nat), (b.den : Nat), rfl, rfl, wide_mul ba.dn bb.dn (by decide) (by decide) (by decide), _, _, rfl, Int.mul_ne_zero (den_ne a) (den_ne b), log_two ba.dn bb.dn, by rw [← rat_mul]; exact q⟩
theorem num_ne {b : Rat} (h : b ≠ 0) : b.num ≠ 0 := fun z => h (Rat.num_eq_zero.mp z)
theorem ok_divQ (F : Fun K "_law_div" "_law_div" L_div f fd) (G : FnOk P w K mg base CX0 1 fL fdL ["_law_num_here", "_law_den"] spLowQ) (bL : Binds K fdL ["_law_num_here", "_law_den"] []) (kL : PySem.W.keepIn K (.ref fL) = true) (mL : mg "_law_low" = some (.ref fL)) :
    FnOk P w K mg base CX0 2 f fd ["_law_p", "_law_q"] (spDivQ K) := by
  refine F.ok scDiv (fun vs H Q E h => ?_) (fun cdv A outer s H vs Q E hr h => ?_)
  · obtain ⟨x, y, a, b, rfl, _⟩ := h
    rfl
  obtain ⟨x, y, a, b, rfl, hx, hy, ba, bb, b0, bn, q⟩ := h
  obtain ⟨xa, rfl, sx, _⟩ := hx.sq
  obtain ⟨ya, rfl, sy, _⟩ := hy.sq
  refine ⟨_, pss_one (ps_ret (pe_call G hr rfl mL kL bL .nil pass0 (pa_cons (pe_op op_mulW (pe_ix ix_tup (pv 0) pe_int (fun _ _ => rfl)) (pe_ix ix_tup (pv 1) pe_int (fun _ _ => rfl)))
      (pa_cons (pe_op op_mulW (pe_ix ix_tup (pv 0) pe_int (fun _ _ => rfl)) (pe_ix ix_tup (pv 1) pe_int (fun _ _ => rfl))) pa_nil)))), ?_⟩
  exact ⟨_, rfl, xa, _, 0, _, rfl, rfl, sx, rfl, _, rfl, ya, _, 1, _, rfl, rfl, sy, rfl, a.num, (b.den : Nat), rfl, rfl, wide_mul ba.1 bb.dn (by decide) (by decide) (by decide),
      _, rfl, xa, _, 1, _, rfl, rfl, sx, rfl, _, rfl, ya, _, 0, _, rfl, rfl, sy, rfl, (a.den : Nat), b.num, rfl, rfl, wide_mul ba.dn bn (by decide) (by decide) (by decide), _, _, rfl, Int.mul_ne_zero (den_ne a) (num_ne b0), log_two ba.dn bn, by rw [← div_bq b0]; exact q⟩
end
end Kx
end
section
set_option maxHeartbeats 4000000
namespace Kx
open PySem PySem.Spec PyProof.Rows L2
def revB : List Value → List Value → List Value := fun _ ws => ws.reverse
def revA : List V → List V → List V := fun _ zs => zs.reverse
def appB : List Value → List Value → List Value := fun us ws => us ++ ws
def appA : List V → List V → List V := fun vs zs => vs ++ zs
theorem vals_rev : ∀ {vs : List V} {us : List Value}, Vals vs us → Vals vs.reverse us.reverse
  | _, _, .nil => .nil
  | _, _, .cons r t => by
    rw [List.reverse_cons, List.reverse_cons]
    exact Paired.snoc (vals_rev t) r
theorem vals_app : ∀ {vs : List V} {us : List Value} {zs : List V} {ws : List Value}, Vals vs us → Vals zs ws → Vals (vs ++ zs) (us ++ ws)
  | _, _, _, _, .nil, t => t
  | _, _, _, _, .cons r t, t' => .cons r (vals_app t t')
section
variable {X : Cx} {CX : CXT} {k : Nat} {f : Addr} {fd : FuncData} {ps ks : List Str} {sp : Sp} {E : XK} {x : Str} {p pos : Pos} {kws : List Keyword} {tk : TA}
/-- f(k = v, ..), keywords alone -/
def tCallR (m : Nat) (sp : Sp) (E : XK) (tk : TA) : TE := fun σ H Q => tk σ H fun zs H2 => zs.length = m ∧ sp zs.reverse H2 Q E
theorem pe_callR (F : FnOk X.prog X.w X.K X.mg X.base CX k f fd ps sp) (hr : Room k X.A) (hg : Gl X x) (hm : X.mg x = some (.ref f)) (hk : PySem.W.keepIn X.K (.ref f) = true) (hb : KBn X.K fd ps 0 ks revB revA) (hx : Passes CX X E)
    (hkw : PK X kws tk) (hall : (backToKw pos (keywordEach kws X.env)).all (·.1.isSome) = true := by rfl) (hks : (backToKw pos (keywordEach kws X.env)).filterMap (·.1) = ks := by rfl)
    (hdb : (x == ("__debug__" : Str)) = false := by decide) (hpl : ((backTo pos (starEach [] X.env)).any (·.1) || (backToKw pos (keywordEach kws X.env)).any (·.1.isNone)) = false := by rfl) :
    PE X (.Call (.Name x p) [] kws pos) (tCallR ks.length sp E tk) := by
  refine ⟨fun pins s σ H Q I h => wpAny_Call_Name_kw (ld_glob I hg hm ?_ hdb)⟩
  refine PySem.W.callWith_KW0 (h₀ := X.base) I.ok.mod.kin hk hall ?_ hpl
  refine thn (hkw.run pos pins s σ H _ I h) fun ws s2 ⟨zs, H2, I2, rz, l2, q2⟩ => ⟨I2.kIn, ?_⟩
  rw [hks]
  exact run_fnN (us := []) (vs := []) F hr hb hx I2 .nil rz rfl l2 q2
end
section
variable {K : PySem.W.Frag} {x q : Str} {st : Stmt} {f : Addr} {fd : FuncData}
theorem kb_two {a b : Str} {st : Stmt} (F : Fun K x q st f fd) (h : ∀ (kV doc pm : Value) (an : Option Addr) (cdv ct u v : Value), bindArgs (PySem.W.fnOf x q (defArgs st) (defBody st) (defScope st) .none kV doc pm an cdv ct) ⟨[], [(b, v), (a, u)]⟩ = pure [(a, u), (b, v)]) : KBn K fd [a, b] 0 [b, a] revB revA := by
  obtain ⟨oc, od, kV, doc, pm, an, cdv, ct, osl, rfl, lk, hcd⟩ := F.ex
  refine ⟨fun s us ws _ l1 l2 => ?_, fun _ r => vals_rev r⟩
  match us, ws, l1, l2 with
  | [], [v, u], _, _ => exact .of_eq (h _ _ _ _ _ _ u v)
theorem kb_one {a : Str} {st : Stmt} (F : Fun K x q st f fd) (h : ∀ (kV doc pm : Value) (an : Option Addr) (cdv ct u : Value), bindArgs (PySem.W.fnOf x q (defArgs st) (defBody st) (defScope st) .none kV doc pm an cdv ct) ⟨[], [(a, u)]⟩ = pure [(a, u)]) : KBn K fd [a] 0 [a] revB revA := by
  obtain ⟨oc, od, kV, doc, pm, an, cdv, ct, osl, rfl, lk, hcd⟩ := F.ex
  refine ⟨fun s us ws _ l1 l2 => ?_, fun _ r => vals_rev r⟩
  match us, ws, l1, l2 with
  | [], [u], _, _ => exact .of_eq (h _ _ _ _ _ _ u)
/-- the first by its place, the second by its name -/
theorem kb_mix {a b : Str} {st : Stmt} (F : Fun K x q st f fd) (h : ∀ (kV doc pm : Value) (an : Option Addr) (cdv ct u v : Value), bindArgs (PySem.W.fnOf x q (defArgs st) (defBody st) (defScope st) .none kV doc pm an cdv ct) ⟨[u], [(b, v)]⟩ = pure [(a, u), (b, v)]) : KBn K fd [a, b] 1 [b] appB appA := by
  obtain ⟨oc, od, kV, doc, pm, an, cdv, ct, osl, rfl, lk, hcd⟩ := F.ex
  refine ⟨fun s us ws _ l1 l2 => ?_, fun r1 r2 => vals_app r1 r2⟩
  match us, ws, l1, l2 with
  | [u], [v], _, _ => exact .of_eq (h _ _ _ _ _ _ u v)
end
/-! ### a def as it is used: its promise, its arguments, its name -/
structure Use (P : Program) (w : World) (K : PySem.W.Frag) (mg : Str → Option Value) (base : Heap) (CX : CXT) (k : Nat) (x : Str) (ps : List Str) (sp : Sp) (kws : List (List Str)) : Prop where
  ex : ∃ (f : Addr) (fd : FuncData), FnOk P w K mg base CX k f fd ps sp ∧ Binds K fd ps [] ∧ PySem.W.keepIn K (.ref f) = true ∧ mg x = some (.ref f) ∧ (∀ ks ∈ kws, ks.length = ps.length → KBn K fd ps 0 ks revB revA) ∧ (∀ ks ∈ kws, ks.length = 1 → ps.length = 2 → KBn K fd ps 1 ks appB appA)
section
variable {X : Cx} {CX : CXT} {k : Nat} {ps ks : List Str} {kl : List (List Str)} {sp : Sp} {E : XK} {x : Str} {p pos : Pos} {kws : List Keyword} {tk t : TA} {e : Expr} {es : List Expr}
theorem pe_use (U : Use X.prog X.w X.K X.mg X.base CX k x ps sp kl) (hr : Room k X.A) (hg : Gl X x) (hx : Passes CX X E) (ha : PA X (e :: es) t)
    (hdb : (x == ("__debug__" : Str)) = false := by decide) (he : starEach (e :: es) X.env = (false, eval e X.env) :: starEach es X.env := by rfl) (hpl : (backTo pos (starEach es X.env)).any (·.1) = false := by rfl) :
    PE X (.Call (.Name x p) (e :: es) [] pos) (tCall sp [] E t) := by
  obtain ⟨f, fd, F, b, kp, m, _⟩ := U.ex
  exact pe_call F hr hg m kp b .nil hx ha hdb he hpl
theorem pe_useR (U : Use X.prog X.w X.K X.mg X.base CX k x ps sp kl) (hr : Room k X.A) (hg : Gl X x) (hx : Passes CX X E) (hl : ks.length = ps.length)
    (hkw : PK X kws tk) (hin : ks ∈ kl) (hall : (backToKw pos (keywordEach kws X.env)).all (·.1.isSome) = true := by rfl) (hks : (backToKw pos (keywordEach kws X.env)).filterMap (·.1) = ks := by rfl)
    (hdb : (x == ("__debug__" : Str)) = false := by decide) (hpl : ((backTo pos (starEach [] X.env)).any (·.1) || (backToKw pos (keywordEach kws X.env)).any (·.1.isNone)) = false := by rfl) :
    PE X (.Call (.Name x p) [] kws pos) (tCallR ks.length sp E tk) := by
  obtain ⟨f, fd, F, b, kp, m, h, _⟩ := U.ex
  exact pe_callR F hr hg m kp (h _ hin hl) hx hkw hall hks hdb hpl
theorem pe_useN (U : Use X.prog X.w X.K X.mg X.base CX k x ps sp kl) (hr : Room k X.A) (hg : Gl X x) (hx : Passes CX X E) (hl : ks.length = 1) (hl2 : ps.length = 2)
    (ha : PA X (e :: es) t) (hkw : PK X kws tk) (hin : ks ∈ kl) (hall : (backToKw pos (keywordEach kws X.env)).all (·.1.isSome) = true := by rfl) (hks : (backToKw pos (keywordEach kws X.env)).filterMap (·.1) = ks := by rfl)
    (hdb : (x == ("__debug__" : Str)) = false := by decide) (he : starEach (e :: es) X.env = (false, eval e X.env) :: starEach es X.env := by rfl)
    (hpl : ((backTo pos (starEach (e :: es) X.env)).any (·.1) || (backToKw pos (keywordEach kws X.env)).any (·.1.isNone)) = false := by rfl) :
    PE X (.Call (.Name x p) (e :: es) kws pos) (tCallN 1 ks.length sp appA E t tk) := by
  obtain ⟨f, fd, F, b, kp, m, _, h⟩ := U.ex
  exact pe_callN F hr hg m kp (h _ hin hl hl2) hx ha hkw hall hks hdb he hpl
end
/-! ### a def whose code object's place is known -/
structure FunC (K : PySem.W.Frag) (x qual : Str) (st : Stmt) (f : Addr) (fd : FuncData) (c : Addr) : Prop where
  ex : ∃ (oc : Value) (od : Option Addr) (kV doc pm : Value) (an : Option Addr) (ct : Value) (osl : Array (Option Value)),
    fd = PySem.W.fnOf x qual (defArgs st) (defBody st) (defScope st) .none kV doc pm an (.ref c) ct ∧ K.lookup f = some ⟨oc, od, .func fd, osl⟩ ∧ PySem.W.codeIn K (.ref c) qual = true
  kp : PySem.W.keepIn K (.ref f) = true
section
variable {P : Program} {w : World} {K : PySem.W.Frag} {mg : Str → Option Value} {base : Heap}
theorem FunC.fn {x qual : Str} {st : Stmt} {f c : Addr} {fd : FuncData} (F : FunC K x qual st f fd c) : Fun K x qual st f fd := by
  obtain ⟨oc, od, kV, doc, pm, an, ct, osl, h1, h2, h3⟩ := F.ex
  exact ⟨⟨oc, od, kV, doc, pm, an, _, ct, osl, h1, h2, h3⟩, F.kp⟩
theorem FunC.ok {x qual : Str} {st : Stmt} {f c : Addr} {fd : FuncData} {N ps : List Str} {k : Nat} {sp : Sp} (F : FunC K x qual st f fd c) (S : FnScope N ps (defScope st)) (len : ∀ vs H Q E, sp vs H Q E → vs.length = ps.length)
    (hbody : ∀ (A : Around) (outer : List Env) (s : Shared) (H : Hp) (vs : List V) (Q : VK) (E : XK), Room k (A.deeper (envOfC qual (defScope st) s.heap.objs.size f (.ref c))) → sp vs H Q E →
      ∃ t, PSs (cxOf CX0 P w K mg base N qual (defScope st) f (.ref c) A outer s H E).nox (defBody st) t ∧ t { nx := fun _ H' => Q .non H', rt := Q } (L2.start N vs) H) : FnOk P w K mg base CX0 (k + 1) f fd ps sp := by
  obtain ⟨oc, od, kV, doc, pm, an, ct, osl, rfl, lk, hcd⟩ := F.ex
  refine fn_of lk hcd S len fun A outer s H vs Q E hr hsp => ?_
  obtain ⟨t, h, q⟩ := hbody A outer s H vs Q E hr hsp
  exact ⟨t, h.nox, q⟩
end
end Kx
end
section
set_option maxHeartbeats 4000000
namespace Kx
open PySem PySem.Spec PyProof.Rows L2
/-- a list comprehension that makes something new at each turn: R says of the i-th -/
theorem lc_acc {J : It} {n : Nat} {G : Hp → Prop} {Y : Nat → Hp → V → Hp → Prop} (w : Walk J n G Y) {g : TG} {te : TE} {vs : List Nat} {σ : L2.St} {H1 : Hp} {D : Addr} {Qd : Hp → Prop} (R : Nat → Hp → V → Prop)
    (mono : ∀ i H H' y l, R i H y → H D = some (.lst l) → But D H H' → R i H' y) (nD : H1 D = none) (hn : n ≤ 900) (hG : ∀ H, Same H1 H → G H)
    (hs : ∀ i x H H' (k : V → Hp → Prop), i < n → Same H1 H → Y i H x H' → (∀ y H4, Same H H4 → R i H4 y → k y H4) → g x (wipe σ vs) H' fun σ2 H2 => wipe σ2 vs = wipe σ vs ∧ te σ2 H2 k)
    (hd : ∀ H xs, Same H1 H → H D = some (.lst xs) → xs.length = n → (∀ (i : Nat) y, xs[i]? = some y → R i H y) → Qd H) :
    ∃ W : Nat → Nat → Hp → Prop, (∃ m, W 0 m (upd H1 D (.lst []))) ∧ ∀ i m H, W i m H →
      (J.stop i H ∧ Qd H) ∨ (J.go i H ∧ ∃ Nx : Hp → Prop, (∀ H', Nx H' → ∃ m', m' < m ∧ W (i + 1) m' H') ∧ ∀ x H', J.yld i H x H' → g x (wipe σ vs) H' fun σ2 H2 => wipe σ2 vs = wipe σ vs ∧ tYes σ2 H2 fun b H3 =>
        if b = true then te σ2 H3 fun y H4 => ∃ acc, H4 D = some (.lst acc) ∧ acc.length < sizeLine ∧ Nx (upd H4 D (.lst (acc ++ [y]))) else Nx H3) := by
  refine lc_it w (fun i H => Same H1 H ∧ ∃ xs, H D = some (.lst xs) ∧ xs.length = i ∧ ∀ (j : Nat) y, xs[j]? = some y → R j H y) ⟨new_same nD _, [], upd_same, rfl, fun j y h => by simp at h⟩ (fun i H _ h => hG H h.1) ?_ ?_
  · rintro i x H H' hi ⟨s1, xs, hx, hl, hR⟩ y
    have z := hs i x H H' (fun y H4 => ∃ acc, H4 D = some (.lst acc) ∧ acc.length < sizeLine ∧ (Same H1 (upd H4 D (.lst (acc ++ [y]))) ∧ ∃ xs, (upd H4 D (.lst (acc ++ [y]))) D = some (.lst xs) ∧ xs.length = i + 1 ∧ ∀ (j : Nat) z, xs[j]? = some z → R j (upd H4 D (.lst (acc ++ [y]))) z)) hi s1 y (fun y H4 s4 r4 => ?_)
    · exact z
    · have h4 := s4 _ _ hx
      refine ⟨xs, h4, small1000 (by omega), fun e o h => ?_, xs ++ [y], upd_same, by rw [List.length_append, hl]; rfl, fun j z hz => ?_⟩
      · rw [upd_ne (ne_of_none h nD)]
        exact s4 _ _ (s1 _ _ h)
      · have sm : But D H4 (upd H4 D (.lst (xs ++ [y]))) := fun e o n h => by rw [upd_ne n]; exact h
        by_cases c : j < xs.length
        · rw [List.getElem?_append_left c] at hz
          exact mono j H _ z _ (hR j z hz) hx ((But.same s4).trans sm)
        · rw [List.getElem?_append_right (by omega)] at hz
          match hj : j - xs.length, hz with
          | 0, hz =>
            rw [← Option.some.inj (show some y = some z from hz)]
            obtain rfl : j = i := by omega
            exact mono j H4 _ _ _ r4 h4 sm
          | _ + 1, hz => simp at hz
  · rintro H ⟨s1, xs, hx, hl, hR⟩
    exact hd H xs s1 hx hl hR
theorem Nq.butL {K : PySem.W.Frag} {H H' : Hp} {v : V} {q : Rat} {D : Addr} {l : List V} (h : Nq K H v q) (hD : H D = some (.lst l)) (s : But D H H') : Nq K H' v q := by
  obtain ⟨a, e, h⟩ := h
  refine ⟨a, e, h.imp (fun h => s _ _ (fun z => ?_) h) id⟩
  rw [z, hD] at h
  cases h
/-- .. new numbers -/
theorem lc_nums {K : PySem.W.Frag} {J : It} {n : Nat} {G : Hp → Prop} {Y : Nat → Hp → V → Hp → Prop} (w : Walk J n G Y) {g : TG} {te : TE} {vs : List Nat} {σ : L2.St} {H1 : Hp} {D : Addr} {Qd : Hp → Prop} (qs : List Rat)
    (hl : qs.length = n) (nD : H1 D = none) (hn : n ≤ 900) (hG : ∀ H, Same H1 H → G H)
    (hs : ∀ i q x H H' (k : V → Hp → Prop), qs[i]? = some q → Same H1 H → Y i H x H' → (∀ y H4, Same H H4 → Nq K H4 y q → k y H4) → g x (wipe σ vs) H' fun σ2 H2 => wipe σ2 vs = wipe σ vs ∧ te σ2 H2 k)
    (hd : ∀ H xs, Same H1 H → H D = some (.lst xs) → Nl K H xs qs → Qd H) :
    ∃ W : Nat → Nat → Hp → Prop, (∃ m, W 0 m (upd H1 D (.lst []))) ∧ ∀ i m H, W i m H →
      (J.stop i H ∧ Qd H) ∨ (J.go i H ∧ ∃ Nx : Hp → Prop, (∀ H', Nx H' → ∃ m', m' < m ∧ W (i + 1) m' H') ∧ ∀ x H', J.yld i H x H' → g x (wipe σ vs) H' fun σ2 H2 => wipe σ2 vs = wipe σ vs ∧ tYes σ2 H2 fun b H3 =>
        if b = true then te σ2 H3 fun y H4 => ∃ acc, H4 D = some (.lst acc) ∧ acc.length < sizeLine ∧ Nx (upd H4 D (.lst (acc ++ [y]))) else Nx H3) := by
  refine lc_acc w (fun i H y => ∀ q, qs[i]? = some q → Nq K H y q) (fun i H H' y l h hD s q hq => (h q hq).butL hD s) nD hn hG (fun i x H H' k hi s y hk => ?_) (fun H xs s h l hR => hd H xs s h ⟨by rw [l, hl], fun i x q h1 h2 => hR i x h1 q h2⟩)
  have e := List.getElem?_eq_getElem (l := qs) (i := i) (by omega)
  exact hs i _ x H H' k e s y fun z H4 s4 r4 => hk z H4 s4 fun q hq => by
    rw [e] at hq
    rw [← Option.some.inj hq]
    exact r4
abbrev tupQ (q : Rat) : PyData := .tuple [.int q.num, .int (q.den : Nat)]
theorem eqv_num (a b : Rat) : PyData.eqv (tupQ a) (tupQ b) = decide (a = b) := by
  by_cases h : a = b
  · subst h
    rw [decide_eq_true rfl]
    exact SeqAt.eqv_refl _ rfl
  · rw [decide_eq_false h]
    simp only [tupQ, PyData.eqv, PyData.eqvAll, Bool.and_true]
    rw [Bool.and_eq_false_iff]
    by_cases e : a.num = b.num
    · right
      refine beq_eq_false_iff_ne.mpr fun z => h (Rat.ext e ?_)
      omega
    · left
      exact beq_eq_false_iff_ne.mpr e
end Kx
end
section
set_option maxHeartbeats 4000000
namespace Kx
open PySem PySem.Spec PyProof.Rows L2
/-! ### xs[k:0:-1] -/
def segL {α : Type} (xs : List α) (k : Nat) : List α := ((xs.take (k + 1)).drop 1).reverse
theorem segL_len {α : Type} {xs : List α} {k : Nat} (h : k < xs.length) : (segL xs k).length = k := by
  unfold segL
  rw [List.length_reverse, List.length_drop, List.length_take]
  omega
theorem segL_succ {α : Type} {xs : List α} {k : Nat} {x : α} (h : xs[k + 1]? = some x) : segL xs (k + 1) = x :: segL xs k := by
  unfold segL
  have hl : k + 1 < xs.length := by
    rcases Nat.lt_or_ge (k + 1) xs.length with c | c
    · exact c
    · rw [List.getElem?_eq_none c] at h; cases h
  rw [List.take_add_one (i := k + 1), h, List.drop_append_of_le_length (by rw [List.length_take]; omega), List.reverse_append]
  rfl
theorem segL_get {α : Type} {xs : List α} : ∀ {k : Nat}, k < xs.length → ∀ j, j < k → (segL xs k)[j]? = xs[k - j]?
  | 0, _, j, hj => absurd hj (Nat.not_lt_zero _)
  | k + 1, h, j, hj => by
    obtain ⟨x, hx⟩ : ∃ x, xs[k + 1]? = some x := ⟨_, List.getElem?_eq_getElem h⟩
    rw [segL_succ hx]
    match j, hj with
    | 0, _ => exact hx.symm
    | j + 1, hj =>
      show (segL xs k)[j]? = _
      rw [segL_get (by omega) j (by omega), show k + 1 - (j + 1) = k - j by omega]
theorem back_pick (its : List Value) : ∀ k : Nat, k < its.length → slicePick its.toArray (some ((k : Nat) : Int)) (some 0) (some (-1)) = (segL its k).toArray := by
  intro k hk
  have hb : sliceBounds (some ((k : Nat) : Int)) (some 0) (some (-1)) its.toArray.size = (((k : Nat) : Int), 0, -1) := by
    have e : its.toArray.size = its.length := List.size_toArray
    simp only [sliceBounds, Option.getD_some, e]
    rw [if_neg (show ¬ ((-1 : Int) > 0) by decide), if_neg (show ¬ ((-1 : Int) > 0) by decide)]
    rw [if_neg (show ¬ (((k : Nat) : Int) < 0) by omega), if_neg (show ¬ ((0 : Int) < 0) by decide)]
    congr 1
    · omega
    · congr 1
      omega
  unfold slicePick
  rw [hb]
  show ((sliceRange ((k : Nat) : Int) 0 (-1)).filterMap (its.toArray[·]?)).toArray = _
  congr 1
  have hr : sliceRange ((k : Nat) : Int) 0 (-1) = (List.range k).map fun j => k - j := by
    unfold sliceRange
    rw [if_neg (show ¬ ((-1 : Int) > 0) by decide)]
    have hc : (if ((k : Nat) : Int) > 0 then (((k : Nat) : Int) - 0 - (-1) - 1) / (- (-1)) else 0 : Int).toNat = k := by
      by_cases c : ((k : Nat) : Int) > 0
      · rw [if_pos c, show (((k : Nat) : Int) - 0 - (-1) - 1) = (k : Int) by omega, show (-(-1) : Int) = 1 by decide, Int.ediv_one, Int.toNat_natCast]
      · rw [if_neg c]
        show 0 = k
        omega
    show List.map _ (List.range (if ((k : Nat) : Int) > 0 then (((k : Nat) : Int) - 0 - (-1) - 1) / (- (-1)) else 0 : Int).toNat) = _
    rw [hc]
    exact List.map_congr_left fun j hj => by
      have := List.mem_range.mp hj
      omega
  rw [hr]
  clear hr hb
  induction k with
  | zero =>
    cases its with
    | nil => exact absurd hk (Nat.not_lt_zero _)
    | cons y ys => rfl
  | succ k ih =>
    obtain ⟨x, hx⟩ : ∃ x, its[k + 1]? = some x := ⟨_, List.getElem?_eq_getElem hk⟩
    rw [segL_succ hx, List.range_succ_eq_map, List.map_cons, List.map_map, List.filterMap_cons]
    have e0 : its.toArray[k + 1 - 0]? = some x := by
      rw [List.getElem?_toArray]
      exact hx
    rw [e0]
    show x :: _ = _
    congr 1
    rw [← ih (by omega)]
    congr 1
    exact List.map_congr_left fun j _ => by show k + 1 - (j + 1) = k - j; omega
def tBackL (K : PySem.W.Frag) (te tk : TE) : TE := fun σ H Q => te σ H fun x H1 => tPart tk σ H1 fun o H2 => ∃ (a : Addr) (xs : List V) (k : Nat), x = .ref a ∧ o = some ((k : Nat) : Int) ∧ SqL K H2 a xs ∧ k < xs.length ∧ ∀ p, H2 p = none → Q (.ref p) (upd H2 p (.lst (segL xs k)))
theorem pe_backL {X : Cx} {e ek : Expr} {te tk : TE} {k j : Nat} {p0 p1 p2 p3 pos : Pos} (he : PE X e te) (hk : PE X ek tk) : PE X (.Subscript e (.Slice (some ek) (some (.Constant (.int 0) j p0)) (some (.UnaryOp .USub (.Constant (.int 1) k p1) p2)) p3) pos) (tBackL X.K te tk) := by
  refine ⟨fun pins s σ H Q I h => ?_⟩
  refine Subscript_ (thn (he.run pins s σ H _ I h) fun v s1 ⟨x, H1, I1, r1, q1⟩ => ?_)
  have hst : PO X (some (.UnaryOp .USub (.Constant (.int 1) k p1) p2)) (tPart (tUn (rU fun i => .int (-i)) (tC (.int 1)))) := po_some (pe_un un_neg pe_int)
  have hzr : PO X (some (.Constant (.int 0) j p0)) (tPart (tC (.int 0))) := po_some pe_int
  refine wpAny_Slice (thn ((po_some hk).run pins s1 σ H1 _ I1 q1) fun vl s2 ⟨l, H2, I2, pl, q2⟩ => ?_)
  obtain ⟨a, xs, n, ex, el, hx, hn, q⟩ := q2
  subst ex el
  cases r1
  refine thn (hzr.run pins s2 σ H2 (fun o H3 => o = some 0 ∧ H3 = H2) I2 ⟨0, rfl, rfl, rfl⟩) fun vu s3 ⟨u, H3, I3, pu, eu, e3⟩ => ?_
  subst eu e3
  refine thn (hst.run pins s3 σ H3 (fun o H4 => o = some (-1) ∧ H4 = H3) I3 ⟨1, rfl, -1, rfl, rfl, rfl⟩) fun vs s4 ⟨o, H4, I4, ps, eo, e4⟩ => ?_
  subst eo e4
  have I5 : Inv X pins σ H4 { s4 with heap := s4.heap.push { cls := .type "slice", data := .fields #[vl, vu, vs] } } := I4.kept (t' := s4.toks) fun b ob q => Heap.get?_push_of_some _ q
  obtain ⟨its, r, ht, hz⟩ := I5.list hx
  have hlen := r.length
  show wpAny (model X.prog X.w) X.A (subscriptTail e (.Slice (some ek) (some (.Constant (.int 0) j p0)) (some (.UnaryOp .USub (.Constant (.int 1) k p1) p2)) p3) (.ref a) (.ref s4.heap.objs.size)) (EP X pins σ Q) X.xe { s4 with heap := s4.heap.push { cls := .type "slice", data := .fields #[vl, vu, vs] } }
  refine tail_any (ops := [.ref a, .ref s4.heap.objs.size]) ht.isList.typeIs (PySem.slot_list_getitem.lookup) ?_ (by with_unfolding_all rfl)
  refine wpAny_getItem_list_slice ht.isList (Heap.IsSliceOf.new _ vl vu vs) pl pu ps (by decide) ?_ (by rw [List.size_toArray]; omega)
  rw [back_pick its n (by omega)]
  have rr : Vals (segL xs n) (segL its n) := ((r.take (n + 1)).drop 1).reverse
  refine ⟨.ref _, _, I5.laid (t' := s4.toks) (o := .lst (segL xs n)) (fun b ob q => Heap.get?_push_of_some _ q) (Nat.le_refl _) ?_, rfl, q _ (I5.hok.fresh (Nat.le_refl _))⟩
  exact ⟨by rw [segL_len hn]; omega, _, 0, rr, Heap.get?_push_size _ rfl⟩
end Kx
end
section
set_option maxHeartbeats 4000000
namespace Kx
open PySem PySem.Spec PyProof.Rows L2
/-! ### the program's numbers -/
abbrev nOO : List Str := ["one", "other"]
section
variable {P : Program} {w : World} {K : PySem.W.Frag} {mg : Str → Option Value} {base : Heap} {f fL o0 : Addr} {fd fdL : FuncData}
theorem scRatio : FnScope ["upper", "lower", "shared"] ["upper", "lower"] (defScope F_ratio) := ⟨rfl, rfl, rfl, by decide +kernel, rfl, by decide +kernel, by decide +kernel⟩
theorem ok_ratio (F : Fun K "ratio" "ratio" F_ratio f fd) (mG : mg "gcd" = some (.builtin "math.gcd")) : FnOk P w K mg base CX0 1 f fd ["upper", "lower"] spLowQ := by
  refine F.ok scRatio (fun vs H Q E h => ?_) (fun cdv A outer s H vs Q E hr h => ?_)
  · obtain ⟨p, q, rfl, _⟩ := h
    rfl
  obtain ⟨p, q, rfl, hq, hl, qq⟩ := h
  refine ⟨_, pss_cons (ps_if (pt_cmpR op_eq (pv 1) pe_int (nomark _)) (pss_one ps_never) pss_nil)
    (pss_cons (ps_set (i := 2) scRatio.nd rfl (Or.inl rfl) (pe_callBfun cr_gcd rfl mG (pa_cons (pv 0) (pa_cons (pv 1) pa_nil))))
    (pss_cons (ps_if (pt_cmpR op_lt (pv 1) pe_int (nomark _)) (pss_one (ps_set (i := 2) scRatio.nd rfl (Or.inl rfl) (pe_un un_neg (pv 2)))) pss_nil)
    (pss_one (ps_ret (pe_tup (pa_cons (pe_op op_fdivA (pv 0) (pv 2)) (pa_cons (pe_op op_fdivA (pv 1) (pv 2)) pa_nil))))))), ?_⟩
  have fin : ∀ g : Int, g = gS p q → (∀ t, H t = none → Q (.ref t) (upd H t (.tup [.int (p.fdiv g), .int (q.fdiv g)]))) ∧ g ≠ 0 ∧ g.natAbs.log2 < 9000 := by
    rintro g rfl
    refine ⟨fun t nt => ?_, gS_ne hq, Nat.lt_of_le_of_lt (log_le (gS_le hq)) hl⟩
    have := qq.upd nt
    rw [← low_HO hq] at this
    exact this
  refine ⟨_, rfl, rfl, _, rfl, ?_⟩
  rw [decide_eq_false (fun e => hq (V.int.inj e))]
  refine iteF ⟨_, rfl, _, rfl, p, q, rfl, ?_⟩
  refine ⟨_, rfl, q, 0, rfl, rfl, _, rfl, ite2 (fun c => ?_) (fun c => ?_)⟩
  · obtain ⟨q1, n0, l9⟩ := fin (-((Nat.gcd p.natAbs q.natAbs : Nat) : Int)) (by unfold gS; rw [if_pos (of_decide_eq_true c)])
    exact ⟨_, rfl, _, rfl, _, rfl, _, rfl, p, _, rfl, rfl, ⟨n0, l9⟩, _, rfl, _, rfl, q, _, rfl, rfl, ⟨n0, l9⟩, (by show 2 ≤ sizeLine; decide), q1⟩
  · obtain ⟨q1, n0, l9⟩ := fin ((Nat.gcd p.natAbs q.natAbs : Nat) : Int) (by unfold gS; rw [if_neg (of_decide_eq_false (Bool.eq_false_iff.mpr c))])
    exact ⟨_, rfl, _, rfl, p, _, rfl, rfl, ⟨n0, l9⟩, _, rfl, _, rfl, q, _, rfl, rfl, ⟨n0, l9⟩, (by show 2 ≤ sizeLine; decide), q1⟩
theorem scPro : FnScope nOO ["one", "other"] (defScope F_product_of) := ⟨rfl, rfl, rfl, by decide +kernel, rfl, by decide +kernel, by decide +kernel⟩
theorem ok_product (F : Fun K "product_of" "product_of" F_product_of f fd) (UR : Use P w K mg base CX0 1 "ratio" ["upper", "lower"] spLowQ []) : FnOk P w K mg base CX0 2 f fd ["one", "other"] (spTwoQ K (· * ·)) := by
  refine F.ok scPro (fun vs H Q E h => ?_) (fun cdv A outer s H vs Q E hr h => ?_)
  · obtain ⟨x, y, a, b, rfl, _⟩ := h
    rfl
  obtain ⟨x, y, a, b, rfl, hx, hy, ba, bb, q⟩ := h
  obtain ⟨xa, rfl, sx, _⟩ := hx.sq
  obtain ⟨ya, rfl, sy, _⟩ := hy.sq
  refine ⟨_, pss_one (ps_ret (pe_use UR hr rfl pass0 (pa_cons (pe_op op_mulW (pe_ix ix_tup (pv 0) pe_int (fun _ _ => rfl)) (pe_ix ix_tup (pv 1) pe_int (fun _ _ => rfl)))
      (pa_cons (pe_op op_mulW (pe_ix ix_tup (pv 0) pe_int (fun _ _ => rfl)) (pe_ix ix_tup (pv 1) pe_int (fun _ _ => rfl))) pa_nil)))), ?_⟩
  exact ⟨_, rfl, xa, _, 0, _, rfl, rfl, sx, rfl, _, rfl, ya, _, 0, _, rfl, rfl, sy, rfl, a.num, b.num, rfl, rfl, wide_mul ba.1 bb.1 (by decide) (by decide) (by decide),
      _, rfl, xa, _, 1, _, rfl, rfl, sx, rfl, _, rfl, ya, _, 1, _, rfl, rfl, sy, rfl, (a.den : Nat), (b.den : Nat), rfl, rfl, wide_mul ba.dn bb.dn (by decide) (by decide) (by decide),
      _, _, rfl, Int.mul_ne_zero (den_ne a) (den_ne b), log_two ba.dn bb.dn, by rw [← rat_mul]; exact q⟩
theorem scDif : FnScope nOO ["one", "other"] (defScope F_difference_of) := ⟨rfl, rfl, rfl, by decide +kernel, rfl, by decide +kernel, by decide +kernel⟩
theorem scQuo : FnScope nOO ["one", "other"] (defScope F_quotient_of) := ⟨rfl, rfl, rfl, by decide +kernel, rfl, by decide +kernel, by decide +kernel⟩
theorem ok_difference (F : Fun K "difference_of" "difference_of" F_difference_of f fd) (UR : Use P w K mg base CX0 1 "ratio" ["upper", "lower"] spLowQ []) : FnOk P w K mg base CX0 2 f fd ["one", "other"] (spTwoQ K (· - ·)) := by
  refine F.ok scDif (fun vs H Q E h => ?_) (fun cdv A outer s H vs Q E hr h => ?_)
  · obtain ⟨x, y, a, b, rfl, _⟩ := h
    rfl
  obtain ⟨x, y, a, b, rfl, hx, hy, ba, bb, q⟩ := h
  obtain ⟨xa, rfl, sx, _⟩ := hx.sq
  obtain ⟨ya, rfl, sy, _⟩ := hy.sq
  refine ⟨_, pss_one (ps_ret (pe_use UR hr rfl pass0 (pa_cons (pe_op op_sub (pe_op op_mulW (pe_ix ix_tup (pv 0) pe_int (fun _ _ => rfl)) (pe_ix ix_tup (pv 1) pe_int (fun _ _ => rfl))) (pe_op op_mulW (pe_ix ix_tup (pv 1) pe_int (fun _ _ => rfl)) (pe_ix ix_tup (pv 0) pe_int (fun _ _ => rfl))))
      (pa_cons (pe_op op_mulW (pe_ix ix_tup (pv 0) pe_int (fun _ _ => rfl)) (pe_ix ix_tup (pv 1) pe_int (fun _ _ => rfl))) pa_nil)))), ?_⟩
  exact ⟨_, rfl, xa, _, 0, _, rfl, rfl, sx, rfl, _, rfl, ya, _, 1, _, rfl, rfl, sy, rfl, a.num, (b.den : Nat), rfl, rfl, wide_mul ba.1 bb.dn (by decide) (by decide) (by decide), _, rfl, ya, _, 0, _, rfl, rfl, sy, rfl, _, rfl, xa, _, 1, _, rfl, rfl, sx, rfl, b.num, (a.den : Nat), rfl, rfl, wide_mul bb.1 ba.dn (by decide) (by decide) (by decide), _, _, rfl, rfl,
      _, rfl, xa, _, 1, _, rfl, rfl, sx, rfl, _, rfl, ya, _, 1, _, rfl, rfl, sy, rfl, (a.den : Nat), (b.den : Nat), rfl, rfl, wide_mul ba.dn bb.dn (by decide) (by decide) (by decide), _, _, rfl, Int.mul_ne_zero (den_ne a) (den_ne b), log_two ba.dn bb.dn, by rw [← rat_sub]; exact q⟩
theorem ok_quotient (F : Fun K "quotient_of" "quotient_of" F_quotient_of f fd) (UR : Use P w K mg base CX0 1 "ratio" ["upper", "lower"] spLowQ []) : FnOk P w K mg base CX0 2 f fd ["one", "other"] (spDivQ K) := by
  refine F.ok scQuo (fun vs H Q E h => ?_) (fun cdv A outer s H vs Q E hr h => ?_)
  · obtain ⟨x, y, a, b, rfl, _⟩ := h
    rfl
  obtain ⟨x, y, a, b, rfl, hx, hy, ba, bb, b0, bn, q⟩ := h
  obtain ⟨xa, rfl, sx, _⟩ := hx.sq
  obtain ⟨ya, rfl, sy, _⟩ := hy.sq
  refine ⟨_, pss_one (ps_ret (pe_use UR hr rfl pass0 (pa_cons (pe_op op_mulW (pe_ix ix_tup (pv 0) pe_int (fun _ _ => rfl)) (pe_ix ix_tup (pv 1) pe_int (fun _ _ => rfl)))
      (pa_cons (pe_op op_mulW (pe_ix ix_tup (pv 0) pe_int (fun _ _ => rfl)) (pe_ix ix_tup (pv 1) pe_int (fun _ _ => rfl))) pa_nil)))), ?_⟩
  exact ⟨_, rfl, xa, _, 0, _, rfl, rfl, sx, rfl, _, rfl, ya, _, 1, _, rfl, rfl, sy, rfl, a.num, (b.den : Nat), rfl, rfl, wide_mul ba.1 bb.dn (by decide) (by decide) (by decide),
      _, rfl, xa, _, 1, _, rfl, rfl, sx, rfl, _, rfl, ya, _, 0, _, rfl, rfl, sy, rfl, (a.den : Nat), b.num, rfl, rfl, wide_mul ba.dn bn (by decide) (by decide) (by decide), _, _, rfl, Int.mul_ne_zero (den_ne a) (num_ne b0), log_two ba.dn bn, by rw [← div_bq b0]; exact q⟩
end
/-! ### lists of numbers -/
/-- the list at a, for lists that were passed -/
def Ls (K : PySem.W.Frag) (H : Hp) (v : V) (qs : List Rat) : Prop := ∃ a xs, v = .ref a ∧ H a = some (.lst xs) ∧ Nl K H xs qs
theorem Ls.same {K : PySem.W.Frag} {H H' : Hp} {v : V} {qs : List Rat} (h : Ls K H v qs) (s : Same H H') : Ls K H' v qs := by
  obtain ⟨a, xs, e, h1, h2⟩ := h
  exact ⟨a, xs, e, s _ _ h1, h2.same s⟩
/-- a new list of numbers comes back -/
def GivesL (K : PySem.W.Frag) (H : Hp) (Q : VK) (rs : List Rat) : Prop := ∀ b H' xs, Same H H' → H b = none → H' b = some (.lst xs) → Nl K H' xs rs → Q (.ref b) H'
def AllB (n : Nat) (qs : List Rat) : Prop := ∀ q ∈ qs, Bq n q
def spTwoL (K : PySem.W.Frag) (op : Rat → Rat → Rat) : Sp := fun vs H Q _ => ∃ (x y : V) (qs rs : List Rat), vs = [x, y] ∧ Ls K H x qs ∧ Ls K H y rs ∧ qs.length = rs.length ∧ qs.length ≤ 100 ∧ AllO qs ∧ AllO rs ∧ GivesL K H Q (qs.zipWith op rs)
abbrev nSo : List Str := ["one", "other", "a", "c", "b", "d"]
abbrev nMo : List Str := ["numbers", "t", "number"]
section
variable {P : Program} {w : World} {K : PySem.W.Frag} {mg : Str → Option Value} {base : Heap} {f fL o0 : Addr} {fd fdL : FuncData}
theorem scDo : FnScope nSo ["one", "other"] (defScope F_differences_of) := ⟨rfl, rfl, rfl, by decide +kernel, rfl, by decide +kernel, by decide +kernel⟩
theorem zip_get {op : Rat → Rat → Rat} {qs rs : List Rat} {i : Nat} {q : Rat} (h : (qs.zipWith op rs)[i]? = some q) : ∃ a b, qs[i]? = some a ∧ rs[i]? = some b ∧ q = op a b := by
  rw [List.getElem?_zipWith] at h
  cases e1 : qs[i]? with
  | none => simp [e1] at h
  | some a =>
    cases e2 : rs[i]? with
    | none => simp [e1, e2] at h
    | some b =>
      simp [e1, e2] at h
      exact ⟨a, b, rfl, rfl, h.symm⟩
theorem ok_differences (F : Fun K "differences_of" "differences_of" F_differences_of f fd) (mz : mg "zip" = none) (UR : Use P w K mg base CX0 1 "ratio" ["upper", "lower"] spLowQ []) : FnOk P w K mg base CX0 2 f fd ["one", "other"] (spTwoL K (· - ·)) := by
  refine F.ok scDo (fun vs H Q E h => ?_) (fun cdv A outer s H vs Q E hr h => ?_)
  · obtain ⟨x, y, qs, rs, rfl, _⟩ := h
    rfl
  obtain ⟨x, y, qs, rs, rfl, ⟨xa, xs, rfl, hx, nx⟩, ⟨ya, ys, rfl, hy, ny⟩, le, l1, bq, br, q⟩ := h
  refine ⟨_, pss_one (ps_ret (pe_lc (own := [("a", 2), ("c", 3), ("b", 4), ("d", 5)]) (g := gTup K 2 (gCons (gTup K 2 (gCons (gName 2) (gCons (gName 3) gNil))) (gCons (gTup K 2 (gCons (gName 4) (gCons (gName 5) gNil))) gNil))) (tt := tYes) rfl scDo.nd (pi_zip rfl mz (pa_cons (pv 0) (pa_cons (pv 1) pa_nil))) (blkOk_by (N := nSo) (sc := defScope F_differences_of) (by decide +kernel))
      (fun _ _ _ _ _ => pg_tup rfl (pgs_cons (pg_tup rfl (pgs_cons (pg_name (i := 2) scDo.nd rfl (Or.inl rfl)) (pgs_cons (pg_name (i := 3) scDo.nd rfl (Or.inl rfl)) pgs_nil))) (pgs_cons (pg_tup rfl (pgs_cons (pg_name (i := 4) scDo.nd rfl (Or.inl rfl)) (pgs_cons (pg_name (i := 5) scDo.nd rfl (Or.inl rfl)) pgs_nil))) pgs_nil))) (fun _ _ _ _ _ => pts_nil)
      (fun _ _ _ _ _ => pe_use UR hr rfl pass0 (pa_cons (pe_op op_sub (pe_op op_mulW (pv 2) (pv 5)) (pe_op op_mulW (pv 4) (pv 3))) (pa_cons (pe_op op_mulW (pv 3) (pv 5)) pa_nil))))), ?_⟩
  refine ⟨_, rfl, _, rfl, xa, ya, xs, ys, rfl, SqL.of hx, SqL.of hy, fun D nD => ?_⟩
  have lx : xs.length = qs.length := nx.1
  have ly : ys.length = rs.length := ny.1
  refine lc_nums (K := K) (walk_zip (K := K) (a := xa) (b := ya) (xs := xs) (ys := ys) (n := xs.length) (by omega)) (qs.zipWith (· - ·) rs) (by rw [List.length_zipWith]; omega) nD (by omega) (fun H' s => ⟨SqL.of (s _ _ hx), SqL.of (s _ _ hy)⟩) ?_ (fun H' zs s h n => q D H' zs s nD h n)
  rintro i r x H2 H3 k hq s2 ⟨T, y, z, rfl, hT, rfl, hy2, hz2⟩ hk
  obtain ⟨a, b, ea, eb, rfl⟩ := zip_get hq
  have sT := new_same hT (.tup [y, z])
  obtain ⟨va, rfl, sa, _⟩ := ((nx.2 i y a hy2 ea).same (s2.trans sT)).sq
  obtain ⟨vb, rfl, sb, _⟩ := ((ny.2 i z b hz2 eb).same (s2.trans sT)).sq
  have ba := bq a (List.mem_of_getElem? ea)
  have bb := br b (List.mem_of_getElem? eb)
  refine ⟨T, _, rfl, SqT.of upd_same, rfl, _, _, rfl, va, _, rfl, sa, rfl, _, _, rfl, _, _, rfl, rfl, _, _, rfl, vb, _, rfl, sb, rfl, _, _, rfl, _, _, rfl, rfl, rfl, rfl, ?_⟩
  refine ⟨_, rfl, _, rfl, a.num, (b.den : Nat), rfl, rfl, wide_mul ba.1 bb.dn (by decide) (by decide) (by decide), _, rfl, _, rfl, b.num, (a.den : Nat), rfl, rfl, wide_mul bb.1 ba.dn (by decide) (by decide) (by decide), _, _, rfl, rfl, _, rfl, _, rfl, (a.den : Nat), (b.den : Nat), rfl, rfl, wide_mul ba.dn bb.dn (by decide) (by decide) (by decide), ?_⟩
  exact ⟨_, _, rfl, Int.mul_ne_zero (den_ne a) (den_ne b), log_two ba.dn bb.dn, fun t H4 s4 n4 h4 => hk _ _ (sT.trans s4) (.at (by rw [rat_sub]; exact h4))⟩
end
end Kx
end
section
set_option maxHeartbeats 4000000
namespace Kx
open PySem PySem.Spec PyProof.Rows L2
def rLcm : List V → Hp → VK → Prop := fun vs H Q => ∃ a b : Nat, vs = [.int (a : Nat), .int (b : Nat)] ∧ a < 2 ^ 13400 ∧ b < 2 ^ 13400 ∧ 0 < a ∧ 0 < b ∧ Q (.int ((Nat.lcm a b : Nat) : Int)) H
theorem cr_lcm {X : Cx} : CallR X (.builtin "math.lcm") rLcm := by
  intro pins s σ H vs us Q I r h
  obtain ⟨a, b, rfl, ha, hb, a0, b0, q⟩ := h
  obtain ⟨t, u, rfl⟩ := Vals.int2 r
  have e : ((((Nat.lcm 1 ((a : Nat) : Int).natAbs).lcm ((b : Nat) : Int).natAbs : Nat) : Int)) = ((Nat.lcm a b : Nat) : Int) := by
    rw [Int.natAbs_natCast, Int.natAbs_natCast, Nat.lcm_one_left]
  have l1 : (max 1 ((a : Nat) : Int).natAbs).log2 ≤ 13400 := PySem.W.mg_log (by
    rw [Int.natAbs_natCast, Nat.max_eq_right a0]
    exact Nat.lt_of_lt_of_le ha (Nat.pow_le_pow_right (by decide) (by decide)))
  have l2 : (max ((a : Nat) : Int).natAbs ((b : Nat) : Int).natAbs).log2 ≤ 13400 := PySem.W.mg_log (by
    rw [Int.natAbs_natCast, Int.natAbs_natCast]
    exact Nat.lt_of_lt_of_le (Nat.max_lt.mpr ⟨ha, hb⟩) (Nat.pow_le_pow_right (by decide) (by decide)))
  have l3 : ((((Nat.lcm 1 ((a : Nat) : Int).natAbs).lcm ((b : Nat) : Int).natAbs : Nat) : Int)).natAbs.log2 < bitsLine := by
    rw [e, Int.natAbs_natCast]
    refine Nat.lt_of_le_of_lt (PySem.W.mg_log (k := 26800) ?_) (by decide)
    refine Nat.lt_of_le_of_lt (Nat.le_of_dvd (Nat.mul_pos a0 b0) (Nat.lcm_dvd_mul _ _)) ?_
    refine Nat.lt_of_lt_of_le (Nat.mul_lt_mul'' ha hb) ?_
    rw [← Nat.pow_add]
    exact Nat.pow_le_pow_right (by decide) (by decide)
  refine call_function_meets PySem.W.MGF.kind_lcm PySem.W.MGF.plain_lcm PySem.W.MGF.entry_lcm (PySem.W.MGF.args_lcm _ _) (PySem.W.mg_run_lcm a t b u (by omega) (by omega) l3).meets ?_
  exact ⟨.int _, H, I.tok _, ⟨_, by rw [e]⟩, q⟩
/-- the pair of the upper parts and the lower part -/
def spOol (K : PySem.W.Frag) : Sp := fun vs H Q _ => ∃ (x : V) (qs : List Rat) (L B : Nat), vs = [x] ∧ Ls K H x qs ∧ qs.length ≤ 40 ∧ SmL L ∧ B ≤ 100000 ∧ AllD L B qs ∧
  ∀ b p H', Same H H' → H b = none → H' b = some (.lst ((upL (lcmL 1 qs) qs).map V.int)) → H' p = some (.tup [.ref b, .int (lcmL 1 qs : Nat)]) → Q (.ref p) H'
abbrev nOl : List Str := ["numbers", "lower", "_", "below", "above"]
section
variable {P : Program} {w : World} {K : PySem.W.Frag} {mg : Str → Option Value} {base : Heap} {f fL o0 : Addr} {fd fdL : FuncData}
theorem scOl : FnScope nOl ["numbers"] (defScope F_over_one_lower) := ⟨rfl, rfl, rfl, by decide +kernel, rfl, by decide +kernel, by decide +kernel⟩
theorem ok_ool (F : Fun K "over_one_lower" "over_one_lower" F_over_one_lower f fd) (mLc : mg "lcm" = some (.builtin "math.lcm")) : FnOk P w K mg base CX0 1 f fd ["numbers"] (spOol K) := by
  refine F.ok scOl (fun vs H Q E h => ?_) (fun cdv A outer s H vs Q E hr h => ?_)
  · obtain ⟨x, qs, L, B, rfl, _⟩ := h
    rfl
  obtain ⟨x, qs, L, B, rfl, ⟨xa, xs, rfl, hx, nx⟩, l1, sL, lB, bz, q⟩ := h
  have bq : AllO qs := bz.ok sL lB
  refine ⟨_, pss_cons (ps_set (i := 1) scOl.nd rfl (Or.inr rfl) pe_int)
    (pss_cons (ps_for PassesOwn.never rfl (pi_list (pv 0)) (pg_tup rfl (pgs_cons (pg_name (i := 2) scOl.nd rfl (Or.inl rfl)) (pgs_cons (pg_name (i := 3) scOl.nd rfl (Or.inl rfl)) pgs_nil)))
      (pss_one (ps_set (i := 1) scOl.nd rfl (Or.inr rfl) (pe_callBfun cr_lcm rfl mLc (pa_cons (pv 1) (pa_cons (pv 3) pa_nil))))))
    (pss_one (ps_ret (pe_tup (pa_cons (pe_lc (own := [("above", 4), ("below", 3)]) (g := gTup K 2 (gCons (gName 4) (gCons (gName 3) gNil))) (tt := tYes) rfl scOl.nd (pi_list (pv 0)) (blkOk_by (N := nOl) (sc := defScope F_over_one_lower) (by decide +kernel))
      (fun _ _ _ _ _ => pg_tup rfl (pgs_cons (pg_name (i := 4) scOl.nd rfl (Or.inl rfl)) (pgs_cons (pg_name (i := 3) scOl.nd rfl (Or.inl rfl)) pgs_nil))) (fun _ _ _ _ _ => pts_nil)
      (fun _ _ _ _ _ => pe_op op_mulW (pv 4) (pe_op op_fdivA (pv 1) (pv 3)))) (pa_cons (pv 1) pa_nil)))))), ?_⟩
  have lx : xs.length = qs.length := nx.1
  refine ⟨_, rfl, xa, rfl, ⟨_, SqL.of hx⟩, for_list (K := K) (a := xa) (xs := xs) (fun i σ H' => H' = H ∧ ∃ v2 v3, σ = [some (.ref xa), some (.int (lcmL 1 (qs.take i) : Nat)), v2, v3, none]) ⟨rfl, none, none, rfl⟩ (fun i σ H' _ h => by rw [h.1]; exact SqL.of hx) ?_ ?_⟩
  · rintro i x σ H' hi ⟨rfl, v2, v3, rfl⟩
    obtain ⟨a, ea, na⟩ := nx.get hi
    obtain ⟨va, rfl, sa, _⟩ := na.sq
    have hi40 : i < 40 := by
      rcases Nat.lt_or_ge i xs.length with c | c
      · omega
      · rw [List.getElem?_eq_none c] at hi; cases hi
    have zb : lcmL 1 (qs.take i) < 2 ^ 4450 := Nat.lt_of_le_of_lt (Nat.le_of_dvd sL.1 (AllD.lcm sL.1 (qs.take i) 1 (fun r hr => bz r (List.mem_of_mem_take hr)) (Nat.one_dvd _))) sL.2
    have lt : (qs.take i).length ≤ i := by rw [List.length_take]; omega
    refine ⟨va, _, rfl, sa, rfl, _, _, rfl, _, _, rfl, rfl, _, rfl, _, rfl, lcmL 1 (qs.take i), a.den, rfl, Nat.lt_of_lt_of_le zb (Nat.pow_le_pow_right (by decide) (by decide)), Nat.lt_of_lt_of_le (bq a (List.mem_of_getElem? ea)).2 (Nat.pow_le_pow_right (by decide) (by decide)), lcmL_pos _ 1 (by decide), Nat.pos_of_ne_zero a.den_nz, rfl, some (.int a.num), some (.int (a.den : Nat)), ?_⟩
    rw [List.take_add_one, ea, lcmL_app]
    rfl
  · rintro σ H' ⟨rfl, v2, v3, rfl⟩
    rw [lx, List.take_length]
    refine ⟨_, rfl, xa, rfl, ⟨_, SqL.of hx⟩, fun D nD => ?_⟩
    have e0 := lcmL_pos qs 1 (by decide)
    have dv := (lcmL_dvd qs 1).2
    refine lc_acc (walk_list (K := K) (a := xa) (xs := xs)) (fun i _ y => ∀ a, qs[i]? = some a → y = .int (a.num * ((lcmL 1 qs : Nat) / (a.den : Nat)))) (fun i H H' y l h _ _ => h) nD (by omega) (fun H2 s => SqL.of (s _ _ hx)) ?_ ?_
    · rintro i x H2 H3 k hi s2 ⟨rfl, hx2⟩ hk
      obtain ⟨a, ea, na⟩ := nx.get hx2
      obtain ⟨va, rfl, sa, _⟩ := (na.same s2).sq
      have ba := bq a (List.mem_of_getElem? ea)
      have z : lcmL 1 qs < 2 ^ 4450 := Nat.lt_of_le_of_lt (Nat.le_of_dvd sL.1 (AllD.lcm sL.1 qs 1 bz (Nat.one_dvd _))) sL.2
      have cd : ((lcmL 1 qs : Nat) : Int) / ((a.den : Nat) : Int) = ((lcmL 1 qs / a.den : Nat) : Int) := rfl
      refine ⟨va, _, rfl, sa, rfl, _, _, rfl, _, _, rfl, rfl, rfl, _, rfl, _, rfl, _, rfl, _, _, rfl, rfl, ⟨den_ne a, Nat.lt_trans (log_bd ba.dn (by decide)) (by decide)⟩, _, _, rfl, rfl, ?_, hk _ _ (Same.refl _) fun a' ha' => ?_⟩
      · rw [Int.fdiv_eq_ediv_of_nonneg _ (by omega), cd]
        refine wide_mul ba.1 (b := 4450) ?_ (by decide) (by decide) (by decide)
        rw [Int.natAbs_natCast]
        exact Nat.lt_of_le_of_lt (Nat.div_le_self _ _) z
      · rw [ea] at ha'
        rw [← Option.some.inj ha', Int.fdiv_eq_ediv_of_nonneg _ (by omega)]
    · intro H2 zs s2 hD hl hR
      have ez : zs = (upL (lcmL 1 qs) qs).map V.int := by
        apply List.ext_getElem?
        intro i
        unfold upL
        rw [List.map_map, List.getElem?_map]
        by_cases c : i < qs.length
        · rw [List.getElem?_eq_getElem c]
          have e := List.getElem?_eq_getElem (l := zs) (i := i) (by omega)
          rw [e]
          have := hR i _ e _ (List.getElem?_eq_getElem c)
          rw [this]
          rfl
        · rw [List.getElem?_eq_none (by omega), List.getElem?_eq_none (by omega)]
          rfl
      refine ⟨_, rfl, (by show 2 ≤ sizeLine; decide), fun p np => q D p _ (s2.trans (new_same np _)) nD (new_same np _ _ _ (by rw [hD, ez])) upd_same⟩
end
end Kx
end
section
set_option maxHeartbeats 4000000
namespace Kx
open PySem PySem.Spec PyProof.Rows L2
theorem ixl_at {X : Cx} (K : PySem.W.Frag) (h : X.K = K) : IxR X (rIxL K) := by
  subst h
  exact ix_list
theorem ixt_at {X : Cx} (K : PySem.W.Frag) (h : X.K = K) : IxR X (rIxT K) := by
  subst h
  exact ix_tup
/-- the product of two lists -/
def spMulL (K : PySem.W.Frag) : Sp := fun vs H Q _ => ∃ (x y : V) (qs rs : List Rat) (L B M C : Nat), vs = [x, y] ∧ Ls K H x qs ∧ Ls K H y rs ∧ qs.length = rs.length ∧ qs.length ≤ 30 ∧ SmL L ∧ B ≤ 100000 ∧ SmL M ∧ C ≤ 100000 ∧ AllD L B qs ∧ AllD M C rs ∧ GivesL K H Q (mulL qs rs)
abbrev nMl : List Str := ["one", "other", "ones", "one_lower", "others", "other_lower", "found", "place", "upper", "at"]
theorem upL_len (L : Nat) (qs : List Rat) : (upL L qs).length = qs.length := List.length_map _
theorem upL_at {L : Nat} {qs : List Rat} {i : Nat} (h : i < qs.length) : ((upL L qs).map V.int)[i]? = some (.int ((upL L qs).getD i 0)) := by
  rw [List.getElem?_map, List.getElem?_eq_getElem (by rw [upL_len]; exact h), List.getD_eq_getElem?_getD, List.getElem?_eq_getElem (by rw [upL_len]; exact h)]
  rfl
theorem upL_bd {m : Nat} {L : Nat} {qs : List Rat} (h : AllO qs) (hL : L < 2 ^ m) (i : Nat) : ((upL L qs).getD i 0).natAbs < 2 ^ (100000 + m) := by
  unfold upL
  rw [List.getD_eq_getElem?_getD, List.getElem?_map]
  cases e : qs[i]? with
  | none => exact Nat.pow_pos (by decide)
  | some q =>
    refine lt_mul (h q (List.mem_of_getElem? e)).1 ?_
    have : ((L : Nat) : Int) / ((q.den : Nat) : Int) = ((L / q.den : Nat) : Int) := rfl
    rw [this, Int.natAbs_natCast]
    exact Nat.lt_of_le_of_lt (Nat.div_le_self _ _) hL
section
variable {P : Program} {w : World} {K : PySem.W.Frag} {mg : Str → Option Value} {base : Heap} {f fL o0 : Addr} {fd fdL : FuncData}
theorem scMl : FnScope nMl ["one", "other"] (defScope F_multiplied) := ⟨rfl, rfl, rfl, by decide +kernel, rfl, by decide +kernel, by decide +kernel⟩
theorem ok_multiplied (F : Fun K "multiplied" "multiplied" F_multiplied f fd) (mn : mg "len" = none) (mr : mg "range" = none) (ms : mg "sum" = none) (UO : Use P w K mg base CX0 1 "over_one_lower" ["numbers"] (spOol K) []) (UR : Use P w K mg base CX0 1 "ratio" ["upper", "lower"] spLowQ []) : FnOk P w K mg base CX0 2 f fd ["one", "other"] (spMulL K) := by
  refine F.ok scMl (fun vs H Q E h => ?_) (fun cdv A outer s H vs Q E hr h => ?_)
  · obtain ⟨x, y, qs, rs, L, B, M, C, rfl, _⟩ := h
    rfl
  obtain ⟨x, y, qs, rs, L0, B0, M0, C0, rfl, lx, ly, le, l1, sL, lB, sM, lC, bz, cz, q⟩ := h
  have bq : AllO qs := bz.ok sL lB
  have br : AllO rs := cz.ok sM lC
  refine ⟨_, pss_cons (ps_asg (pe_use UO hr rfl pass0 (pa_cons (pv 0) pa_nil)) (pg_tup rfl (pgs_cons (pg_name (i := 2) scMl.nd rfl (Or.inr rfl)) (pgs_cons (pg_name (i := 3) scMl.nd rfl (Or.inl rfl)) pgs_nil))))
    (pss_cons (ps_asg (pe_use UO hr rfl pass0 (pa_cons (pv 1) pa_nil)) (pg_tup rfl (pgs_cons (pg_name (i := 4) scMl.nd rfl (Or.inr rfl)) (pgs_cons (pg_name (i := 5) scMl.nd rfl (Or.inl rfl)) pgs_nil))))
    (pss_cons (ps_set (i := 6) scMl.nd rfl (Or.inl rfl) (pe_lst pa_nil))
    (pss_cons (ps_for PassesOwn.never rfl (pi_range1 rfl mr (pa_cons (pe_callB call_len_seq rfl mn PySem.boot_len (pa_cons (pv 0) pa_nil)) pa_nil)) (pg_name (i := 7) scMl.nd rfl (Or.inr rfl))
      (pss_cons (ps_set (i := 8) scMl.nd rfl (Or.inl rfl) (pe_callB (cr_sum rfl) rfl ms (by decide +kernel) (pa_cons (pe_lc (own := [("at", 9)]) (g := gName 9) (tt := tYes) rfl scMl.nd (pi_range1 rfl mr (pa_cons (pe_op op_add (pv 7) pe_int) pa_nil)) (blkOk_by (N := nMl) (sc := defScope F_multiplied) (by decide +kernel))
          (fun _ _ _ _ _ => pg_name (i := 9) scMl.nd rfl (Or.inl rfl)) (fun _ _ _ _ _ => pts_nil)
          (fun _ _ _ _ _ => pe_op op_mulW (pe_ix (ixl_at K rfl) (pv 2) (pv 9) (fun _ _ => rfl)) (pe_ix (ixl_at K rfl) (pv 4) (pe_op op_sub (pv 7) (pv 9)) (fun _ _ => rfl)))) pa_nil)))
      (pss_one (ps_expr (pe_bm PySem.F.plainAttrs_list PySem.F.slot_list_append PySem.F.type_list_append mt_append (pv 6) (pa_cons (pe_use UR hr rfl pass0 (pa_cons (pv 8) (pa_cons (pe_op op_mulW (pv 3) (pv 5)) pa_nil))) pa_nil))))))
    (pss_one (ps_ret (pv 6)))))), ?_⟩
  refine ⟨_, rfl, x, qs, L0, B0, rfl, lx, by omega, sL, lB, bz, fun b1 p1 H1 s1 n1 e1 t1 => ?_⟩
  refine ⟨p1, _, rfl, SqT.of t1, rfl, _, _, rfl, _, _, rfl, rfl, ?_⟩
  refine ⟨_, rfl, y, rs, M0, C0, rfl, ly.same s1, by omega, sM, lC, cz, fun b2 p2 H2 s2 n2 e2 t2 => ?_⟩
  refine ⟨p2, _, rfl, SqT.of t2, rfl, _, _, rfl, _, _, rfl, rfl, ?_⟩
  have lx2 := (lx.same s1).same s2
  obtain ⟨xa, xs, rfl, hx, nx⟩ := lx2
  have hl : xs.length = qs.length := nx.1
  have f1 := s2 _ _ e1
  have s12 := s1.trans s2
  clear s1 s2 t1 t2 e1 n1 n2 lx ly nx
  refine ⟨(by show 0 ≤ sizeLine; decide), fun fb nf => ?_⟩
  have sf := new_same nf (HO.lst [])
  have Lp := lcmL_pos qs 1 (by decide)
  have Mp := lcmL_pos rs 1 (by decide)
  have Lb : lcmL 1 qs < 2 ^ 4450 := Nat.lt_of_le_of_lt (Nat.le_of_dvd sL.1 (AllD.lcm sL.1 qs 1 bz (Nat.one_dvd _))) sL.2
  have Mb : lcmL 1 rs < 2 ^ 4450 := Nat.lt_of_le_of_lt (Nat.le_of_dvd sM.1 (AllD.lcm sM.1 rs 1 cz (Nat.one_dvd _))) sM.2
  have dL := (lcmL_dvd qs 1).2
  have dM := (lcmL_dvd rs 1).2
  generalize lcmL 1 qs = L at *
  generalize lcmL 1 rs = M at *
  refine ⟨_, rfl, xa, xs, rfl, .inl (SqL.of (sf _ _ hx)), ?_⟩
  refine ⟨_, rfl, by omega, by omega, for_range (lo := 0) (n := (((xs.length : Nat) : Int)).toNat) (fun i σ H' => Same H2 H' ∧ (∃ v7 v8, σ = [some (.ref xa), some y, some (.ref b1), some (.int (L : Nat)), some (.ref b2), some (.int (M : Nat)), some (.ref fb), v7, v8, none]) ∧ ∃ zs, H' fb = some (.lst zs) ∧ Nl K H' zs ((List.range i).map (cnv qs rs))) ⟨sf, ⟨none, none, rfl⟩, [], upd_same, Nl.nil⟩ ?_ ?_⟩
  · rintro i σ H3 hi ⟨s3, ⟨v7, v8, rfl⟩, zs, hz, nz⟩
    rw [Int.toNat_natCast] at hi
    have g1 := s3 _ _ f1
    have g2 := s3 _ _ e2
    have zl : zs.length = i := by rw [nz.1, List.length_map, List.length_range]
    refine ⟨_, rfl, (0 + (i : Int)), 1, rfl, rfl, _, rfl, by omega, by omega, fun D nD => ?_⟩
    refine lc_acc (walk_range (lo := 0) (n := (0 + (i : Int) + 1).toNat)) (fun j _ v => v = .int ((upL L qs).getD j 0 * (upL M rs).getD (i - j) 0)) (fun j H H' v l h _ _ => h) nD (by omega) (fun _ _ => trivial) ?_ ?_
    · rintro j v H4 H5 k hj s4 ⟨rfl, rfl⟩ hk
      have hj' : j < i + 1 := by omega
      refine ⟨rfl, _, rfl, _, rfl, b1, _, (0 + (j : Int)), _, rfl, rfl, SqL.of (s4 _ _ g1), at_of (j := j) (by omega) (upL_at (by omega)), _, rfl, _, rfl, _, rfl, (0 + (i : Int)), (0 + (j : Int)), rfl, rfl, b2, _, _, _, rfl, rfl, SqL.of (s4 _ _ g2), at_of (j := i - j) (by omega) (upL_at (by omega)), _, _, rfl, rfl, ?_, hk _ _ (Same.refl _) rfl⟩
      exact wide_mul (upL_bd bq Lb j) (upL_bd br Mb (i - j)) (by decide) (by decide) (by decide)
    · intro H4 ys s4 hD hyl hR
      have ey : ys = (pds (upL L qs) (upL M rs) i (i + 1)).map V.int := by
        apply List.ext_getElem?
        intro j
        unfold pds
        rw [List.map_map, List.getElem?_map]
        by_cases c : j < i + 1
        · rw [List.getElem?_range c]
          have e := List.getElem?_eq_getElem (l := ys) (i := j) (by omega)
          rw [e, hR j _ e]
          rfl
        · rw [List.getElem?_eq_none (by omega), List.getElem?_eq_none (by rw [List.length_range]; omega)]
          rfl
      refine ⟨D, _, rfl, SqL.of (by rw [hD, ey]), ?_⟩
      refine ⟨_, rfl, .inl ⟨rfl, _, SqL.of (s4 _ _ hz)⟩, _, rfl, _, rfl, _, rfl, (L : Nat), (M : Nat), rfl, rfl, ?_, ?_⟩
      · exact wide_mul (a := 4450) (b := 4450) (by rw [Int.natAbs_natCast]; exact Lb) (by rw [Int.natAbs_natCast]; exact Mb) (by decide) (by decide) (by decide)
      · refine ⟨_, _, rfl, Int.mul_ne_zero (by omega) (by omega), log_two (by rw [Int.natAbs_natCast]; exact Lb) (by rw [Int.natAbs_natCast]; exact Mb), fun t H5 s5 n5 e5 => ?_⟩
        rw [cnv_ratio dL dM Lp Mp] at e5
        have hz5 := s5 _ _ (s4 _ _ hz)
        refine ⟨fb, zs, _, rfl, rfl, hz5, small1000 (by omega), ?_, ⟨_, _, rfl⟩, zs ++ [.ref t], upd_same, ?_⟩
        · intro b o hb
          have nb : b ≠ fb := fun z => by rw [z, nf] at hb; cases hb
          rw [upd_ne nb]
          exact s5 _ _ (s4 _ _ (s3 _ _ hb))
        · have nz5 := (nz.same s4).same s5
          have nb : Nl K H5 (zs ++ [.ref t]) ((List.range (i + 1)).map (cnv qs rs)) := by
            rw [List.range_succ, List.map_append]
            exact nz5.snoc (.at e5)
          exact ⟨nb.1, fun j x r h1 h2 => (nb.2 j x r h1 h2).butL hz5 (fun b o n h => by rw [upd_ne n]; exact h)⟩
  · rintro σ H3 ⟨s3, ⟨v7, v8, rfl⟩, zs, hz, nz⟩
    rw [Int.toNat_natCast, hl] at nz
    exact ⟨_, rfl, q fb H3 zs (s12.trans s3) (s12.free nf) hz nz⟩
end
end Kx
end
section
set_option maxHeartbeats 4000000
namespace Kx
open PySem PySem.Spec PyProof.Rows L2
/-- the sum of the first products -/
def dotT (us ws : List Rat) : Nat → Rat
  | 0 => 0
  | j + 1 => dotT us ws j + us.getD j 0 * ws.getD j 0
theorem dotT_sum (us ws : List Rat) : ∀ n, dotT us ws n = sumN (fun i => ser us i * ser ws i) n
  | 0 => rfl
  | n + 1 => by
    show dotT us ws n + _ = _
    rw [dotT_sum us ws n]
    rfl
def dotL (us ws : List Rat) : Rat := dotT us ws (min us.length ws.length)
theorem dotT_z {L B M C : Nat} {us ws : List Rat} (h : AllD L B us) (h' : AllD M C ws) : ∀ j, Dq (L * M) (B + C + j) (dotT us ws j)
  | 0 => Dq.zero
  | j + 1 => (dotT_z h h' j).add (((h.getD j).mul (h'.getD j)).mono (Nat.le_add_right _ j)) (by omega) (by omega)
theorem prod_up {a b : Rat} {S : Nat} (h : a.den * b.den ∣ S) : ((a.num * b.num * ((S : Int) / ((a.den : Int) * (b.den : Int))) : Int) : Rat) = a * b * (S : Rat) := by
  obtain ⟨k, rfl⟩ := h
  have hd : ((a.den * b.den : Nat) : Int) ≠ 0 := by
    have := Nat.mul_ne_zero a.den_nz b.den_nz
    omega
  have e : (((a.den * b.den * k : Nat) : Int) / ((a.den : Int) * (b.den : Int))) = (k : Int) := by
    rw [← Int.natCast_mul, Int.natCast_mul (a.den * b.den) k, Int.mul_ediv_cancel_left _ hd]
  rw [e]
  have ha := up_val (q := a) (L := a.den) (Nat.dvd_refl _)
  have hb := up_val (q := b) (L := b.den) (Nat.dvd_refl _)
  rw [Int.ediv_self (den_ne a), Int.mul_one] at ha
  rw [Int.ediv_self (den_ne b), Int.mul_one] at hb
  rw [Rat.intCast_mul, Rat.intCast_mul, ha, hb, Rat.natCast_mul, Rat.natCast_mul]
  have : ((k : Int) : Rat) = (k : Rat) := rfl
  rw [this]
  grind
theorem quo_up {u : Int} {L S : Nat} {r : Rat} (h : L ∣ S) (L0 : 0 < L) (hu : (u : Rat) = r * (L : Rat)) : ((u * ((S : Int) / (L : Int)) : Int) : Rat) = r * (S : Rat) := by
  obtain ⟨k, rfl⟩ := h
  have e : (((L * k : Nat) : Int) / (L : Int)) = (k : Int) := by
    rw [Int.natCast_mul, Int.mul_ediv_cancel_left _ (by omega)]
  rw [e, Rat.intCast_mul, hu, Rat.natCast_mul]
  have : ((k : Int) : Rat) = (k : Rat) := rfl
  rw [this]
  grind
theorem div_of {u : Int} {L : Nat} {r : Rat} (L0 : 0 < L) (hu : (u : Rat) = r * (L : Rat)) : Rat.divInt u (L : Int) = r := by
  rw [Rat.divInt_eq_div, hu]
  have lz : (L : Rat) ≠ 0 := by
    intro z
    have : L = 0 := by exact_mod_cast z
    omega
  show r * (L : Rat) / (((L : Int)) : Rat) = r
  have : (((L : Int)) : Rat) = (L : Rat) := rfl
  rw [this]
  grind
def spDot (K : PySem.W.Frag) : Sp := fun vs H Q _ => ∃ (x y : V) (qs rs : List Rat) (L B M C : Nat), vs = [x, y] ∧ Ls K H x qs ∧ Ls K H y rs ∧ min qs.length rs.length ≤ 32 ∧ SmL L ∧ B ≤ 100000 ∧ SmL M ∧ C ≤ 100000 ∧ AllD L B qs ∧ AllD M C rs ∧ GivesQ H Q (dotL qs rs)
abbrev nDt : List Str := ["ones", "others", "upper", "lower", "a", "b", "c", "d", "shared"]
section
variable {P : Program} {w : World} {K : PySem.W.Frag} {mg : Str → Option Value} {base : Heap} {f fL o0 : Addr} {fd fdL : FuncData}
theorem scDt : FnScope nDt ["ones", "others"] (defScope F_dot) := ⟨rfl, rfl, rfl, by decide +kernel, rfl, by decide +kernel, by decide +kernel⟩
theorem ok_dot (F : Fun K "dot" "dot" F_dot f fd) (mz : mg "zip" = none) (mLc : mg "lcm" = some (.builtin "math.lcm")) (UR : Use P w K mg base CX0 1 "ratio" ["upper", "lower"] spLowQ []) : FnOk P w K mg base CX0 2 f fd ["ones", "others"] (spDot K) := by
  refine F.ok scDt (fun vs H Q E h => ?_) (fun cdv A outer s H vs Q E hr h => ?_)
  · obtain ⟨x, y, qs, rs, L, B, M, C, rfl, _⟩ := h
    rfl
  obtain ⟨x, y, qs, rs, LL, B, MM, C, rfl, ⟨xa, xs, rfl, hx, nx⟩, ⟨ya, ys, rfl, hy, ny⟩, l1, sL, lB, sM, lC, bq, br, q⟩ := h
  have LMb : LL * MM < 2 ^ 8900 := by
    rw [show (8900 : Nat) = 4450 + 4450 by rfl, Nat.pow_add]
    exact Nat.mul_lt_mul'' sL.2 sM.2
  have lcm_lt : ∀ {L : Nat}, L ∣ LL * MM → L < 2 ^ 8900 := fun h => Nat.lt_of_le_of_lt (Nat.le_of_dvd (Nat.mul_pos sL.1 sM.1) h) LMb
  refine ⟨_, pss_cons (ps_asg (pe_tup (pa_cons pe_int (pa_cons pe_int pa_nil))) (pg_tup rfl (pgs_cons (pg_name (i := 2) scDt.nd rfl (Or.inl rfl)) (pgs_cons (pg_name (i := 3) scDt.nd rfl (Or.inl rfl)) pgs_nil))))
    (pss_cons (ps_for PassesOwn.never rfl (pi_zip rfl mz (pa_cons (pv 0) (pa_cons (pv 1) pa_nil))) (pg_tup rfl (pgs_cons (pg_tup rfl (pgs_cons (pg_name (i := 4) scDt.nd rfl (Or.inl rfl)) (pgs_cons (pg_name (i := 5) scDt.nd rfl (Or.inl rfl)) pgs_nil))) (pgs_cons (pg_tup rfl (pgs_cons (pg_name (i := 6) scDt.nd rfl (Or.inl rfl)) (pgs_cons (pg_name (i := 7) scDt.nd rfl (Or.inl rfl)) pgs_nil))) pgs_nil)))
      (pss_one (ps_if (PW.pt (pw_and (pt_cmpR op_ne (pv 4) pe_int (nomark _)) (pw_and1 (pt_cmpR op_ne (pv 6) pe_int (nomark _)))))
        (pss_cons (ps_set (i := 8) scDt.nd rfl (Or.inl rfl) (pe_callBfun cr_lcm rfl mLc (pa_cons (pv 3) (pa_cons (pe_op op_mulW (pv 5) (pv 7)) pa_nil))))
        (pss_cons (ps_set (i := 2) scDt.nd rfl (Or.inl rfl) (pe_op op_add (pe_op op_mulW (pv 2) (pe_op op_fdivA (pv 8) (pv 3))) (pe_op op_mulW (pe_op op_mulW (pv 4) (pv 6)) (pe_op op_fdivA (pv 8) (pe_op op_mulW (pv 5) (pv 7))))))
        (pss_one (ps_set (i := 3) scDt.nd rfl (Or.inl rfl) (pv 8))))) pss_nil)))
    (pss_one (ps_ret (pe_use UR hr rfl pass0 (pa_cons (pv 2) (pa_cons (pv 3) pa_nil)))))), ?_⟩
  refine ⟨(by show 2 ≤ sizeLine; decide), fun t0 n0 => ?_⟩
  have s0 := new_same n0 (HO.tup [.int 0, .int 1])
  refine ⟨t0, _, rfl, SqT.of upd_same, rfl, _, _, rfl, _, _, rfl, rfl, ?_⟩
  generalize upd H t0 (HO.tup [.int 0, .int 1]) = H0 at s0
  have lx : xs.length = qs.length := nx.1
  have ly : ys.length = rs.length := ny.1
  refine ⟨_, rfl, _, rfl, xa, ya, xs, ys, rfl, SqL.of (s0 _ _ hx), SqL.of (s0 _ _ hy), ?_⟩
  refine for_it (walk_zip (K := K) (a := xa) (b := ya) (xs := xs) (ys := ys) (n := min xs.length ys.length) rfl) (fun i σ H' => Same H H' ∧ ∃ (u : Int) (L : Nat) (v4 v5 v6 v7 v8 : Option V), σ = [some (.ref xa), some (.ref ya), some (.int u), some (.int (L : Nat)), v4, v5, v6, v7, v8] ∧ L ∣ LL * MM ∧ (u : Rat) = dotT qs rs i * (L : Rat)) ⟨s0, 0, 1, none, none, none, none, none, rfl, Nat.one_dvd _, (by show ((0 : Int) : Rat) = 0 * _; rw [Rat.zero_mul]; rfl)⟩ (fun i σ H' _ h => ⟨SqL.of (h.1 _ _ hx), SqL.of (h.1 _ _ hy)⟩) ?_ ?_
  · rintro i z σ H3 H4 hi ⟨s3, u, L, v4, v5, v6, v7, v8, rfl, dL, hu⟩ ⟨T, y, z, rfl, hT, rfl, ey, ez⟩
    have sT := new_same hT (.tup [y, z])
    obtain ⟨a, ea, na⟩ := nx.get ey
    obtain ⟨b, eb, nb⟩ := ny.get ez
    obtain ⟨va, rfl, sa, _⟩ := (na.same (s3.trans sT)).sq
    obtain ⟨vb, rfl, sb, _⟩ := (nb.same (s3.trans sT)).sq
    have za := bq a (List.mem_of_getElem? ea)
    have zb := br b (List.mem_of_getElem? eb)
    have ba : Ok a := za.ok sL lB
    have bb : Ok b := zb.ok sM lC
    have L0 : 0 < L := Nat.pos_of_dvd_of_pos dL (Nat.mul_pos sL.1 sM.1)
    have nxt : dotT qs rs (i + 1) = dotT qs rs i + a * b := by
      show _ + List.getD _ _ _ * List.getD _ _ _ = _
      rw [List.getD_eq_getElem?_getD, List.getD_eq_getElem?_getD, ea, eb]
      rfl
    refine ⟨T, _, rfl, SqT.of upd_same, rfl, _, _, rfl, va, _, rfl, sa, rfl, _, _, rfl, _, _, rfl, rfl, _, _, rfl, vb, _, rfl, sb, rfl, _, _, rfl, _, _, rfl, rfl, rfl, ?_⟩
    have skip : a * b = 0 → L ∣ LL * MM ∧ (u : Rat) = dotT qs rs (i + 1) * (L : Rat) := fun z => ⟨dL, by rw [nxt, z, Rat.add_zero]; exact hu⟩
    refine ⟨_, rfl, rfl, _, rfl, ?_⟩
    by_cases ca : a.num = 0
    · have z : a = 0 := Rat.num_eq_zero.mp ca
      rw [decide_eq_true (congrArg V.int ca)]
      exact iteF (iteF ⟨s3.trans sT, u, L, _, _, _, _, _, rfl, skip (by rw [z, Rat.zero_mul])⟩)
    rw [decide_eq_false (fun e => ca (V.int.inj e))]
    refine iteT ⟨_, rfl, rfl, _, rfl, ?_⟩
    by_cases cb : b.num = 0
    · have z : b = 0 := Rat.num_eq_zero.mp cb
      rw [decide_eq_true (congrArg V.int cb)]
      exact iteF ⟨s3.trans sT, u, L, _, _, _, _, _, rfl, skip (by rw [z, Rat.mul_zero])⟩
    rw [decide_eq_false (fun e => cb (V.int.inj e))]
    have dd : a.den * b.den ∣ LL * MM := by
      exact Nat.mul_dvd_mul (za.dvd sL.1) (zb.dvd sM.1)
    have d0 : 0 < a.den * b.den := Nat.pos_of_dvd_of_pos dd (Nat.mul_pos sL.1 sM.1)
    have Lb := lcm_lt dL
    have db := lcm_lt dd
    have S0 : Nat.lcm L (a.den * b.den) ∣ LL * MM := Nat.lcm_dvd dL dd
    have d1 := Nat.dvd_lcm_left L (a.den * b.den)
    have d2 := Nat.dvd_lcm_right L (a.den * b.den)
    have Sb := lcm_lt S0
    refine iteT ⟨_, rfl, _, rfl, _, rfl, _, _, rfl, rfl, wide_mul ba.dn bb.dn (by decide) (by decide) (by decide), L, a.den * b.den, rfl, Nat.lt_of_lt_of_le Lb (Nat.pow_le_pow_right (by decide) (by decide)), Nat.lt_of_lt_of_le db (Nat.pow_le_pow_right (by decide) (by decide)), L0, d0, ?_⟩
    have ub : u.natAbs < 2 ^ 300000 := Nat.lt_of_lt_of_le ((dotT_z bq br i).part (Nat.mul_pos sL.1 sM.1) dL hu) (Nat.pow_le_pow_right (by decide) (by omega))
    generalize Nat.lcm L (a.den * b.den) = S at *
    have cd : ((S : Nat) : Int) / ((L : Nat) : Int) = ((S / L : Nat) : Int) := rfl
    have ce : ((S : Nat) : Int) / (((a.den : Nat) : Int) * ((b.den : Nat) : Int)) = ((S / (a.den * b.den) : Nat) : Int) := rfl
    have q1 := quo_up d1 L0 hu
    have q2 := prod_up (a := a) (b := b) d2
    refine ⟨_, rfl, _, rfl, _, rfl, (S : Nat), (L : Nat), rfl, rfl, ⟨by omega, Nat.lt_trans (log_bd (by rw [Int.natAbs_natCast]; exact Lb) (by decide)) (by decide)⟩, _, _, rfl, rfl, ?_, ?_⟩
    · rw [Int.fdiv_eq_ediv_of_nonneg _ (by omega), cd]
      refine wide_mul (b := 8900) ub ?_ (by decide) (by decide) (by decide)
      rw [Int.natAbs_natCast]
      exact Nat.lt_of_le_of_lt (Nat.div_le_self _ _) Sb
    refine ⟨_, rfl, _, rfl, a.num, b.num, rfl, rfl, wide_mul ba.1 bb.1 (by decide) (by decide) (by decide), _, rfl, _, rfl, _, rfl, (a.den : Nat), (b.den : Nat), rfl, rfl, wide_mul ba.dn bb.dn (by decide) (by decide) (by decide), (S : Nat), _, rfl, rfl, ⟨by omega, Nat.lt_trans (log_bd (n := 8900) (by rw [← Int.natCast_mul, Int.natAbs_natCast]; exact db) (by decide)) (by decide)⟩, _, _, rfl, rfl, ?_, ?_⟩
    · rw [Int.fdiv_eq_ediv_of_nonneg _ (by omega), ce]
      refine wide_mul (b := 8900) (lt_mul ba.1 bb.1) ?_ (by decide) (by decide) (by decide)
      rw [Int.natAbs_natCast]
      exact Nat.lt_of_le_of_lt (Nat.div_le_self _ _) Sb
    rw [Int.fdiv_eq_ediv_of_nonneg _ (by omega), Int.fdiv_eq_ediv_of_nonneg _ (by omega)]
    refine ⟨_, _, rfl, rfl, _, rfl, s3.trans sT, _, S, _, _, _, _, _, rfl, S0, ?_⟩
    rw [nxt, Rat.intCast_add, q1, q2]
    grind
  · rintro σ H3 ⟨s3, u, L, v4, v5, v6, v7, v8, rfl, dL, hu⟩
    have L0 : 0 < L := Nat.pos_of_dvd_of_pos dL (Nat.mul_pos sL.1 sM.1)
    rw [lx, ly] at hu
    refine ⟨_, rfl, _, rfl, u, (L : Nat), rfl, by omega, Nat.lt_trans (log_bd (n := 8900) (by rw [Int.natAbs_natCast]; exact lcm_lt dL) (by decide)) (by decide), fun t H4 s4 n4 h4 => ?_⟩
    rw [div_of L0 hu] at h4
    exact q t H4 (s3.trans s4) (s3.free n4) h4
end
end Kx
end
section
set_option maxHeartbeats 4000000
namespace Kx
open PySem PySem.Spec PyProof.Rows L2
/-! ### lists of lists -/
def Lsl (K : PySem.W.Frag) (H : Hp) (xs : List V) (rows : List (List Rat)) : Prop := xs.length = rows.length ∧ ∀ (i : Nat) (x : V) (r : List Rat), xs[i]? = some x → rows[i]? = some r → Ls K H x r
def Lss (K : PySem.W.Frag) (H : Hp) (v : V) (rows : List (List Rat)) : Prop := ∃ a xs, v = .ref a ∧ H a = some (.lst xs) ∧ Lsl K H xs rows
def GivesLL (K : PySem.W.Frag) (H : Hp) (Q : VK) (rows : List (List Rat)) : Prop := ∀ b H' xs, Same H H' → H b = none → H' b = some (.lst xs) → Lsl K H' xs rows → Q (.ref b) H'
section
variable {K : PySem.W.Frag} {H H' : Hp}
theorem Lsl.same {xs : List V} {rows : List (List Rat)} (h : Lsl K H xs rows) (s : Same H H') : Lsl K H' xs rows := ⟨h.1, fun i x r h1 h2 => (h.2 i x r h1 h2).same s⟩
theorem Lss.same {v : V} {rows : List (List Rat)} (h : Lss K H v rows) (s : Same H H') : Lss K H' v rows := by
  obtain ⟨a, xs, e, h1, h2⟩ := h
  exact ⟨a, xs, e, s _ _ h1, h2.same s⟩
theorem Lsl.get {xs : List V} {rows : List (List Rat)} (h : Lsl K H xs rows) {i : Nat} {x : V} (hx : xs[i]? = some x) : ∃ r, rows[i]? = some r ∧ Ls K H x r := by
  have hi : i < xs.length := by
    rcases Nat.lt_or_ge i xs.length with c | c
    · exact c
    · rw [List.getElem?_eq_none c] at hx; cases hx
  have e := List.getElem?_eq_getElem (l := rows) (i := i) (by rw [← h.1]; exact hi)
  exact ⟨_, e, h.2 i x _ hx e⟩
theorem Lsl.get' {xs : List V} {rows : List (List Rat)} (h : Lsl K H xs rows) {i : Nat} (hi : i < rows.length) : ∃ x, xs[i]? = some x ∧ Ls K H x rows[i] := by
  have e := List.getElem?_eq_getElem (l := xs) (i := i) (by rw [h.1]; exact hi)
  exact ⟨_, e, h.2 i _ _ e (List.getElem?_eq_getElem hi)⟩
theorem Lsl.snoc {xs : List V} {rows : List (List Rat)} {x : V} {r : List Rat} (h : Lsl K H xs rows) (hx : Ls K H x r) : Lsl K H (xs ++ [x]) (rows ++ [r]) := by
  refine ⟨by rw [List.length_append, List.length_append, h.1]; rfl, fun i y s h1 h2 => ?_⟩
  by_cases c : i < xs.length
  · rw [List.getElem?_append_left c] at h1
    rw [List.getElem?_append_left (by rw [← h.1]; exact c)] at h2
    exact h.2 i y s h1 h2
  · rw [List.getElem?_append_right (by omega)] at h1
    rw [List.getElem?_append_right (by rw [← h.1]; omega), ← h.1] at h2
    match hj : i - xs.length, h1, h2 with
    | 0, h1, h2 =>
      rw [← Option.some.inj (show some x = some y from h1), ← Option.some.inj (show some r = some s from h2)]
      exact hx
    | _ + 1, h1, _ => simp at h1
theorem Ls.butL {v : V} {qs : List Rat} {D : Addr} {l : List V} (h : Ls K H v qs) (hD : H D = some (.lst l)) (n : v ≠ .ref D) (s : But D H H') : Ls K H' v qs := by
  obtain ⟨a, xs, rfl, h1, h2⟩ := h
  exact ⟨a, xs, rfl, s _ _ (fun e => n (by rw [e])) h1, h2.1, fun i x q e1 e2 => (h2.2 i x q e1 e2).butL hD s⟩
end
theorem pil_at {X : Cx} {tg l : Expr} {tl : TE} (K : PySem.W.Frag) (h : X.K = K) (hl : PE X l tl) : PI X tg l (iList K tl) := by
  subst h
  exact pi_list hl
def mixL (n : Nat) (qs : List Rat) (rows : List (List Rat)) : List Rat := (List.range n).map fun i => dotL qs (rows.map fun r => r.getD i 0)
theorem mixL_len (n : Nat) (qs : List Rat) (rows : List (List Rat)) : (mixL n qs rows).length = n := by unfold mixL; rw [List.length_map, List.length_range]
def spMix (K : PySem.W.Frag) : Sp := fun vs H Q _ => ∃ (x y : V) (qs : List Rat) (rows : List (List Rat)) (n L B M C : Nat), vs = [x, y] ∧ Ls K H x qs ∧ Lss K H y rows ∧ 1 ≤ rows.length ∧ rows.length ≤ 32 ∧ n ≤ 30 ∧ (∀ r ∈ rows, r.length = n) ∧ SmL L ∧ B ≤ 100000 ∧ SmL M ∧ C ≤ 100000 ∧ AllD L B qs ∧ (∀ r ∈ rows, AllD M C r) ∧ GivesL K H Q (mixL n qs rows)
abbrev scMi : Scope := { kind := .function, names := [(".0", .local), ("at", .cell), ("dot", .globalImplicit), ("factors", .cell), ("lists", .cell)], isGenerator := false, isCoroutine := false }
abbrev nMx : List Str := ["factors", "lists", "at", "numbers"]
section
variable {P : Program} {w : World} {K : PySem.W.Frag} {mg : Str → Option Value} {base : Heap} {f fL o0 : Addr} {fd fdL : FuncData}
theorem scMx : FnScope nMx ["factors", "lists"] (defScope F_mixed) := ⟨rfl, rfl, rfl, by decide +kernel, rfl, by decide +kernel, by decide +kernel⟩
theorem ok_mixed (F : Fun K "mixed" "mixed" F_mixed f fd) (mn : mg "len" = none) (mr : mg "range" = none) (UD : Use P w K mg base CX0 2 "dot" ["ones", "others"] (spDot K) []) : FnOk P w K mg base CX0 3 f fd ["factors", "lists"] (spMix K) := by
  refine F.ok scMx (fun vs H Q E h => ?_) (fun cdv A outer s H vs Q E hr h => ?_)
  · obtain ⟨x, y, qs, rows, n, L, B, M, C, rfl, _⟩ := h
    rfl
  obtain ⟨x, y, qs, rows, n, L, B, M, C, rfl, lx, ly, r1, r32, n30, rn, sL, lB, sM, lC, bq, br, q⟩ := h
  refine ⟨_, pss_one (ps_ret (pe_lc (own := [("at", 2)]) (g := gName 2) (tt := tYes) rfl scMx.nd (pi_range1 rfl mr (pa_cons (pe_callB call_len_seq rfl mn PySem.boot_len (pa_cons (pe_ix ix_list (pv 1) pe_int (fun _ _ => rfl)) pa_nil)) pa_nil)) (blkOk_by (N := nMx) (sc := defScope F_mixed) (by decide +kernel))
      (fun _ _ _ _ _ => pg_name (i := 2) scMx.nd rfl (Or.inr rfl)) (fun _ _ _ _ _ => pts_nil)
      (fun _ _ _ _ _ => pe_use UD hr rfl pass0 (pa_cons (pv 0) (pa_cons (pe_lc (own := [("numbers", 3)]) (g := gName 3) (tt := tYes) rfl scMx.nd (pil_at K rfl (pv 1)) (blkOk_by (N := nMx) (sc := scMi) (by decide +kernel))
        (fun _ _ _ _ _ => pg_name (i := 3) scMx.nd rfl (Or.inl rfl)) (fun _ _ _ _ _ => pts_nil) (fun _ _ _ _ _ => pe_ix (ixl_at K rfl) (pv 3) (pv 2) (fun _ _ => rfl))) pa_nil))))), ?_⟩
  obtain ⟨xa, xs, rfl, hx, nx⟩ := lx
  obtain ⟨ya, ys, rfl, hy, ny⟩ := ly
  have l0 := ny.1
  obtain ⟨y0, e0', hy0⟩ := ny.get' (i := 0) (by omega)
  obtain ⟨za, zs, rfl, hz, nz⟩ := hy0
  have zl : zs.length = n := by rw [nz.1]; exact rn _ (List.getElem_mem _)
  refine ⟨_, rfl, ya, ys, 0, _, rfl, rfl, SqL.of hy, at_of (j := 0) rfl e0', za, zs, rfl, .inl (SqL.of hz), ?_⟩
  refine ⟨_, rfl, by omega, by omega, fun D nD => ?_⟩
  rw [zl]
  refine lc_nums (K := K) (walk_range (lo := 0) (n := (((n : Nat) : Int)).toNat)) (mixL n qs rows) (by rw [mixL_len, Int.toNat_natCast]) nD (by omega) (fun _ _ => trivial) ?_ (fun H' zs s h m => q D H' zs s nD h m)
  rintro i r x H2 H3 k hq s2 ⟨rfl, rfl⟩ hk
  have hi : i < n := by
    rcases Nat.lt_or_ge i n with c | c
    · exact c
    · rw [List.getElem?_eq_none (by rw [mixL_len]; exact c)] at hq; cases hq
  have er : dotL qs (rows.map fun r => r.getD i 0) = r := by
    unfold mixL at hq
    rw [List.getElem?_map, List.getElem?_range hi] at hq
    exact Option.some.inj hq
  refine ⟨rfl, _, rfl, _, rfl, ya, rfl, ⟨_, SqL.of (s2 _ _ hy)⟩, fun D2 nD2 => ?_⟩
  refine lc_nums (K := K) (walk_list (K := K) (a := ya) (xs := ys)) (rows.map fun r => r.getD i 0) (by rw [List.length_map]; omega) nD2 (by omega) (fun H' s => SqL.of (s _ _ (s2 _ _ hy))) ?_ ?_
  · rintro j r' x H4 H5 k2 hq2 s4 ⟨rfl, hx2⟩ hk2
    obtain ⟨row, erow, lrow⟩ := ny.get hx2
    obtain ⟨ra, rxs, rfl, hrx, nrx⟩ := lrow
    rw [List.getElem?_map, erow] at hq2
    have e2 : row.getD i 0 = r' := Option.some.inj hq2
    have rl := rn row (List.mem_of_getElem? erow)
    obtain ⟨z, ez, nz2⟩ := nrx.get' (i := i) (by omega)
    have e3 : row[i] = r' := by rw [← e2, List.getD_eq_getElem?_getD, List.getElem?_eq_getElem (by omega)]; rfl
    rw [e3] at nz2
    exact ⟨rfl, _, rfl, _, rfl, ra, rxs, 0 + (i : Int), z, rfl, rfl, SqL.of (s4 _ _ (s2 _ _ hrx)), at_of (j := i) (by omega) ez, hk2 _ _ (Same.refl _) (nz2.same (s2.trans s4))⟩
  · intro H4 ws s4 h4 m4
    refine ⟨_, _, qs, _, L, B, M, C, rfl, ⟨xa, xs, rfl, s4 _ _ (s2 _ _ hx), nx.same (s2.trans s4)⟩, ⟨D2, ws, rfl, h4, m4⟩, ?_, sL, lB, sM, lC, bq, ?_, ?_⟩
    · rw [List.length_map]
      omega
    · intro p hp
      obtain ⟨row, hrow, rfl⟩ := List.mem_map.mp hp
      exact (br row hrow).getD i
    · intro t H5 s5 n5 h5
      rw [er] at h5
      exact hk _ _ (s4.trans s5) (.at h5)
end
end Kx
end
section
set_option maxHeartbeats 4000000
namespace Kx
/-! ### lists grown by their last -/
def recL (f : List Rat → Rat) : Nat → List Rat
  | 0 => []
  | k + 1 => recL f k ++ [f (recL f k)]
theorem recL_len (f : List Rat → Rat) : ∀ k, (recL f k).length = k
  | 0 => rfl
  | k + 1 => by
    show (recL f k ++ [_]).length = _
    rw [List.length_append, recL_len f k]
    rfl
theorem recL_pre (f : List Rat → Rat) (k : Nat) : ∀ n, k ≤ n → ∀ i, i < k → ser (recL f n) i = ser (recL f k) i := by
  intro n h
  induction h with
  | refl => exact fun _ _ => rfl
  | step h ih =>
    rename_i m
    intro i hi
    rw [← ih i hi]
    have l := recL_len f m
    have h' : k ≤ m := h
    show List.getD (recL f m ++ [_]) i 0 = List.getD (recL f m) i 0
    rw [List.getD_eq_getElem?_getD, List.getElem?_append_left (by omega), ← List.getD_eq_getElem?_getD]
theorem recL_at (f : List Rat → Rat) {k n : Nat} (h : k < n) : ser (recL f n) k = f (recL f k) := by
  rw [recL_pre f (k + 1) n h k (by omega)]
  show List.getD (recL f k ++ [_]) k 0 = _
  have l := recL_len f k
  rw [List.getD_eq_getElem?_getD, List.getElem?_append_right (by omega), l, Nat.sub_self]
  rfl
/-! ### slopes of series -/
def nR (k : Nat) : Rat := ((k : Nat) : Rat)
theorem nR_add (a b : Nat) : nR (a + b) = nR a + nR b := Rat.natCast_add a b
theorem nR_ne {k : Nat} (h : k ≠ 0) : nR k ≠ 0 := fun z => h (by
  have : ((k : Nat) : Rat) = 0 := z
  exact_mod_cast this)
def dS (F : Ser) : Ser := fun k => nR (k + 1) * F (k + 1)
def scS (t : Rat) (F : Ser) : Ser := fun k => t * F k
theorem mulS_scl (t : Rat) (F G : Ser) : mulS (scS t F) G = scS t (mulS F G) := by
  funext k
  show sumN (fun i => t * F i * G (k - i)) (k + 1) = t * sumN (fun i => F i * G (k - i)) (k + 1)
  rw [← sum_mul]
  exact sum_congr fun i _ => Rat.mul_assoc _ _ _
theorem mulS_scr (t : Rat) (F G : Ser) : mulS F (scS t G) = scS t (mulS F G) := by rw [mulS_comm, mulS_scl, mulS_comm]
theorem mulS_addr (F G H : Ser) : mulS F (addS G H) = addS (mulS F G) (mulS F H) := by rw [mulS_comm, mulS_add, mulS_comm G, mulS_comm H]
theorem dS_mul (F G : Ser) : dS (mulS F G) = addS (mulS (dS F) G) (mulS F (dS G)) := by
  funext k
  show nR (k + 1) * sumN (fun i => F i * G (k + 1 - i)) (k + 1 + 1) = sumN (fun i => nR (i + 1) * F (i + 1) * G (k - i)) (k + 1) + sumN (fun i => F i * (nR (k - i + 1) * G (k - i + 1))) (k + 1)
  rw [← sum_mul]
  have e : sumN (fun i => nR (k + 1) * (F i * G (k + 1 - i))) (k + 1 + 1) = sumN (fun i => nR i * F i * G (k + 1 - i)) (k + 1 + 1) + sumN (fun i => F i * (nR (k + 1 - i) * G (k + 1 - i))) (k + 1 + 1) := by
    rw [← sum_add]
    refine sum_congr fun i hi => ?_
    have : nR (k + 1) = nR i + nR (k + 1 - i) := by rw [← nR_add, show i + (k + 1 - i) = k + 1 by omega]
    rw [this]
    grind
  rw [e]
  congr 1
  · rw [sum_first]
    have z : nR 0 * F 0 * G (k + 1 - 0) = 0 := by
      show ((0 : Nat) : Rat) * F 0 * _ = 0
      rw [show ((0 : Nat) : Rat) = 0 from rfl, Rat.zero_mul, Rat.zero_mul]
    rw [z, Rat.zero_add]
    exact sum_congr fun i hi => by rw [show k + 1 - (i + 1) = k - i by omega]
  · show sumN _ (k + 1) + F (k + 1) * (nR (k + 1 - (k + 1)) * G (k + 1 - (k + 1))) = _
    rw [Nat.sub_self]
    have z : F (k + 1) * (nR 0 * G 0) = 0 := by
      show F (k + 1) * (((0 : Nat) : Rat) * G 0) = 0
      rw [show ((0 : Nat) : Rat) = 0 from rfl, Rat.zero_mul, Rat.mul_zero]
    rw [z, Rat.add_zero]
    exact sum_congr fun i hi => by rw [show k + 1 - i = k - i + 1 by omega]
theorem EqTo.dS {n : Nat} {F G : Ser} (h : EqTo (n + 1) F G) : EqTo n (dS F) (dS G) := fun i hi => by
  show nR _ * F _ = nR _ * G _
  rw [h (i + 1) (by omega)]
theorem EqTo.sc {n : Nat} {F G : Ser} (h : EqTo n F G) (t : Rat) : EqTo n (scS t F) (scS t G) := fun i hi => by
  show t * F i = t * G i
  rw [h i hi]
theorem EqTo.add {n : Nat} {F G K L : Ser} (h : EqTo n F G) (h' : EqTo n K L) : EqTo n (addS F K) (addS G L) := fun i hi => by
  show F i + K i = G i + L i
  rw [h i hi, h' i hi]
theorem EqTo.refl (n : Nat) (F : Ser) : EqTo n F F := fun _ _ => rfl
/-- division is unique -/
theorem div_uni {X Y U : Ser} {n : Nat} (u0 : U 0 ≠ 0) (h : EqTo n (mulS X U) (mulS Y U)) : EqTo n X Y := by
  intro k
  induction k using Nat.strongRecOn with
  | _ k ih =>
    intro hk
    have e := h k hk
    have e2 : sumN (fun i => X i * U (k - i)) k + X k * U (k - k) = sumN (fun i => Y i * U (k - i)) k + Y k * U (k - k) := e
    rw [Nat.sub_self, sum_congr (f := fun i => X i * U (k - i)) (g := fun i => Y i * U (k - i)) fun i hi => by rw [ih i hi (by omega)]] at e2
    have e3 : X k * U 0 = Y k * U 0 := by grind
    have e4 : X k * U 0 / U 0 = Y k * U 0 / U 0 := by rw [e3]
    rw [Rat.mul_div_cancel u0, Rat.mul_div_cancel u0] at e4
    exact e4
/-- growth by a rate is unique -/
theorem ode_uni {P P' Q : Ser} {n : Nat} (p0 : P 0 = P' 0) (h : EqTo n (dS P) (mulS Q P)) (h' : EqTo n (dS P') (mulS Q P')) : EqTo (n + 1) P P' := by
  intro k
  induction k using Nat.strongRecOn with
  | _ k ih =>
    intro hk
    match k, ih, hk with
    | 0, _, _ => exact p0
    | k + 1, ih, hk =>
      have e := h k (by omega)
      have e' := h' k (by omega)
      have s : mulS Q P k = mulS Q P' k := sum_congr fun i hi => by rw [ih (k - i) (by omega) (by omega)]
      have e2 : nR (k + 1) * P (k + 1) = nR (k + 1) * P' (k + 1) := by
        show dS P k = dS P' k
        rw [e, e', s]
      have n0 := nR_ne (show k + 1 ≠ 0 by omega)
      have e4 : P (k + 1) * nR (k + 1) / nR (k + 1) = P' (k + 1) * nR (k + 1) / nR (k + 1) := by rw [Rat.mul_comm, e2, Rat.mul_comm]
      rw [Rat.mul_div_cancel n0, Rat.mul_div_cancel n0] at e4
      exact e4
theorem ext_ser {us ws : List Rat} (l : us.length = ws.length) (h : EqTo us.length (ser us) (ser ws)) : us = ws := by
  rw [← toL_ser us, ← toL_ser ws, ← l]
  exact toL_eq h
/-! ### rows: slopes of the log, log, powers, one upon a row -/
theorem dot_at {us ws : List Rat} {k : Nat} (l : k ≤ us.length) (l' : ws.length = k) : dotL us ws = sumN (fun i => ser us i * ser ws i) k := by
  unfold dotL
  rw [l', Nat.min_eq_right l, dotT_sum]
theorem ser_seg {us : List Rat} {k j : Nat} (h : k < us.length) (hj : j < k) : ser (segL us k) j = ser us (k - j) := by
  show List.getD _ _ _ = List.getD _ _ _
  rw [List.getD_eq_getElem?_getD, segL_get h j hj, ← List.getD_eq_getElem?_getD]
theorem ser_rev {us : List Rat} {j : Nat} (h : j < us.length) : ser us.reverse j = ser us (us.length - 1 - j) := by
  show List.getD _ _ _ = List.getD _ _ _
  rw [List.getD_eq_getElem?_getD, List.getElem?_reverse h, ← List.getD_eq_getElem?_getD]
def lsF (us l : List Rat) : Rat := nR (l.length + 1) * us.getD (l.length + 1) 0 - dotL l (segL us l.length)
theorem lsF_eq (us l : List Rat) : lsF us l = nR (l.length + 1) * us.getD (l.length + 1) 0 - dotL l (segL us l.length) := rfl
def lsL (us : List Rat) : List Rat := recL (lsF us) (us.length - 1)
theorem lsL_len (us : List Rat) : (lsL us).length = us.length - 1 := recL_len _ _
theorem ls_eq {us : List Rat} (u0 : ser us 0 = 1) : EqTo (us.length - 1) (mulS (ser (lsL us)) (ser us)) (dS (ser us)) := fun k hk => by
  show sumN (fun i => ser (lsL us) i * ser us (k - i)) k + ser (lsL us) k * ser us (k - k) = nR (k + 1) * ser us (k + 1)
  have e : ser (lsL us) k = nR (k + 1) * ser us (k + 1) - sumN (fun i => ser (lsL us) i * ser us (k - i)) k := by
    unfold lsL
    rw [recL_at _ hk, lsF_eq, recL_len]
    congr 1
    rw [dot_at (k := k) (by rw [recL_len]; exact Nat.le_refl _) (segL_len (by omega))]
    exact sum_congr fun i hi => by rw [ser_seg (by omega) hi, recL_pre (lsF us) k (us.length - 1) (by omega) i hi]
  rw [e, Nat.sub_self, u0, Rat.mul_one]
  grind
def lgL (us : List Rat) : List Rat := 0 :: (List.range (us.length - 1)).map fun k => ser (lsL us) k / nR (k + 1)
theorem lgL_len {us : List Rat} (l : 1 ≤ us.length) : (lgL us).length = us.length := by
  unfold lgL
  rw [List.length_cons, List.length_map, List.length_range]
  omega
theorem lg_at {us : List Rat} {k : Nat} (h : k < us.length - 1) : ser (lgL us) (k + 1) = ser (lsL us) k / nR (k + 1) := by
  show List.getD ((List.range (us.length - 1)).map _) k 0 = _
  rw [List.getD_eq_getElem?_getD, List.getElem?_map, List.getElem?_range h]
  rfl
theorem lg_dS {us : List Rat} : EqTo (us.length - 1) (dS (ser (lgL us))) (ser (lsL us)) := fun k hk => by
  show nR (k + 1) * ser (lgL us) (k + 1) = _
  rw [lg_at hk, Rat.mul_comm, Rat.div_mul_cancel (nR_ne (by omega))]
def pwF (S : List Rat) (t : Rat) (l : List Rat) : Rat := if l.length = 0 then 1 else t * dotL S l.reverse / nR l.length
theorem pwF_eq (S : List Rat) (t : Rat) (l : List Rat) : pwF S t l = if l.length = 0 then 1 else t * dotL S l.reverse / nR l.length := rfl
def pwL (us : List Rat) (t : Rat) : List Rat := recL (pwF (lsL us) t) us.length
theorem pwL_len (us : List Rat) (t : Rat) : (pwL us t).length = us.length := recL_len _ _
theorem pw_zero {us : List Rat} (t : Rat) (l : 1 ≤ us.length) : ser (pwL us t) 0 = 1 := by
  unfold pwL
  rw [recL_at _ (show 0 < us.length by omega)]
  rfl
theorem pw_succ {us : List Rat} (t : Rat) {k : Nat} (h : k < us.length - 1) : ser (pwL us t) (k + 1) = t * mulS (ser (lsL us)) (ser (pwL us t)) k / nR (k + 1) := by
  have e0 : ser (pwL us t) (k + 1) = pwF (lsL us) t (recL (pwF (lsL us) t) (k + 1)) := recL_at _ (by omega)
  have l := recL_len (pwF (lsL us) t) (k + 1)
  rw [e0, pwF_eq, l, if_neg (by omega)]
  congr 2
  rw [dot_at (k := k + 1) (by rw [lsL_len]; omega) (by rw [List.length_reverse, l])]
  exact sum_congr fun i hi => by rw [ser_rev (by omega), l, show k + 1 - 1 - i = k - i by omega, ← recL_pre (pwF (lsL us) t) (k + 1) us.length (by omega) (k - i) (by omega)]; rfl
theorem pw_ode {us : List Rat} (t : Rat) : EqTo (us.length - 1) (dS (ser (pwL us t))) (mulS (scS t (ser (lsL us))) (ser (pwL us t))) := fun k hk => by
  show nR (k + 1) * ser (pwL us t) (k + 1) = _
  rw [pw_succ t hk, mulS_scl, Rat.mul_comm, Rat.div_mul_cancel (nR_ne (by omega))]
  rfl
def rcF (us l : List Rat) : Rat := if l.length = 0 then 1 / us.getD 0 0 else -(dotL l (segL us l.length)) / us.getD 0 0
theorem rcF_eq (us l : List Rat) : rcF us l = if l.length = 0 then 1 / us.getD 0 0 else -(dotL l (segL us l.length)) / us.getD 0 0 := rfl
def rcL (us : List Rat) : List Rat := recL (rcF us) us.length
theorem rcL_len (us : List Rat) : (rcL us).length = us.length := recL_len _ _
theorem rc_eq {us : List Rat} (u0 : ser us 0 ≠ 0) : EqTo us.length (mulS (ser (rcL us)) (ser us)) oneS := fun k hk => by
  show sumN (fun i => ser (rcL us) i * ser us (k - i)) k + ser (rcL us) k * ser us (k - k) = _
  have e : ser (rcL us) k = rcF us (recL (rcF us) k) := recL_at _ hk
  have l := recL_len (rcF us) k
  rw [Nat.sub_self, e, rcF_eq, l]
  clear e l
  match k, hk with
  | 0, _ =>
    rw [if_pos rfl]
    show (0 : Rat) + 1 / us.getD 0 0 * us.getD 0 0 = 1
    have u0' : us.getD 0 0 ≠ 0 := u0
    rw [Rat.div_mul_cancel u0', Rat.zero_add]
  | k + 1, hk =>
    rw [if_neg (by omega), dot_at (k := k + 1) (by rw [recL_len]; exact Nat.le_refl _) (segL_len (by omega))]
    have s : sumN (fun i => ser (recL (rcF us) (k + 1)) i * ser (segL us (k + 1)) i) (k + 1) = sumN (fun i => ser (rcL us) i * ser us (k + 1 - i)) (k + 1) := sum_congr fun i hi => by
      rw [ser_seg (by omega) hi]
      unfold rcL
      rw [recL_pre (rcF us) (k + 1) us.length (by omega) i hi]
    rw [s]
    show _ + -(_) / us.getD 0 0 * us.getD 0 0 = (0 : Rat)
    have u0' : us.getD 0 0 ≠ 0 := u0
    rw [Rat.div_mul_cancel u0']
    grind
/-! ### what stands of them -/
theorem mul_ser (us ws : List Rat) : EqTo us.length (ser (mulL us ws)) (mulS (ser us) (ser ws)) := by
  rw [mulL_ser]
  exact ser_toL
theorem mulL_len' (us ws : List Rat) : (mulL us ws).length = us.length := by unfold mulL; rw [List.length_map, List.length_range]
theorem mul_zero0 {us ws : List Rat} (l : 1 ≤ us.length) : ser (mulL us ws) 0 = ser us 0 * ser ws 0 := by
  rw [mul_ser us ws 0 (by omega)]
  show (0 : Rat) + ser us 0 * ser ws 0 = _
  rw [Rat.zero_add]
/-- the slopes of the log are told by their product -/
theorem ls_uni {us : List Rat} {S : Ser} (u0 : ser us 0 = 1) (h : EqTo (us.length - 1) (mulS S (ser us)) (dS (ser us))) : EqTo (us.length - 1) (ser (lsL us)) S :=
  div_uni (U := ser us) (by rw [u0]; decide) ((ls_eq u0).trans h.symm)
theorem ls_mul {us ws : List Rat} (l : us.length = ws.length) (l1 : 1 ≤ us.length) (u0 : ser us 0 = 1) (w0 : ser ws 0 = 1) : EqTo (us.length - 1) (ser (lsL (mulL us ws))) (addS (ser (lsL us)) (ser (lsL ws))) := by
  have m0 : ser (mulL us ws) 0 = 1 := by rw [mul_zero0 l1, u0, w0, Rat.mul_one]
  have h := ls_uni (us := mulL us ws) (S := addS (ser (lsL us)) (ser (lsL ws))) m0
  rw [mulL_len'] at h
  refine h ?_
  have e1 : EqTo (us.length - 1) (mulS (addS (ser (lsL us)) (ser (lsL ws))) (ser (mulL us ws))) (mulS (addS (ser (lsL us)) (ser (lsL ws))) (mulS (ser us) (ser ws))) := (EqTo.refl _ _).mul ((mul_ser us ws).le (by omega))
  have e2 : EqTo (us.length - 1) (dS (ser (mulL us ws))) (dS (mulS (ser us) (ser ws))) := ((mul_ser us ws).le (m := us.length - 1 + 1) (by omega)).dS
  refine e1.trans (EqTo.trans ?_ e2.symm)
  rw [mulS_add, dS_mul, ← mulS_assoc, mulS_comm (ser us) (ser ws), ← mulS_assoc (ser (lsL ws)), mulS_comm (mulS (ser (lsL ws)) (ser ws)) (ser us)]
  have h2 := ls_eq w0
  rw [← l] at h2
  exact ((ls_eq u0).mul (EqTo.refl _ _)).add ((EqTo.refl _ _).mul h2)
theorem lg_ext {us : List Rat} {ws : List Rat} (l1 : 1 ≤ us.length) (l : ws.length = us.length) (w0 : ser ws 0 = 0) (h : EqTo (us.length - 1) (ser (lsL us)) (dS (ser ws))) : lgL us = ws := by
  refine ext_ser (by rw [lgL_len l1, l]) fun k hk => ?_
  rw [lgL_len l1] at hk
  match k, hk with
  | 0, _ => exact w0.symm
  | k + 1, hk =>
    rw [lg_at (by omega), h k (by omega)]
    show nR (k + 1) * ser ws (k + 1) / nR (k + 1) = _
    rw [Rat.mul_comm, Rat.mul_div_cancel (nR_ne (by omega))]
theorem zip_ser {us ws : List Rat} (l : us.length = ws.length) : EqTo us.length (ser (us.zipWith (· + ·) ws)) (addS (ser us) (ser ws)) := fun i hi => by
  show List.getD _ _ _ = List.getD us i 0 + List.getD ws i 0
  rw [List.getD_eq_getElem?_getD, List.getElem?_zipWith, List.getD_eq_getElem?_getD, List.getD_eq_getElem?_getD, List.getElem?_eq_getElem hi, List.getElem?_eq_getElem (l := ws) (i := i) (by omega)]
  rfl
theorem lg_mul {us ws : List Rat} (l : us.length = ws.length) (l1 : 1 ≤ us.length) (u0 : ser us 0 = 1) (w0 : ser ws 0 = 1) : lgL (mulL us ws) = (lgL us).zipWith (· + ·) (lgL ws) := by
  have e := lgL_len l1
  have e' := lgL_len (us := ws) (by omega)
  have lz : ((lgL us).zipWith (· + ·) (lgL ws)).length = us.length := by rw [List.length_zipWith, e, e', l, Nat.min_self]
  have zs := zip_ser (us := lgL us) (ws := lgL ws) (by rw [e, e', l])
  rw [e] at zs
  refine lg_ext (by rw [mulL_len']; exact l1) (by rw [lz, mulL_len']) ?_ ?_
  · rw [zs 0 (by omega)]
    show (0 : Rat) + 0 = 0
    exact Rat.zero_add 0
  · rw [mulL_len']
    refine (ls_mul l l1 u0 w0).trans (EqTo.trans ?_ (zs.le (m := us.length - 1 + 1) (by omega)).dS.symm)
    intro k hk
    show ser (lsL us) k + ser (lsL ws) k = nR (k + 1) * (ser (lgL us) (k + 1) + ser (lgL ws) (k + 1))
    rw [Rat.mul_add]
    have h1 := lg_dS (us := us) k hk
    have h2 := lg_dS (us := ws) k (by omega)
    exact (congr (congrArg HAdd.hAdd h1) h2).symm
/-- a power is told by its rate -/
theorem pw_uni {us ws : List Rat} {t : Rat} (l1 : 1 ≤ us.length) (l : ws.length = us.length) (w0 : ser ws 0 = 1) (h : EqTo (us.length - 1) (dS (ser ws)) (mulS (scS t (ser (lsL us))) (ser ws))) : pwL us t = ws := by
  refine ext_ser (by rw [pwL_len, l]) ?_
  rw [pwL_len]
  have := ode_uni (by rw [pw_zero t l1, w0]) (pw_ode t) h
  rw [show us.length - 1 + 1 = us.length by omega] at this
  exact this
theorem pw_mul {us ws : List Rat} (t : Rat) (l : us.length = ws.length) (l1 : 1 ≤ us.length) (u0 : ser us 0 = 1) (w0 : ser ws 0 = 1) : pwL (mulL us ws) t = mulL (pwL us t) (pwL ws t) := by
  have lp := pwL_len us t
  refine pw_uni (by rw [mulL_len']; exact l1) (by rw [mulL_len', mulL_len', lp]) (by rw [mul_zero0 (by rw [lp]; exact l1), pw_zero t l1, pw_zero t (by omega), Rat.mul_one]) ?_
  rw [mulL_len']
  have ms := mul_ser (pwL us t) (pwL ws t)
  rw [lp] at ms
  have e1 : EqTo (us.length - 1) (dS (ser (mulL (pwL us t) (pwL ws t)))) (dS (mulS (ser (pwL us t)) (ser (pwL ws t)))) := (ms.le (m := us.length - 1 + 1) (by omega)).dS
  have pwo := pw_ode (us := ws) t
  rw [← l] at pwo
  have e2 : EqTo (us.length - 1) (dS (mulS (ser (pwL us t)) (ser (pwL ws t)))) (addS (mulS (mulS (scS t (ser (lsL us))) (ser (pwL us t))) (ser (pwL ws t))) (mulS (ser (pwL us t)) (mulS (scS t (ser (lsL ws))) (ser (pwL ws t))))) := by
    rw [dS_mul]
    exact ((pw_ode t).mul (EqTo.refl _ _)).add ((EqTo.refl _ _).mul pwo)
  have e3 : EqTo (us.length - 1) (mulS (scS t (ser (lsL (mulL us ws)))) (ser (mulL (pwL us t) (pwL ws t)))) (mulS (scS t (addS (ser (lsL us)) (ser (lsL ws)))) (mulS (ser (pwL us t)) (ser (pwL ws t)))) := ((ls_mul l l1 u0 w0).sc t).mul (ms.le (by omega))
  refine (e1.trans e2).trans (EqTo.trans ?_ e3.symm)
  intro k _
  have f : scS t (addS (ser (lsL us)) (ser (lsL ws))) = addS (scS t (ser (lsL us))) (scS t (ser (lsL ws))) := by
    funext i
    exact Rat.mul_add _ _ _
  rw [f, mulS_add, mulS_assoc, ← mulS_assoc (ser (pwL us t)), mulS_comm (ser (pwL us t)) (scS t (ser (lsL ws))), mulS_assoc (scS t (ser (lsL ws)))]
theorem pw_add {us : List Rat} (s t : Rat) (l1 : 1 ≤ us.length) : pwL us (s + t) = mulL (pwL us s) (pwL us t) := by
  have lp := pwL_len us s
  refine pw_uni l1 (by rw [mulL_len', lp]) (by rw [mul_zero0 (by rw [lp]; exact l1), pw_zero s l1, pw_zero t l1, Rat.mul_one]) ?_
  have ms := mul_ser (pwL us s) (pwL us t)
  rw [lp] at ms
  have e1 : EqTo (us.length - 1) (dS (ser (mulL (pwL us s) (pwL us t)))) (dS (mulS (ser (pwL us s)) (ser (pwL us t)))) := (ms.le (m := us.length - 1 + 1) (by omega)).dS
  have e2 : EqTo (us.length - 1) (dS (mulS (ser (pwL us s)) (ser (pwL us t)))) (addS (mulS (mulS (scS s (ser (lsL us))) (ser (pwL us s))) (ser (pwL us t))) (mulS (ser (pwL us s)) (mulS (scS t (ser (lsL us))) (ser (pwL us t))))) := by
    rw [dS_mul]
    exact ((pw_ode s).mul (EqTo.refl _ _)).add ((EqTo.refl _ _).mul (pw_ode t))
  have e3 : EqTo (us.length - 1) (mulS (scS (s + t) (ser (lsL us))) (ser (mulL (pwL us s) (pwL us t)))) (mulS (scS (s + t) (ser (lsL us))) (mulS (ser (pwL us s)) (ser (pwL us t)))) := (EqTo.refl _ _).mul (ms.le (by omega))
  refine (e1.trans e2).trans (EqTo.trans ?_ e3.symm)
  intro k _
  have f : scS (s + t) (ser (lsL us)) = addS (scS s (ser (lsL us))) (scS t (ser (lsL us))) := by
    funext i
    exact Rat.add_mul _ _ _
  rw [f, mulS_add, mulS_assoc, ← mulS_assoc (ser (pwL us s)), mulS_comm (ser (pwL us s)) (scS t (ser (lsL us))), mulS_assoc (scS t (ser (lsL us)))]
theorem ls_pw {us : List Rat} (s : Rat) (l1 : 1 ≤ us.length) : EqTo (us.length - 1) (ser (lsL (pwL us s))) (scS s (ser (lsL us))) := by
  have h := ls_uni (us := pwL us s) (S := scS s (ser (lsL us))) (pw_zero s l1)
  rw [pwL_len] at h
  exact h (pw_ode s).symm
theorem pw_pw {us : List Rat} (s t : Rat) (l1 : 1 ≤ us.length) : pwL (pwL us s) t = pwL us (s * t) := by
  symm
  refine pw_uni l1 (by rw [pwL_len, pwL_len]) (pw_zero t (by rw [pwL_len]; exact l1)) ?_
  have h := pw_ode (us := pwL us s) t
  rw [pwL_len] at h
  refine h.trans (EqTo.trans (((ls_pw s l1).sc t).mul (EqTo.refl _ _)) ?_)
  have f : scS t (scS s (ser (lsL us))) = scS (s * t) (ser (lsL us)) := by
    funext i
    show t * (s * _) = s * t * _
    grind
  rw [f]
  exact EqTo.refl _ _
theorem map_ser (us : List Rat) (t : Rat) : ser (us.map (· * t)) = scS t (ser us) := by
  funext i
  show List.getD _ _ _ = t * List.getD us i 0
  rw [List.getD_eq_getElem?_getD, List.getElem?_map, List.getD_eq_getElem?_getD]
  cases us[i]? with
  | none => exact (Rat.mul_zero t).symm
  | some q => exact Rat.mul_comm q t
theorem lg_pw {us : List Rat} (t : Rat) (l1 : 1 ≤ us.length) : lgL (pwL us t) = (lgL us).map (· * t) := by
  refine lg_ext (by rw [pwL_len]; exact l1) (by rw [List.length_map, lgL_len l1, pwL_len]) ?_ ?_
  · rw [map_ser]
    show t * 0 = 0
    exact Rat.mul_zero t
  · rw [pwL_len, map_ser]
    refine (ls_pw t l1).trans ?_
    intro k hk
    show t * ser (lsL us) k = nR (k + 1) * (t * ser (lgL us) (k + 1))
    rw [← lg_dS k hk]
    show t * (nR (k + 1) * _) = _
    grind
def stR (n : Nat) : List Rat := 1 :: List.replicate (n - 1) 0
theorem stR_len {n : Nat} (h : 1 ≤ n) : (stR n).length = n := by unfold stR; rw [List.length_cons, List.length_replicate]; omega
theorem stR_ser (n : Nat) : ser (stR n) = oneS := by
  funext i
  match i with
  | 0 => rfl
  | i + 1 =>
    show (List.replicate (n - 1) (0 : Rat)).getD i 0 = 0
    rw [List.getD_eq_getElem?_getD, List.getElem?_replicate]
    split <;> rfl
theorem dS_one : dS oneS = fun _ => 0 := by
  funext k
  show nR (k + 1) * (if k + 1 = 0 then (1 : Rat) else 0) = 0
  rw [if_neg (by omega), Rat.mul_zero]
theorem pw_none {us : List Rat} (l1 : 1 ≤ us.length) : pwL us 0 = stR us.length := by
  refine pw_uni l1 (stR_len l1) rfl ?_
  rw [stR_ser, dS_one, mulS_scl]
  intro k _
  show (0 : Rat) = 0 * _
  rw [Rat.zero_mul]
theorem pw_one {us : List Rat} (l1 : 1 ≤ us.length) (u0 : ser us 0 = 1) : pwL us 1 = us := by
  refine pw_uni l1 rfl u0 ?_
  have f : scS 1 (ser (lsL us)) = ser (lsL us) := by
    funext i
    exact Rat.one_mul _
  rw [f]
  exact (ls_eq u0).symm
theorem pw_rc {us : List Rat} (l1 : 1 ≤ us.length) (u0 : ser us 0 = 1) : pwL us (-1) = rcL us := by
  have u1 : ser us 0 ≠ 0 := by rw [u0]; decide
  have r0 : ser (rcL us) 0 = 1 := by
    have := rc_eq u1 0 (by omega)
    have e : (0 : Rat) + ser (rcL us) 0 * ser us 0 = 1 := this
    rw [Rat.zero_add, u0, Rat.mul_one] at e
    exact e
  refine pw_uni l1 (rcL_len us) r0 ?_
  refine div_uni (U := ser us) u1 ?_
  have h1 : EqTo (us.length - 1) (dS (mulS (ser (rcL us)) (ser us))) (dS oneS) := ((rc_eq u1).le (m := us.length - 1 + 1) (by omega)).dS
  rw [dS_one, dS_mul] at h1
  intro k hk
  have e1 := h1 k hk
  have e2 : mulS (dS (ser (rcL us))) (ser us) k + mulS (ser (rcL us)) (dS (ser us)) k = 0 := e1
  have e3 : mulS (ser (rcL us)) (dS (ser us)) k = mulS (ser (rcL us)) (mulS (ser (lsL us)) (ser us)) k := ((EqTo.refl _ _).mul (ls_eq u0).symm) k hk
  rw [mulS_scl, mulS_scl]
  show _ = -1 * mulS (mulS (ser (lsL us)) (ser (rcL us))) (ser us) k
  rw [mulS_comm (ser (lsL us)), mulS_assoc, ← e3]
  grind
theorem rc_rc {us : List Rat} (l1 : 1 ≤ us.length) (u0 : ser us 0 ≠ 0) : rcL (rcL us) = us := by
  have r0 : ser (rcL us) 0 ≠ 0 := fun z => by
    have := rc_eq u0 0 (by omega)
    have e : (0 : Rat) + ser (rcL us) 0 * ser us 0 = 1 := this
    rw [z, Rat.zero_mul, Rat.zero_add] at e
    exact absurd e (by decide)
  refine ext_ser (by rw [rcL_len, rcL_len]) ?_
  rw [rcL_len, rcL_len]
  refine div_uni (U := ser (rcL us)) r0 ?_
  have h1 := rc_eq r0
  rw [rcL_len] at h1
  have h2 := rc_eq u0
  rw [mulS_comm] at h2
  exact h1.trans h2.symm
theorem mul_rc {us : List Rat} (l1 : 1 ≤ us.length) (u0 : ser us 0 ≠ 0) : mulL us (rcL us) = stR us.length := by
  refine ext_ser (by rw [mulL_len', stR_len l1]) ?_
  rw [mulL_len', stR_ser]
  have h2 := rc_eq u0
  rw [mulS_comm] at h2
  exact (mul_ser us (rcL us)).trans h2
/-- the slope of a row -/
def slL (us : List Rat) : List Rat := toL (us.length - 1) (dS (ser us))
theorem pw_law {us : List Rat} (t : Rat) (u0 : ser us 0 = 1) (l1 : 1 ≤ us.length) : mulL (us.take (us.length - 1)) (slL (pwL us t)) = (mulL (slL us) ((pwL us t).take (us.length - 1))).map (· * t) := by
  have tk : ∀ ws : List Rat, ws.length = us.length → ws.take (us.length - 1) = toL (us.length - 1) (ser ws) := fun ws h => by
    rw [← toL_take _ (show us.length - 1 ≤ us.length by omega), ← h, toL_ser]
  rw [tk us rfl, tk _ (pwL_len us t)]
  unfold slL
  rw [pwL_len, mulL_toL, mulL_toL]
  unfold toL
  rw [List.map_map]
  refine List.map_congr_left fun k hk => ?_
  have hk' := List.mem_range.mp hk
  show mulS (ser us) (dS (ser (pwL us t))) k = mulS (dS (ser us)) (ser (pwL us t)) k * t
  rw [((EqTo.refl _ (ser us)).mul (pw_ode t)) k hk', ← ((ls_eq u0).mul (EqTo.refl _ (ser (pwL us t)))) k hk', mulS_scl, mulS_scr, ← mulS_assoc, mulS_comm (ser us)]
  exact Rat.mul_comm _ _
theorem lg_law {us : List Rat} (u0 : ser us 0 = 1) (l1 : 1 ≤ us.length) : mulL (us.take (us.length - 1)) (slL (lgL us)) = slL us := by
  have tk : ∀ ws : List Rat, ws.length = us.length → ws.take (us.length - 1) = toL (us.length - 1) (ser ws) := fun ws h => by
    rw [← toL_take _ (show us.length - 1 ≤ us.length by omega), ← h, toL_ser]
  rw [tk us rfl]
  unfold slL
  rw [lgL_len l1, mulL_toL]
  refine toL_eq ?_
  rw [mulS_comm]
  exact (lg_dS.mul (EqTo.refl _ _)).trans (ls_eq u0)
end Kx
end
section
set_option maxHeartbeats 4000000
namespace PySem
namespace Xv
open PySem.W PySem.Calls PyProof.Rows PySem.HandSPX
section
variable {prog : Program} {w : World} {A : Around} {E : Value → Shared → Prop} {R : Result → Shared → Prop} {h : Heap} {g : Array GenState} {d : Drawn} {t : Nat} {os : OsState}
variable {nm q : Str} {C N : Addr} {bs bm mb : List Value} {hdct : Bool} {sn : List Str} {sub : List Value} {ab : Bool} {col : Option Bool} {dd : Option Addr} {k0 k1 k2 k3 k5 : Option Value} {B newId initId : String}
variable {kw : List (Str × Value)} {rest : List Value}

theorem chkNew {M : Model} (F : ExcBaseFacts B newId initId mb) (hT : ∀ Z : String, bm.contains (.type Z) = mb.contains (.type Z)) {Q : Unit → Shared → Prop}
    (hC : h.get? C = some (excClassObj nm q C N bs bm hdct sn sub ab col dd k0 k1 k2 k3 k5 newId)) (z : Q () ⟨h, g, d, t, os⟩) :
    wpAny M A (checkBuiltinCall newId ⟨.ref C :: rest, kw⟩) Q E ⟨h, g, d, t, os⟩ := by
  have h1 : (Value.ref C :: bm).contains (.type B) = true := by rw [List.contains_cons, hT, F.hasB]; simp
  have h2 := F.noStar
  simp only [checkBuiltinCall, F.newKind, F.newSplit, F.newRow]
  repeat (first | refine wpAny_loadPart_at hC ?_ | (refine wpAny_isSubtype_exc hC ?_; rw [h1]) | refine wpAny_staticBase_exc hC ?_ | refine wpAny_madeBy_exc hC ?_ | simp only [bne_self_eq_false, Bool.false_eq_true, if_false] | wp_step)
  exact z
theorem newAt (F : ExcBaseFacts B newId initId mb) (hT : ∀ Z : String, bm.contains (.type Z) = mb.contains (.type Z))
    (hC : h.get? C = some (excClassObj nm q C N bs bm hdct sn sub ab col dd k0 k1 k2 k3 k5 newId)) (hl : rest.length ≤ sizeLine)
    (z : R (.ok (.ret (.ref (h.objs.size + 1)))) ⟨(h.push (W.kdv_tup rest)).push (excO C h.objs.size), g, d, t, os⟩) :
    codeAny (model prog w) A (.builtin newId ⟨.ref C :: rest, kw⟩) R ⟨h, g, d, t, os⟩ := by
  have e0 := F.ends
  have e1 : (Value.ref C :: bm).contains (.type B) = true := by rw [List.contains_cons, hT, F.hasB]; simp
  have e2 : (Value.ref C :: bm).contains (.type "AttributeError") = false := by rw [List.contains_cons, hT, F.noAttr]; exact rfl
  have e3 : (Value.ref C :: bm).contains (.type "NameError") = false := by rw [List.contains_cons, hT, F.noName]; exact rfl
  refine codeAny_builtinAt F.entry ?_
  unfold Builtin.«BaseException.__new__»
  refine wpAt_bind ?_
  show wpAt _ _ _ (stack >>= _) _ _ _
  refine wpAt_bind (wpAt_stack fun p below => wpAt_of_wpAny ?_)
  wp_walk
  refine wpAt_of_wpAny ?_
  rw [F.owner]
  repeat (first | (with_reducible refine wpAny_isSubtype_exc hC ?_; first | rw [e1] | rw [e2] | rw [e3]) | with_reducible refine wpAny_madeHere_exc F.canon hC ?_ | with_reducible refine wpAny_loadPart_at hC ?_ | wp_step)
  show R _ _
  rw [Heap.size_push]
  exact z
theorem callAt (F : ExcBaseFacts B newId initId mb) (hT : ∀ Z : String, bm.contains (.type Z) = mb.contains (.type Z)) {fI : Addr} {Q : Fin → Shared → Prop}
    (hC : h.get? C = some (excClassObj nm q C N bs bm hdct sn sub ab col dd k0 k1 k2 k3 k5 newId))
    (hi : W.Looks (model prog w) h (typeLookup (.ref C) "__init__") (some (.ref fI))) (hb : ∀ self, W.Looks (model prog w) h (bindSpecial (.ref fI) self) (.ref fI, [self])) (hl : rest.length ≤ sizeLine)
    (z : codeAny (model prog w) A (.call (.ref fI) ⟨.ref (h.objs.size + 1) :: rest, kw⟩)
      (fun r s' => match r with | .ok (.ret v) => v = .none ∧ Q (.done (.ret (.ref (h.objs.size + 1)))) s' | .ok _ => False | .error e => E e s')
      ⟨(h.push (W.kdv_tup rest)).push (excO C h.objs.size), g, d, t, os⟩) :
    wpAny (model prog w) A (Builtin.«type.__call__» ⟨.ref C :: rest, kw⟩) Q E ⟨h, g, d, t, os⟩ := by
  repeat (first | with_reducible refine wpAny_madeBy_exc hC ?_ | with_reducible refine wpAny_loadPart_at hC ?_ | wp_step)
  refine codeAny_call_builtin_code (Code.quiet_builtin _ F.quiet) (chkNew F hT hC (newAt F hT hC hl ?_))
  show wpAny _ _ _ _ _ _
  have k : ∀ b o, h.get? b = some o → ((h.push (W.kdv_tup rest)).push (excO C h.objs.size)).get? b = some o := fun b o y => Heap.get?_push_of_some _ (Heap.get?_push_of_some _ y)
  have hC' := k _ _ hC
  have hg : ((h.push (W.kdv_tup rest)).push (excO C h.objs.size)).get? (h.objs.size + 1) = some (excO C h.objs.size) := by heap_get
  have cc : (Value.ref C :: bm).contains (.ref C) = true := by simp
  have i1 := hi.keeps k
  have b1 := (hb (.ref (h.objs.size + 1))).keeps k
  unfold isInstance
  repeat (first | (with_reducible refine wpAny_isSubtype_exc hC' ?_; rw [cc]) | with_reducible refine wpAny_loadPart_at hg ?_ | wp_step)
  show wpAny _ _ (typeLookup (.ref C) _) _ _ _
  refine i1.at (wpAny_holding (wpAny_bind (b1.at ?_)))
  refine wpAny_bind (wpAny_call (codeAny_mono z fun r s' y => ?_))
  rcases r with e | (v | _ | _ | _) <;> first | exact y | exact y.elim | skip
  obtain ⟨rfl, y⟩ := y
  first
    | exact wpAny_pure (wpAny_pure y)
    | (wp_walk; exact y)
theorem chkCall {M : Model} {Q : Unit → Shared → Prop} (hC : h.get? C = some (excClassObj nm q C N bs bm hdct sn sub ab col dd k0 k1 k2 k3 k5 newId))
    (z : Q () ⟨h, g, d, t, os⟩) : wpAny M A (checkBuiltinCall "type.__call__" ⟨.ref C :: rest, kw⟩) Q E ⟨h, g, d, t, os⟩ := by
  have f3 := tc_sub
  have hty : (⟨h, g, d, t, os⟩ : Shared).TypeIs (.ref C) "type" := ⟨_, hC, rfl⟩
  simp only [checkBuiltinCall, tc_kind, tc_split]
  repeat (any_goals (first | assumption | with_reducible refine wpAny_onRaise ?_ | with_reducible refine wpAny_loadPart_at hC ?_ | with_reducible refine wpAny_map ?_ | wp_step))
/-- an own exception class with its own __init__ is called, with keywords or without -/
theorem callK (F : ExcBaseFacts B newId initId mb) (hT : ∀ Z : String, bm.contains (.type Z) = mb.contains (.type Z)) {fI : Addr}
    (hC : h.get? C = some (excClassObj nm q C N bs bm hdct sn sub ab col dd k0 k1 k2 k3 k5 newId))
    (hi : W.Looks (model prog w) h (typeLookup (.ref C) "__init__") (some (.ref fI))) (hb : ∀ self, W.Looks (model prog w) h (bindSpecial (.ref fI) self) (.ref fI, [self])) (hl : rest.length ≤ sizeLine)
    (z : codeAny (model prog w) (A.under (.builtin "type.__call__" ⟨.ref C :: rest, kw⟩)) (.call (.ref fI) ⟨.ref (h.objs.size + 1) :: rest, kw⟩) (W.InitBack (h.objs.size + 1) R)
      ⟨(h.push (W.kdv_tup rest)).push (excO C h.objs.size), g, d, t, os⟩) :
    codeAny (model prog w) A (.call (.ref C) ⟨rest, kw⟩) R ⟨h, g, d, t, os⟩ := by
  have f1 := tc_lookup
  have f2 := tc_bind (.ref C)
  have hty : (⟨h, g, d, t, os⟩ : Shared).TypeIs (.ref C) "type" := ⟨_, hC, rfl⟩
  refine codeAny_of_tree ?_
  show wpAny _ _ (callAny (.ref C) _) _ _ _
  repeat (any_goals (first | assumption | with_reducible refine wpAny_loadPart_at hC ?_ | wp_step))
  refine ⟨rfl, ?_⟩
  refine codeAny_call_builtin_at (Code.quiet_builtin _ (by decide +kernel)) entry_typeCall (chkCall hC (callAt F hT hC hi hb hl ?_))
  refine codeAny_mono z fun r s' y => ?_
  rcases r with e | (v | _ | _ | _) <;> exact y
end
end Xv
end PySem
end
section
set_option maxHeartbeats 4000000
namespace L2
open PySem PySem.Spec PyProof.Rows Builtin.ObjectAttr
/-- what the written part says of an own exception class at C, so that its objects may be made, filled, read and asked -/
structure XC (K : PySem.W.Frag) (C : Addr) : Prop where
  base : ∃ B newId initId mb, ExcBaseFacts B newId initId mb ∧ StoreFacts B mb "object.__setattr__" "object" ∧ PySem.W.excInitIn K C mb newId = true ∧ PySem.W.excOver K C mb = true
  cl : (PySem.W.clsIn K C).isSome = true
  hd : PySem.W.hasDictIn K C = true
  sa : PySem.W.findIn K (.ref C) "__setattr__" = some (some (.builtin "object.__setattr__"))
  ga : PySem.W.findIn K (.ref C) "__getattribute__" = some (some (.builtin "BaseException.__getattribute__"))
  gg : PySem.W.findIn K (.ref C) "__getattr__" = some none
  ex : PySem.W.subIn K (.ref C) (.type "BaseException") = some true
  ha : PySem.W.findIn K (.ref C) "__class__" = some (some (.builtin "object.__class__"))
  hn : PySem.W.specialIn K (.builtin "object.__class__") "__get__" = some (some (.builtin "getset_descriptor.__get__"))
  ht : PySem.W.takesIn K (.builtin "object.__class__") = some true
  hm : PySem.W.mroIn K C (.type "object") = some true
  kC : PySem.W.keepIn K (.ref C) = true
def free3 (H H' : Hp) (a d : Addr) : Prop := ∀ b, b ≠ a → b ≠ d → H' b = H b
section
variable {X : Cx} {pins : List (Addr × Obj)} {σ : St} {H : Hp} {s : Shared} {a C dx : Addr} {f : Str} {y : V} {u : Value} {fs : List (Str × V)} {Q : Unit → Shared → Prop} {E : Value → Shared → Prop} {A : Around}
theorem taker_none {K : PySem.W.Frag} (h : PySem.W.findIn K (.ref C) f = some none) : PySem.W.takerIn K C f = some none := by
  unfold PySem.W.takerIn
  rw [h]
  rfl
theorem xst_new (T : XC X.K C) (I : Inv X pins σ H s) (e : H a = some (exo a C none)) (hno : PySem.W.findIn X.K (.ref C) f = some none) (ry : RelV y u)
    (h : ∀ d s' H', d ≠ a → H d = none → H' a = some (exo a C (some d)) → H' d = some (exd d [(f, y)]) → free3 H H' a d → Inv X pins σ H' s' → Q () s') : wpAny (model X.prog X.w) A (setAttr (.ref a) f u) Q E s := by
  obtain ⟨B, nid, iid, mb, FB, SF, q1, q2⟩ := T.base
  obtain ⟨t1, ho⟩ := exo_at I.hok e
  obtain ⟨cd, hc, hd'⟩ := PySem.W.any_some T.hd
  obtain ⟨hp, g, dr, t, os⟩ := s
  refine PySem.W.set_plain I.kIn (od := none) ⟨ho, rfl, rfl, trivial⟩ T.sa (PySem.W.osa_openX (od := none) SF I.kIn ⟨ho, rfl, rfl, trivial⟩ q2 (taker_none hno) fun b => ?_)
  have na : a ≠ hp.objs.size := Nat.ne_of_lt (Heap.lt_size ho)
  refine wpAny_bind (wpAny_pure (wpAny_bind (PySem.W.instanceDict_exc (c2 := .none) (t := t1) ho (PySem.W.looks_clsIn I.kIn hc) hd' ?_)))
  have hfr : H hp.objs.size = none := I.hok.fresh (Nat.le_refl _)
  have hget : (hp.push (PySem.W.dictOf [] 0)).get? hp.objs.size = some (PySem.W.dictOf [] 0) := Heap.get?_push_size _ rfl
  have en : (hp.push (PySem.W.dictOf [] 0)).Ns1 hp.objs.size (fun _ => none) := Heap.Ns1.of_empty ⟨_, #[], _, hget, rfl, fun e he => absurd he (by simp), fun _ => rfl⟩
  have I1 : Inv X pins σ (upd H hp.objs.size (exd hp.objs.size [])) ⟨hp.push (PySem.W.dictOf [] 0), g, dr, t, os⟩ := I.laid (a := hp.objs.size) (o := exd hp.objs.size []) (h' := hp.push (PySem.W.dictOf [] 0)) (t' := t) (fun b o z => Heap.get?_push_of_some _ z) (Nat.le_refl _) (exd_ok en fun _ => True.intro)
  have hxa : ((hp.push (PySem.W.dictOf [] 0)).update a fun o => { o with dict := some hp.objs.size }).get? a = some ({ cls := .ref C, dict := some hp.objs.size, data := .fields #[.ref t1, .none, .none, .none, .bool false, .none] } : Obj) :=
    Heap.get?_update_self _ (Heap.get?_push_of_some _ ho) rfl
  have I2 : Inv X pins σ (upd (upd H hp.objs.size (exd hp.objs.size [])) a (exo a C (some hp.objs.size))) ⟨(hp.push (PySem.W.dictOf [] 0)).update a fun o => { o with dict := some hp.objs.size }, g, dr, t, os⟩ :=
    I1.write (x := a) (e := a) (o := exo a C (some hp.objs.size)) (t' := t) (h' := (hp.push (PySem.W.dictOf [] 0)).update a fun o => { o with dict := some hp.objs.size }) (by rw [upd_ne na, e]; exact True.intro) (.inl rfl)
      (fun b o hb z => (Heap.get?_update_ne _ _ _ _ hb).trans z) ⟨_, hxa⟩ (exo_ok hxa)
  have ed : (upd (upd H hp.objs.size (exd hp.objs.size [])) a (exo a C (some hp.objs.size))) hp.objs.size = some (exd hp.objs.size []) := by rw [upd_ne (Ne.symm na), upd_same]
  obtain ⟨mA, hns, rel⟩ := exd_at I2.hok ed
  show wpAny _ _ (storeInDict hp.objs.size (.str f _) f u) _ _ _
  refine PySem.OEX.store_in_old hns (within_of rel) (by simp) fun h' tk' hn' hs => ?_
  have I3 := I2.write (x := hp.objs.size) (e := hp.objs.size) (o := exd hp.objs.size [(f, y)]) (t' := tk') (h' := h') (by rw [ed]; exact True.intro) (.inl rfl) (fun b o hb z => (hs.2 b hb).trans z)
    (by obtain ⟨o, _, _, z, _⟩ := hn'; exact ⟨o, z⟩) (exd_ok hn' (relO_put ry rel))
  exact h hp.objs.size _ _ (Ne.symm na) hfr (by rw [upd_ne na, upd_same]) upd_same (fun b h1 h2 => by rw [upd_ne h2, upd_ne h1, upd_ne h2]) I3
theorem xst_old (T : XC X.K C) (I : Inv X pins σ H s) (e : H a = some (exo a C (some dx))) (ed : H dx = some (exd dx fs)) (hl : fs.length ≤ 900) (hno : PySem.W.findIn X.K (.ref C) f = some none) (ry : RelV y u)
    (h : ∀ s', Inv X pins σ (upd H dx (exd dx ((f, y) :: fs))) s' → Q () s') : wpAny (model X.prog X.w) A (setAttr (.ref a) f u) Q E s := by
  obtain ⟨B, nid, iid, mb, FB, SF, q1, q2⟩ := T.base
  obtain ⟨t1, ho⟩ := exo_at I.hok e
  obtain ⟨mA, hns, rel⟩ := exd_at I.hok ed
  have hw := within_of rel
  obtain ⟨cd, hc, hd'⟩ := PySem.W.any_some T.hd
  obtain ⟨hp, g, dr, t, os⟩ := s
  obtain ⟨oD, esD, epD, hoD, hdD, _⟩ := hns.count hw
  refine PySem.W.set_plain I.kIn (od := some oD) ⟨ho, rfl, rfl, hoD⟩ T.sa (PySem.W.osa_openX (od := some oD) SF I.kIn ⟨ho, rfl, rfl, hoD⟩ q2 (taker_none hno) fun b => ?_)
  refine wpAny_bind (wpAny_pure (wpAny_bind (wpAny_bind (wpAny_loadPart ho (wpAny_bind (PySem.W.Looks.at (M := model X.prog X.w) (PySem.W.looks_clsIn I.kIn hc) ?_))))))
  rw [hd']
  refine wpAny_pure (a := some dx) ?_
  show wpAny _ _ (storeInDict dx (.str f _) f u) _ _ _
  refine PySem.OEX.store_in_old hns hw (by rw [List.length_map]; omega) fun h' tk' hn' hs => ?_
  exact h _ (I.write (x := dx) (e := dx) (o := exd dx ((f, y) :: fs)) (t' := tk') (h' := h') (by rw [ed]; exact True.intro) (.inl rfl) (fun b o hb z => (hs.2 b hb).trans z)
    (by obtain ⟨o, _, _, z, _⟩ := hn'; exact ⟨o, z⟩) (exd_ok hn' (relO_put ry rel)))
end
end L2
namespace L2
open PySem PySem.Spec PyProof.Rows Builtin.ObjectAttr
/-- self.f = e, self an exception that is being made -/
def tXst (K : PySem.W.Frag) (f : Str) (to te : TE) : TS := fun D σ H => te σ H fun y H1 => to σ H1 fun x H2 => ∃ a C : Addr, x = .ref a ∧ XC K C ∧ PySem.W.findIn K (.ref C) f = some none ∧
  ((H2 a = some (exo a C none) ∧ ∀ d H3, d ≠ a → H2 d = none → H3 a = some (exo a C (some d)) → H3 d = some (exd d [(f, y)]) → free3 H2 H3 a d → D.nx σ H3) ∨
    ∃ (d : Addr) (fs : List (Str × V)), H2 a = some (exo a C (some d)) ∧ H2 d = some (exd d fs) ∧ fs.length ≤ 900 ∧ D.nx σ (upd H2 d (exd d ((f, y) :: fs))))
section
variable {X : Cx} {o e : Expr} {to te : TE} {f : Str} {p' pos : Pos}
theorem ps_xst (ho : PE X o to) (he : PE X e te) (hs : swapsWith e (some (.Attribute o f p')) pos.line X.env = pure false := by rfl) : PS X (.Assign [.Attribute o f p'] e pos) (tXst X.K f to te) := by
  refine ⟨fun pins s σ H D I h => ?_⟩
  refine plainObj_wpAny_Assign_Attribute (thn (he.run pins s σ H _ I h) fun v s1 hv => ?_) hs
  obtain ⟨y, H1, I1, r1, q1⟩ := hv
  refine thn (ho.run pins s1 σ H1 _ I1 q1) fun u s2 hu => ?_
  obtain ⟨x, H2, I2, r2, a, C, ex, T, hno, q⟩ := hu
  subst ex
  obtain rfl : u = Value.ref a := r2
  rcases q with ⟨ea, q⟩ | ⟨d, fs, ea, ed, hl, q⟩
  · exact xst_new T I2 ea hno r1 fun d s' H' n1 n2 z1 z2 z3 J => ⟨σ, H', J, q d H' n1 n2 z1 z2 z3⟩
  · exact xst_old T I2 ea ed hl hno r1 fun s' J => ⟨σ, _, J, q⟩
end
/-- C(e, .., k = v, ..) as a value; sp is what C's own __init__ promises -/
def tXmk (C : Addr) (n m : Nat) (sp : Sp) (gV : List V → List V → List V) (t tk : TA) : TE := fun σ H Q => t σ H fun vs H1 => tk σ H1 fun zs H2 => vs.length = n ∧ zs.length = m ∧
  ∀ a, H2 a = none → sp (gV (.ref a :: vs) zs) (upd H2 a (exo a C none)) (fun v H3 => v = .non ∧ Q (.ref a) H3) (fun _ _ _ => False)
section
variable {X : Cx} {CX : CXT} {k n : Nat} {C fI : Addr} {fd : FuncData} {ps ks : List Str} {sp : Sp} {x : Str} {p pos : Pos} {e : Expr} {es : List Expr} {kws : List Keyword} {t tk : TA} {g : List Value → List Value → List Value} {gV : List V → List V → List V}
theorem run_xmk {pins : List (Addr × Obj)} {σ : St} {H : Hp} {s : Shared} {Q : VK} {us ws : List Value} {vs zs : List V} (T : XC X.K C) (iC : PySem.W.findIn X.K (.ref C) "__init__" = some (some (.ref fI))) (tI : PySem.W.isFn X.K (.ref fI) = true)
    (F : FnOk X.prog X.w X.K X.mg X.base CX k fI fd ps sp) (hr : Room (k + 1) X.A) (hb : KBn X.K fd ps (n + 1) ks g gV) (hx : Passes CX X (fun _ _ _ => False)) (I : Inv X pins σ H s) (r : Vals vs us) (rz : Vals zs ws) (l1 : vs.length = n) (l2 : zs.length = ks.length) (l3 : n ≤ 1000)
    (h : ∀ a, H a = none → sp (gV (.ref a :: vs) zs) (upd H a (exo a C none)) (fun v H3 => v = .non ∧ Q (.ref a) H3) (fun _ _ _ => False)) :
    wpAny (model X.prog X.w) X.A (call (.ref C) us (ks.zip ws)) (EP X pins σ Q) X.xe s := by
  obtain ⟨B, nid, iid, mb, FB, SF, q1, q2⟩ := T.base
  obtain ⟨nm, N, qn, bs, bm, hdct, sn, sub, ab, col, dd, k0, k1, k2, k3, k5, hC, hT⟩ := PySem.W.excInit_of I.kIn q1
  obtain ⟨oI, hoI, hcI⟩ : ∃ oI, s.heap.get? fI = some oI ∧ oI.cls = .type "function" := by
    obtain ⟨o, ho, hc⟩ := Option.map_eq_some_iff.mp (show (X.K.lookup fI).map (·.cls) = some (.type "function") from beq_iff_eq.mp tI)
    exact ⟨o, I.kIn _ _ ho, hc⟩
  obtain ⟨hp, gn, dr, tc, os⟩ := s
  have hsz : hp.objs.size ≤ hp.objs.size + 1 := Nat.le_succ _
  have hn : H (hp.objs.size + 1) = none := I.hok.fresh hsz
  have hq := h (hp.objs.size + 1) hn
  have kk : ∀ b o, hp.get? b = some o → ((hp.push (PySem.W.kdv_tup us)).push (PySem.HandSPX.excO C hp.objs.size)).get? b = some o := fun b o z => Heap.get?_push_of_some _ (Heap.get?_push_of_some _ z)
  have hget : ((hp.push (PySem.W.kdv_tup us)).push (PySem.HandSPX.excO C hp.objs.size)).get? (hp.objs.size + 1) = some (PySem.HandSPX.excO C hp.objs.size) := by heap_get
  have I2 : Inv X pins σ (upd H (hp.objs.size + 1) (exo (hp.objs.size + 1) C none)) ⟨(hp.push (PySem.W.kdv_tup us)).push (PySem.HandSPX.excO C hp.objs.size), gn, dr, tc, os⟩ :=
    I.laid (t' := tc) (a := hp.objs.size + 1) (o := exo (hp.objs.size + 1) C none) (h' := (hp.push (PySem.W.kdv_tup us)).push (PySem.HandSPX.excO C hp.objs.size)) kk hsz (exo_ok hget)
  have r1 : Vals (V.ref (hp.objs.size + 1) :: vs) (Value.ref (hp.objs.size + 1) :: us) := .cons rfl r
  have e1 : (Value.ref (hp.objs.size + 1) :: us).length = n + 1 := r1.length.symm.trans (congrArg Nat.succ l1)
  have e2 : ws.length = ks.length := rz.length.symm.trans l2
  have hus : us.length ≤ sizeLine := by
    rw [← r.length, sizeLine_eq]
    omega
  refine wpAny_call (PySem.Xv.callK FB hT hC (PySem.W.looks_findIn I.kIn iC) (fun self => PySem.W.exc_bind hoI hcI self) hus
    (codeAny_mono (F.run _ X.stack _ _ ⟨Value.ref (hp.objs.size + 1) :: us, ks.zip ws⟩ (g (Value.ref (hp.objs.size + 1) :: us) ws) _ _ (fun _ _ _ => False) (hr.make C us (ks.zip ws)) (I2.env0.make C us (ks.zip ws)) (hb.to _ (Value.ref (hp.objs.size + 1) :: us) ws I2.kIn e1 e2) (hb.rel r1 rz) hq) fun r s' hq' => ?_))
  cases r with
  | error er => exact hx pins σ _ _ er s' I2 hq'
  | ok fl =>
    cases fl with
    | ret u =>
      obtain ⟨v, H', I3, rv, ev, q3⟩ := I2.after hq'
      subst ev
      exact ⟨rv, V.ref (hp.objs.size + 1), H', I3, rfl, q3⟩
    | next => exact hq'.elim
    | brk => exact hq'.elim
    | cont => exact hq'.elim
/-- positional values (one or more), keywords -/
theorem pe_xmk (T : XC X.K C) (iC : PySem.W.findIn X.K (.ref C) "__init__" = some (some (.ref fI))) (tI : PySem.W.isFn X.K (.ref fI) = true) (F : FnOk X.prog X.w X.K X.mg X.base CX k fI fd ps sp) (hr : Room (k + 1) X.A) (hg : Gl X x) (hm : X.mg x = some (.ref C)) (hb : KBn X.K fd ps (n + 1) ks g gV) (hx : Passes CX X (fun _ _ _ => False)) (l3 : n ≤ 1000)
    (ha : PA X (e :: es) t) (hkw : PK X kws tk) (hall : (backToKw pos (keywordEach kws X.env)).all (·.1.isSome) = true := by rfl) (hks : (backToKw pos (keywordEach kws X.env)).filterMap (·.1) = ks := by rfl)
    (hdb : (x == ("__debug__" : Str)) = false := by decide) (he : starEach (e :: es) X.env = (false, eval e X.env) :: starEach es X.env := by rfl)
    (hpl : ((backTo pos (starEach (e :: es) X.env)).any (·.1) || (backToKw pos (keywordEach kws X.env)).any (·.1.isNone)) = false := by rfl) :
    PE X (.Call (.Name x p) (e :: es) kws pos) (tXmk C n ks.length sp gV t tk) := by
  refine ⟨fun pins s σ H Q I h => wpAny_Call_Name_kw (ld_glob I hg hm ?_ hdb)⟩
  refine PySem.W.callWith_KW (h₀ := X.base) I.ok.mod.kin T.kC hall (thn (ha.run pos pins s σ H _ I h) fun us s1 hu => ?_) hpl he
  obtain ⟨vs, H1, I1, r, q⟩ := hu
  refine thn (hkw.run pos pins s1 σ H1 _ I1 q) fun ws s2 hw => ?_
  obtain ⟨zs, H2, I2, rz, l1, l2, q2⟩ := hw
  refine ⟨I2.kIn, ?_⟩
  rw [hks]
  exact run_xmk T iC tI F hr hb hx I2 r rz l1 l2 l3 q2
/-- keywords alone -/
theorem pe_xmkK (T : XC X.K C) (iC : PySem.W.findIn X.K (.ref C) "__init__" = some (some (.ref fI))) (tI : PySem.W.isFn X.K (.ref fI) = true) (F : FnOk X.prog X.w X.K X.mg X.base CX k fI fd ps sp) (hr : Room (k + 1) X.A) (hg : Gl X x) (hm : X.mg x = some (.ref C)) (hb : KBn X.K fd ps 1 ks g gV) (hx : Passes CX X (fun _ _ _ => False))
    (hkw : PK X kws tk) (hall : (backToKw pos (keywordEach kws X.env)).all (·.1.isSome) = true := by rfl) (hks : (backToKw pos (keywordEach kws X.env)).filterMap (·.1) = ks := by rfl)
    (hdb : (x == ("__debug__" : Str)) = false := by decide) (hpl : ((backTo pos (starEach [] X.env)).any (·.1) || (backToKw pos (keywordEach kws X.env)).any (·.1.isNone)) = false := by rfl) :
    PE X (.Call (.Name x p) [] kws pos) (tXmk C 0 ks.length sp gV tNil tk) := by
  refine ⟨fun pins s σ H Q I h => wpAny_Call_Name_kw (ld_glob I hg hm ?_ hdb)⟩
  refine PySem.W.callWith_KW0 (h₀ := X.base) I.ok.mod.kin T.kC hall ?_ hpl
  refine thn (hkw.run pos pins s σ H _ I h) fun ws s2 hw => ?_
  obtain ⟨zs, H2, I2, rz, l1, l2, q2⟩ := hw
  refine ⟨I2.kIn, ?_⟩
  rw [hks]
  exact run_xmk (us := []) T iC tI F hr hb hx I2 .nil rz rfl l2 (by decide) q2
/-- one value or more, no keyword -/
theorem pe_xmkP (T : XC X.K C) (iC : PySem.W.findIn X.K (.ref C) "__init__" = some (some (.ref fI))) (tI : PySem.W.isFn X.K (.ref fI) = true) (F : FnOk X.prog X.w X.K X.mg X.base CX k fI fd ps sp) (hr : Room (k + 1) X.A) (hg : Gl X x) (hm : X.mg x = some (.ref C)) (hb : KBn X.K fd ps (n + 1) [] g gV) (hx : Passes CX X (fun _ _ _ => False)) (l3 : n ≤ 1000)
    (ha : PA X (e :: es) t) (hdb : (x == ("__debug__" : Str)) = false := by decide) (he : starEach (e :: es) X.env = (false, eval e X.env) :: starEach es X.env := by rfl) (hpl : (backTo pos (starEach es X.env)).any (·.1) = false := by rfl) :
    PE X (.Call (.Name x p) (e :: es) [] pos) (tXmk C n 0 sp gV t tNil) := by
  refine ⟨fun pins s σ H Q I h => wpAny_Call_Name_kw (ld_glob I hg hm ?_ hdb)⟩
  refine PySem.W.callWith_K (h₀ := X.base) I.ok.mod.kin T.kC (thn (ha.run pos pins s σ H _ I h) fun us s1 hu => ?_) he hpl
  obtain ⟨vs, H1, I1, r, l1, l2, q2⟩ := hu
  exact ⟨I1.kIn, run_xmk (ws := []) (zs := []) T iC tI F hr hb hx I1 r .nil l1 rfl l3 q2⟩
/-- no value -/
theorem pe_xmk0 (T : XC X.K C) (iC : PySem.W.findIn X.K (.ref C) "__init__" = some (some (.ref fI))) (tI : PySem.W.isFn X.K (.ref fI) = true) (F : FnOk X.prog X.w X.K X.mg X.base CX k fI fd ps sp) (hr : Room (k + 1) X.A) (hg : Gl X x) (hm : X.mg x = some (.ref C)) (hb : KBn X.K fd ps 1 [] g gV) (hx : Passes CX X (fun _ _ _ => False))
    (hdb : (x == ("__debug__" : Str)) = false := by decide) : PE X (.Call (.Name x p) [] [] pos) (tXmk C 0 0 sp gV tNil tNil) := by
  refine ⟨fun pins s σ H Q I h => wpAny_Call_Name_kw (ld_glob I hg hm ?_ hdb)⟩
  obtain ⟨_, _, q2⟩ := h
  exact PySem.W.callWith_K0 I.kIn T.kC (run_xmk (us := []) (ws := []) (zs := []) T iC tI F hr hb hx I .nil .nil rfl rfl (by decide) q2)
end
/-- e.f, e such an exception -/
def tXat (K : PySem.W.Frag) (f : Str) (te : TE) : TE := fun σ H Q => te σ H fun x H1 => ∃ (a C d : Addr) (fs : List (Str × V)) (v : V), x = .ref a ∧ XC K C ∧ PySem.W.findIn K (.ref C) f = some none ∧ H1 a = some (exo a C (some d)) ∧ H1 d = some (exd d fs) ∧ fs.lookup f = some v ∧ Q v H1
theorem inst_exo {X : Cx} {pins : List (Addr × Obj)} {σ : St} {H : Hp} {s : Shared} {a C d : Addr} {fs : List (Str × V)} (I : Inv X pins σ H s) (ea : H a = some (exo a C (some d))) (ed : H d = some (exd d fs)) :
    ∃ (ox od : Obj) (mA : Str → Option Value), PySem.W.InstAt s.heap a ox C (some od) ∧ (∀ f, RelO (fs.lookup f) (mA f)) ∧ ∀ f, PySem.W.lookIn f od = some (mA f) := by
  obtain ⟨t1, ho⟩ := exo_at I.hok ea
  obtain ⟨mA, hns, hr⟩ := exd_at I.hok ed
  obtain ⟨od, hod, hl⟩ := lookIn_ns hns
  exact ⟨_, od, mA, ⟨ho, rfl, rfl, hod⟩, hr, hl⟩
theorem pe_xat {X : Cx} {e : Expr} {te : TE} {pos : Pos} {f : Str} (he : PE X e te) (hb : attributeBase e f X.env (eval e X.env) = eval e X.env := by rfl) : PE X (.Attribute e f pos) (tXat X.K f te) := by
  refine ⟨fun pins s σ H Q I h => attr_of hb (thn (he.run pins s σ H _ I h) fun u s1 hh => ?_)⟩
  obtain ⟨x, H1, I1, rx, a, C, d, fs, v, ex, T, hno, ea, ed, l, q⟩ := hh
  subst ex
  obtain rfl : u = Value.ref a := rx
  obtain ⟨ox, od, mA, J, hr, hl⟩ := inst_exo I1 ea ed
  obtain ⟨u, hu, ru⟩ := RelO.some_of (v := v) (o := mA f) (by rw [← l]; exact hr f)
  exact HandSPX.exc_get I1.kIn J T.ga T.gg T.ex (PySem.W.findObj_own T.hd hno rfl (by rw [hl, hu])) (handed_of ru) ⟨v, H1, I1.tok _, ru, q⟩
/-- isinstance(e, c), e such an exception -/
def rXis (K : PySem.W.Frag) : List V → Hp → VK → Prop := fun xs H Q => ∃ (a C d : Addr) (fs : List (Str × V)) (c : V) (cv : Value) (b : Bool), xs = [.ref a, c] ∧ XC K C ∧ H a = some (exo a C (some d)) ∧ H d = some (exd d fs) ∧ ClsV c cv ∧ PySem.W.kitOne K (.ref C) cv = some b ∧ Q (.bl b) H
theorem call_xis {X : Cx} : CallR X (.builtin "isinstance") (rXis X.K) := by
  intro pins s σ H xs us Q I r h
  obtain ⟨a, C, d, fs, c, cv, b, rfl, T, ea, ed, hc, e, q⟩ := h
  obtain ⟨u1, u2, rfl, r1, r2⟩ := vals2 r
  obtain rfl := hc.eq r2
  obtain rfl : u1 = Value.ref a := r1
  obtain ⟨ox, od, mA, J, _, _⟩ := inst_exo I ea ed
  exact PySem.W.kia_one (PySem.W.kitx_exc T.cl T.ga T.gg T.ex T.ha T.hn T.ht T.hm) I.kIn J e (fun z => nomatch z) fun tk => ⟨.bl b, H, I.tok tk, rfl, q⟩
end L2
end
section
set_option maxHeartbeats 4000000
namespace L2
open PySem PySem.Spec PyProof.Rows Builtin.ObjectAttr
section
variable {X : Cx} {CX : CXT} {k : Nat} {C fI : Addr} {fd : FuncData} {ps : List Str} {sp : Sp} {x : Str} {p pos : Pos} {e : Expr} {es : List Expr} {ta : TA}
/-- raise C(..), C an own exception class with its own __init__, over any built-in base -/
theorem run_pmk {pins : List (Addr × Obj)} {σ : St} {H1 : Hp} {s1 : Shared} {Q : XK} {us : List Value} {vs : List V} (T : XC X.K C) (tyC : PySem.W.typeIn X.K (.ref C) = some (.type "type")) (iC : PySem.W.findIn X.K (.ref C) "__init__" = some (some (.ref fI))) (tI : PySem.W.isFn X.K (.ref fI) = true)
    (F1 : FnOk X.prog X.w X.K X.mg X.base CX k fI fd ps sp) (hr : Room (k + 1) X.A) (hb : Binds X.K fd ps []) (hx : Passes CX X (fun _ _ _ => False)) (I1 : Inv X pins σ H1 s1) (r1 : Vals vs us) (hz : vs.length ≤ 1000)
    (q1 : ∀ a, H1 a = none → sp (.ref a :: vs) (upd H1 a (exo a C none)) (fun v H2 => v = .non ∧ ∃ (d : Addr) (fs : List (Str × V)), H2 a = some (exo a C (some d)) ∧ H2 d = some (exd d fs) ∧ H1 d = none ∧ Q (.ref C) (some d) (upd (del H2 a) d (.xd fs))) (fun _ _ _ => False)) :
    wpAny (model X.prog X.w) X.A (call (.ref C) us []) (MkP X pins σ Q) X.xe s1 := by
  obtain ⟨B, nid, iid, mb, FB, SF, qa, qb⟩ := T.base
  obtain ⟨nm, N, qn, bs, bm, hdct, sn, sub, ab, col, dd, k0, k1, k2, k3, k5, hC, hT⟩ := PySem.W.excInit_of I1.kIn qa
  obtain ⟨oI, hoI, hcI⟩ : ∃ oI, s1.heap.get? fI = some oI ∧ oI.cls = .type "function" := by
    obtain ⟨o, ho, hc⟩ := Option.map_eq_some_iff.mp (show (X.K.lookup fI).map (·.cls) = some (.type "function") from beq_iff_eq.mp tI)
    exact ⟨o, I1.kIn _ _ ho, hc⟩
  obtain ⟨hp, g, dr, tk, os⟩ := s1
  have hsz : hp.objs.size ≤ hp.objs.size + 1 := Nat.le_succ _
  have hn : H1 (hp.objs.size + 1) = none := I1.hok.fresh hsz
  have hq := q1 (hp.objs.size + 1) hn
  have kk : ∀ b o, hp.get? b = some o → ((hp.push (PySem.W.kdv_tup us)).push (PySem.HandSPX.excO C hp.objs.size)).get? b = some o := fun b o z => Heap.get?_push_of_some _ (Heap.get?_push_of_some _ z)
  have hget : ((hp.push (PySem.W.kdv_tup us)).push (PySem.HandSPX.excO C hp.objs.size)).get? (hp.objs.size + 1) = some (PySem.HandSPX.excO C hp.objs.size) := by heap_get
  have I2 : Inv X pins σ (upd H1 (hp.objs.size + 1) (exo (hp.objs.size + 1) C none)) ⟨(hp.push (PySem.W.kdv_tup us)).push (PySem.HandSPX.excO C hp.objs.size), g, dr, tk, os⟩ :=
    I1.laid (t' := tk) (a := hp.objs.size + 1) (o := exo (hp.objs.size + 1) C none) (h' := (hp.push (PySem.W.kdv_tup us)).push (PySem.HandSPX.excO C hp.objs.size)) kk hsz (exo_ok hget)
  have r2 : Vals (V.ref (hp.objs.size + 1) :: vs) (Value.ref (hp.objs.size + 1) :: us) := .cons rfl r1
  have hl : (Value.ref (hp.objs.size + 1) :: us).length = ps.length := by
    have z := r2.length
    rw [F1.len _ _ _ _ hq] at z
    exact z.symm
  have hus : us.length ≤ sizeLine := by
    rw [← Paired.length r1, sizeLine_eq]
    omega
  have hb2 := hb ⟨(hp.push (PySem.W.kdv_tup us)).push (PySem.HandSPX.excO C hp.objs.size), g, dr, tk, os⟩ (Value.ref (hp.objs.size + 1) :: us) I2.kIn (by rw [List.append_nil]; exact hl)
  rw [List.append_nil] at hb2
  refine wpAny_call (PySem.Xv.callK (kw := []) FB hT hC (PySem.W.looks_findIn I1.kIn iC) (fun self => PySem.W.exc_bind hoI hcI self) hus
    (codeAny_mono (F1.run _ X.stack _ _ ⟨Value.ref (hp.objs.size + 1) :: us, []⟩ (Value.ref (hp.objs.size + 1) :: us) _ _ (fun _ _ _ => False) (hr.make C us []) (I2.env0.make C us []) hb2 r2 hq) fun r s' hq' => ?_))
  cases r with
  | error er => exact hx pins σ _ _ er s' I2 hq'
  | ok fl =>
    cases fl with
    | ret u =>
      obtain ⟨v, H2, os2, bare2, un2, hok2, rv, ev, d, fs, ea, ed, hd1, q2⟩ := hq'
      subst ev
      obtain ⟨h2, g2, d2, t2, os'⟩ := s'
      exact ⟨rv, mk_end (raises_own T.ex tyC) I1 hsz kk un2 hok2 os2 bare2 ea ed hd1 q2⟩
    | next => exact False.elim hq'
    | brk => exact False.elim hq'
    | cont => exact False.elim hq'
theorem pmk_xo (T : XC X.K C) (tyC : PySem.W.typeIn X.K (.ref C) = some (.type "type")) (iC : PySem.W.findIn X.K (.ref C) "__init__" = some (some (.ref fI))) (tI : PySem.W.isFn X.K (.ref fI) = true)
    (F1 : FnOk X.prog X.w X.K X.mg X.base CX k fI fd ps sp) (hr : Room (k + 1) X.A) (hb : Binds X.K fd ps []) (hx : Passes CX X (fun _ _ _ => False)) (hg : Gl X x) (hm : X.mg x = some (.ref C)) (ha : PA X (e :: es) ta)
    (hdb : (x == ("__debug__" : Str)) = false := by decide) (he : starEach (e :: es) X.env = (false, eval e X.env) :: starEach es X.env := by rfl) (hpl : (backTo pos (starEach es X.env)).any (·.1) = false := by rfl) :
    PMk X (.Call (.Name x p) (e :: es) [] pos) (tMkO C sp [] ta) := by
  intro pins s σ H Q I h
  refine wpAny_Call_Name_kw (ld_glob I hg hm ?_ hdb)
  refine PySem.W.callWith_K (h₀ := X.base) I.ok.mod.kin T.kC (thn (ha.run pos pins s σ H _ I h) fun us s1 ⟨vs, H1, I1, r1, hz, q1⟩ => ⟨I1.kIn, ?_⟩) he hpl
  exact run_pmk T tyC iC tI F1 hr hb hx I1 r1 hz (fun a na => by have z := q1 a na; rwa [List.append_nil] at z)
theorem pmk_xo0 (T : XC X.K C) (tyC : PySem.W.typeIn X.K (.ref C) = some (.type "type")) (iC : PySem.W.findIn X.K (.ref C) "__init__" = some (some (.ref fI))) (tI : PySem.W.isFn X.K (.ref fI) = true)
    (F1 : FnOk X.prog X.w X.K X.mg X.base CX k fI fd ps sp) (hr : Room (k + 1) X.A) (hb : Binds X.K fd ps []) (hx : Passes CX X (fun _ _ _ => False)) (hg : Gl X x) (hm : X.mg x = some (.ref C))
    (hdb : (x == ("__debug__" : Str)) = false := by decide) : PMk X (.Call (.Name x p) [] [] pos) (tMkO C sp [] tNil) := by
  intro pins s σ H Q I h
  refine wpAny_Call_Name_kw (ld_glob I hg hm ?_ hdb)
  obtain ⟨_, q1⟩ := h
  exact PySem.W.callWith_K0 I.kIn T.kC (run_pmk (us := []) (vs := []) T tyC iC tI F1 hr hb hx I .nil (by decide) q1)
end
end L2
end
section
set_option maxHeartbeats 4000000
namespace Kx
open PySem PySem.Spec PyProof.Rows L2
/-! ### the errors -/
/-- what an own __init__ of n parameters leaves: fs of the values -/
def spIn (C : Addr) (n : Nat) (fs : List V → List (Str × V)) : Sp := fun vs H Q _ => ∃ (a : Addr) (ws : List V), vs = .ref a :: ws ∧ ws.length = n ∧ H a = some (exo a C none) ∧
  ∀ e H', e ≠ a → H e = none → H' a = some (exo a C (some e)) → H' e = some (exd e (fs ws)) → free3 H H' a e → Q .non H'
/-- one value -/
def fs1 (nm at_ : Str) (ws : List V) : List (Str × V) := match ws with
  | [v] => [(at_, v), ("code", .str nm)]
  | _ => []
/-- two values -/
def fs2 (nm at1 at2 : Str) (ws : List V) : List (Str × V) := match ws with
  | [v, u] => [(at2, u), (at1, v), ("code", .str nm)]
  | _ => []
/-- what stands of such a class: it may be made, its __init__ keeps its promise -/
structure ErrC (P : Program) (w : World) (K : PySem.W.Frag) (mg : Str → Option Value) (base : Heap) (nm : Str) (n : Nat) (fs : List V → List (Str × V)) (C : Addr) : Prop where
  T : XC K C
  ty : PySem.W.typeIn K (.ref C) = some (.type "type")
  m : mg nm = some (.ref C)
  i : ∃ (fI : Addr) (fd : FuncData) (ps : List Str), PySem.W.findIn K (.ref C) "__init__" = some (some (.ref fI)) ∧ PySem.W.isFn K (.ref fI) = true ∧ FnOk P w K mg base CX0 1 fI fd ps (spIn C n fs) ∧ Binds K fd ps []
/-- such an error is in the air -/
def Air (H : Hp) (C : Addr) (fs : List (Str × V)) (E : XK) : Prop := ∀ d H', Same H H' → H d = none → H' d = some (.xd fs) → E (.ref C) (some d) H'
theorem Air.same {H H' : Hp} {C : Addr} {fs : List (Str × V)} {E : XK} (h : Air H C fs E) (s : Same H H') : Air H' C fs E := fun d H2 s2 n e => h d H2 (s.trans s2) (s.free n) e
/-- one is made: from the promise of its __init__ -/
theorem air_of {H : Hp} {a C : Addr} {n : Nat} {fs : List V → List (Str × V)} {ws : List V} {E : XK} (hn : H a = none) (l : ws.length = n) (h : Air H C (fs ws) E) :
    spIn C n fs (.ref a :: (ws ++ [])) (upd H a (exo a C none)) (fun v H2 => v = .non ∧ ∃ (d : Addr) (gs : List (Str × V)), H2 a = some (exo a C (some d)) ∧ H2 d = some (exd d gs) ∧ H d = none ∧ E (.ref C) (some d) (upd (del H2 a) d (.xd gs))) (fun _ _ _ => False) := by
  refine ⟨a, ws, by rw [List.append_nil], l, upd_same, fun e H' ne he h1 h2 h3 => ⟨rfl, e, _, h1, h2, ?_, ?_⟩⟩
  · rw [upd_ne ne] at he
    exact he
  · have he' : H e = none := by rw [upd_ne ne] at he; exact he
    refine h e _ (fun b o hb => ?_) he' upd_same
    have b1 : b ≠ a := fun z => by rw [z, hn] at hb; cases hb
    have b2 : b ≠ e := fun z => by rw [z, he'] at hb; cases hb
    rw [upd_ne b2, del_ne b1, h3 b b1 b2, upd_ne b1]
    exact hb
section
variable {P : Program} {w : World} {K : PySem.W.Frag} {mg : Str → Option Value} {base : Heap} {f C : Addr} {fd : FuncData}
theorem scI2 : FnScope ["self", "at"] ["self", "at"] (defScope C_InvalidFraction_init) := ⟨rfl, rfl, rfl, by decide +kernel, rfl, by decide +kernel, by decide +kernel⟩
theorem scI3 : FnScope ["self", "value"] ["self", "value"] (defScope C_InvalidOrder_init) := ⟨rfl, rfl, rfl, by decide +kernel, rfl, by decide +kernel, by decide +kernel⟩
theorem scI5 : FnScope ["self", "one", "other"] ["self", "one", "other"] (defScope C_UnlikeOrders_init) := ⟨rfl, rfl, rfl, by decide +kernel, rfl, by decide +kernel, by decide +kernel⟩
theorem scI6 : FnScope ["self", "value"] ["self", "value"] (defScope C_InvalidPlace_init) := ⟨rfl, rfl, rfl, by decide +kernel, rfl, by decide +kernel, by decide +kernel⟩
theorem init_2 (F : Fun K "__init__" "InvalidFraction.__init__" C_InvalidFraction_init f fd) (T : XC K C) (n0 : PySem.W.findIn K (.ref C) "code" = some none) (n1 : PySem.W.findIn K (.ref C) "at" = some none) : FnOk P w K mg base CX0 1 f fd ["self", "at"] (spIn C 1 (fs1 "InvalidFraction" "at")) := by
  refine F.ok scI2 (fun vs H Q E h => ?_) (fun cdv A outer s H vs Q E hr h => ?_)
  · obtain ⟨a, ws, rfl, l, _⟩ := h
    exact congrArg Nat.succ l
  obtain ⟨a, ws, rfl, l, ha, q⟩ := h
  obtain ⟨v, rfl⟩ : ∃ v, ws = [v] := by match ws, l with | [v], _ => exact ⟨v, rfl⟩
  refine ⟨_, pss_cons (ps_xst (pv 0) pe_str) (pss_one (ps_xst (pv 0) (pv 1))), ?_⟩
  refine ⟨_, rfl, a, _, rfl, T, n0, .inl ⟨ha, fun e H1 ne he h1 h2 h3 => ?_⟩⟩
  refine ⟨_, rfl, _, rfl, a, _, rfl, T, n1, .inr ⟨e, _, h1, h2, (by show 1 ≤ 900; decide), ?_⟩⟩
  exact q e _ ne he (by rw [upd_ne (Ne.symm ne)]; exact h1) (by rw [upd_same]; rfl) (fun b b1 b2 => by rw [upd_ne b2]; exact h3 b b1 b2)
theorem init_3 (F : Fun K "__init__" "InvalidOrder.__init__" C_InvalidOrder_init f fd) (T : XC K C) (n0 : PySem.W.findIn K (.ref C) "code" = some none) (n1 : PySem.W.findIn K (.ref C) "value" = some none) : FnOk P w K mg base CX0 1 f fd ["self", "value"] (spIn C 1 (fs1 "InvalidOrder" "value")) := by
  refine F.ok scI3 (fun vs H Q E h => ?_) (fun cdv A outer s H vs Q E hr h => ?_)
  · obtain ⟨a, ws, rfl, l, _⟩ := h
    exact congrArg Nat.succ l
  obtain ⟨a, ws, rfl, l, ha, q⟩ := h
  obtain ⟨v, rfl⟩ : ∃ v, ws = [v] := by match ws, l with | [v], _ => exact ⟨v, rfl⟩
  refine ⟨_, pss_cons (ps_xst (pv 0) pe_str) (pss_one (ps_xst (pv 0) (pv 1))), ?_⟩
  refine ⟨_, rfl, a, _, rfl, T, n0, .inl ⟨ha, fun e H1 ne he h1 h2 h3 => ?_⟩⟩
  refine ⟨_, rfl, _, rfl, a, _, rfl, T, n1, .inr ⟨e, _, h1, h2, (by show 1 ≤ 900; decide), ?_⟩⟩
  exact q e _ ne he (by rw [upd_ne (Ne.symm ne)]; exact h1) (by rw [upd_same]; rfl) (fun b b1 b2 => by rw [upd_ne b2]; exact h3 b b1 b2)
theorem init_6 (F : Fun K "__init__" "InvalidPlace.__init__" C_InvalidPlace_init f fd) (T : XC K C) (n0 : PySem.W.findIn K (.ref C) "code" = some none) (n1 : PySem.W.findIn K (.ref C) "value" = some none) : FnOk P w K mg base CX0 1 f fd ["self", "value"] (spIn C 1 (fs1 "InvalidPlace" "value")) := by
  refine F.ok scI6 (fun vs H Q E h => ?_) (fun cdv A outer s H vs Q E hr h => ?_)
  · obtain ⟨a, ws, rfl, l, _⟩ := h
    exact congrArg Nat.succ l
  obtain ⟨a, ws, rfl, l, ha, q⟩ := h
  obtain ⟨v, rfl⟩ : ∃ v, ws = [v] := by match ws, l with | [v], _ => exact ⟨v, rfl⟩
  refine ⟨_, pss_cons (ps_xst (pv 0) pe_str) (pss_one (ps_xst (pv 0) (pv 1))), ?_⟩
  refine ⟨_, rfl, a, _, rfl, T, n0, .inl ⟨ha, fun e H1 ne he h1 h2 h3 => ?_⟩⟩
  refine ⟨_, rfl, _, rfl, a, _, rfl, T, n1, .inr ⟨e, _, h1, h2, (by show 1 ≤ 900; decide), ?_⟩⟩
  exact q e _ ne he (by rw [upd_ne (Ne.symm ne)]; exact h1) (by rw [upd_same]; rfl) (fun b b1 b2 => by rw [upd_ne b2]; exact h3 b b1 b2)
theorem init_5 (F : Fun K "__init__" "UnlikeOrders.__init__" C_UnlikeOrders_init f fd) (T : XC K C) (n0 : PySem.W.findIn K (.ref C) "code" = some none) (n1 : PySem.W.findIn K (.ref C) "one" = some none) (n2 : PySem.W.findIn K (.ref C) "other" = some none) : FnOk P w K mg base CX0 1 f fd ["self", "one", "other"] (spIn C 2 (fs2 "UnlikeOrders" "one" "other")) := by
  refine F.ok scI5 (fun vs H Q E h => ?_) (fun cdv A outer s H vs Q E hr h => ?_)
  · obtain ⟨a, ws, rfl, l, _⟩ := h
    exact congrArg Nat.succ l
  obtain ⟨a, ws, rfl, l, ha, q⟩ := h
  obtain ⟨v, u, rfl⟩ : ∃ v u, ws = [v, u] := by match ws, l with | [v, u], _ => exact ⟨v, u, rfl⟩
  refine ⟨_, pss_cons (ps_xst (pv 0) pe_str) (pss_cons (ps_xst (pv 0) (pv 1)) (pss_one (ps_xst (pv 0) (pv 2)))), ?_⟩
  refine ⟨_, rfl, a, _, rfl, T, n0, .inl ⟨ha, fun e H1 ne he h1 h2 h3 => ?_⟩⟩
  refine ⟨_, rfl, _, rfl, a, _, rfl, T, n1, .inr ⟨e, _, h1, h2, (by show 1 ≤ 900; decide), ?_⟩⟩
  refine ⟨_, rfl, _, rfl, a, _, rfl, T, n2, .inr ⟨e, _, (by rw [upd_ne (Ne.symm ne)]; exact h1), upd_same, (by show 2 ≤ 900; decide), ?_⟩⟩
  exact q e _ ne he (by rw [upd_ne (Ne.symm ne), upd_ne (Ne.symm ne)]; exact h1) (by rw [upd_same]; rfl) (fun b b1 b2 => by rw [upd_ne b2, upd_ne b2]; exact h3 b b1 b2)
end
end Kx
end
section
set_option maxHeartbeats 4000000
/-! enumerate over a tuple -/
namespace PySem
open Sem (wp)
open AutoSeq1 (wpAny_loadPart')
theorem meets_enumerate_newT (l : Addr) (items : Array Value) (n : Nat) (dct : Option Addr) (sl : Array (Option Value)) :
    Meets (Builtin.«enumerate.__new__» ⟨[.type "enumerate", .ref l], []⟩) (fun _ R s => s.heap.get? l = some { cls := .type "tuple", dict := dct, data := .seq items n, slots := sl } ∧
      R (.ok (.ret (.ref (s.heap.push { cls := .type "tuple_iterator", data := .fields #[.ref l, .int 0 0] }).objs.size)))
        { s with heap := (s.heap.push { cls := .type "tuple_iterator", data := .fields #[.ref l, .int 0 0] }).push { cls := .type "enumerate", data := .fields #[.none, .bool false, .ref s.heap.objs.size, rawInt 0, .none, .none] } }) :=
  .of_wp fun prog w A R s h => by
    obtain ⟨hp, g, d, tk, os⟩ := s; obtain ⟨hl, h⟩ := h
    have hsub := sub_enumerate
    have hL : Heap.IsTuple (Shared.heap ⟨hp, g, d, tk, os⟩) l items := ⟨_, hl, rfl, n, rfl⟩
    wp_walk using wpAny_loadPart' hl
    refine wpAny_stack_any fun st => wpAny_pure ?_
    split
    · rename_i c _ _ _ _ _
      cases (c == Value.type "enumerate")
      · wp_walk using wpAny_loadPart' hl, wpAny_pyIter_tuple hL
        exact ⟨_, rfl, h⟩
      · wp_walk using wpAny_loadPart' hl, wpAny_pyIter_tuple hL
        exact ⟨_, rfl, h⟩
    · wp_walk using wpAny_loadPart' hl, wpAny_pyIter_tuple hL
      exact ⟨_, rfl, h⟩
section
variable {prog : Program} {w : World} {A : Around} {E : Value → Shared → Prop} {s : Shared}
theorem call_enumerate_tup {l : Addr} {items : Array Value} {Q : Value → Shared → Prop} (hL : s.heap.IsTuple l items)
    (h : ∀ h', IsEnum h' (s.heap.objs.size + 1) s.heap.objs.size 0 .none → h'.IsTupleIter s.heap.objs.size l 0 → h'.objs.size = s.heap.objs.size + 2 →
      (∀ b o, s.heap.get? b = some o → h'.get? b = some o) → Q (.ref (s.heap.objs.size + 1)) { s with heap := h' }) :
    wpAny (model prog w) A (call (.type "enumerate") [.ref l]) Q E s := by
  obtain ⟨⟨c, dct, dt, sl⟩, hl, hc, n, hd⟩ := hL
  replace hc : c = .type "tuple" := hc
  replace hd : dt = .seq items n := hd
  subst hc hd
  refine callType_new F.called_enumerate (by decide) (F.typeCall_enumerate_1 _) (F.newCall_enumerate_1 _) (fun obj => F.args_object_init_2 obj _) F.entry_enumerate_new
    (meets_enumerate_newT l items n dct sl) ⟨hl, ?_⟩
  have hz : (s.heap.push { cls := .type "tuple_iterator", data := .fields #[.ref l, .int 0 0] }).objs.size = s.heap.objs.size + 1 := Heap.size_push ..
  show _ ∧ _
  rw [hz]
  have he : IsEnum ((s.heap.push { cls := .type "tuple_iterator", data := .fields #[.ref l, .int 0 0] }).push
      { cls := .type "enumerate", data := .fields #[.none, .bool false, .ref s.heap.objs.size, rawInt 0, .none, .none] }) (s.heap.objs.size + 1) s.heap.objs.size 0 .none := by
    have := Heap.get?_push_size (s.heap.push { cls := .type "tuple_iterator", data := .fields #[.ref l, .int 0 0] })
      (o := { cls := .type "enumerate", data := .fields #[.none, .bool false, .ref s.heap.objs.size, rawInt 0, .none, .none] }) rfl
    rw [hz] at this; exact this
  refine ⟨⟨_, he, rfl⟩, h _ he ⟨_, Heap.get?_push_of_some _ (Heap.get?_push_size _ rfl), rfl, rfl⟩ (by rw [Heap.size_push, hz]) fun b o x => Heap.get?_push_of_some _ (Heap.get?_push_of_some _ x)⟩
theorem wpAny_pyNext_enum_endT {e it l : Addr} {i : Nat} {items : Array Value} {old : Value} {Q : Option Value → Shared → Prop} (hh : A.handled = none)
    (he : IsEnum s.heap e it i old) (hit : s.heap.IsTupleIter it l i) (hl : s.heap.IsTuple l items) (hx : items[i]? = none)
    (hQ : ∀ h', Heap.ExtBut it s.heap h' → Q none { s with heap := h' }) : wpAny (model prog w) A (pyNext (.ref e)) Q E s := by
  have hT : s.TypeIs (.ref e) "enumerate" := ⟨_, he, rfl⟩
  unfold pyNext
  refine wpAny_bind (wpAny_attempt (wpAny_callSpecial?_slot (name := Str.ofString "__next__") hT F.slot_enumerate_next
    (wpAny_call_entry F.slot_enumerate_next hT F.entry_enumerate_next ?_ (F.args_enumerate_next_1 _))))
  show wpAny _ _ (field (.ref e) 2 >>= _) _ _ _
  refine wpAny_bind (wpAny_field he rfl (x := .ref it) rfl ?_)
  refine wpAny_bind (wpAny_nextOf_tuple_end hh hit hl hx fun h' x he' hx' => ?_)
  obtain ⟨o, ho, hc⟩ := hx'
  refine wpAny_bind (wpAny_isInstance (T := "StopIteration") (b := true) ⟨o, ho, hc⟩ isSubtype_stop ?_)
  exact wpAny_pure (hQ _ he')
end
end PySem
namespace L2
open PySem PySem.Spec PyProof.Rows
/-- the tuple at a as it stands at each turn, each item in a new pair -/
def IteT (K : PySem.W.Frag) (a : Addr) : It :=
  ⟨fun i H => ∃ (xs : List V) (x : V), SqT K H a xs ∧ xs[i]? = some x, fun i H v H' => ∃ T x, v = .ref T ∧ H T = none ∧ H' = upd H T (.tup [.int (i : Nat), x]) ∧ ∀ xs, SqT K H a xs → xs[i]? = some x, fun i H => ∃ xs : List V, SqT K H a xs ∧ xs.length ≤ i⟩
theorem turn_enumT {P : Program} {w : World} {K : PySem.W.Frag} {elts : List Expr} {kk : Nat} {tpos : Pos} (a e it : Addr) (hai : a ≠ it) :
    Turn P w K (.Tuple elts kk tpos) (IteT K a) [e, it] e (fun i h => (∃ old, IsEnum h e it ((i : Nat) : Int) old) ∧ h.IsTupleIter it a i ∧ e ≠ it ∧ e ≠ a) where
  mem := by simp
  obj := fun i h st b hb => by
    obtain ⟨⟨old, he⟩, ⟨o, ho, hc, hd⟩, _⟩ := st
    have e' : b = e ∨ b = it := by simpa using hb
    rcases e' with z | z
    · rw [z]; exact ⟨_, he, fun v q => nomatch q⟩
    · rw [z]; exact ⟨o, ho, fun v q => by rw [hd] at q; cases q⟩
  keep := fun i h h' st k => let ⟨⟨old, he⟩, hi, hne⟩ := st; ⟨⟨old, k e (by simp) _ he⟩, hi.at fun o q => k it (by simp) o q, hne⟩
  item := by
    intro X hP hw hK hc i pins s σ H E I hf st hg
    subst hP hw hK
    obtain ⟨⟨old, he⟩, hit, hne, hna⟩ := st
    obtain ⟨xs, x, hq, hx⟩ := hg
    obtain ⟨its, rv, p, hz⟩ := I.tuple hq
    obtain ⟨u, hu, ru⟩ := rv.get hx
    have hel : e < s.heap.objs.size := Heap.lt_size he
    have hil : it < s.heap.objs.size := by obtain ⟨_, q, _⟩ := hit; exact Heap.lt_size q
    have hsz0 : i < its.toArray.size := by
      have := (List.getElem?_eq_some_iff.mp hu).1
      simpa using this
    refine wpAny_pyNext_enum_itemD (Draws.tuple (prog := X.prog) (w := X.w) (A := X.A.in1) (I.ok.hd hc) it a hai its.toArray) he ⟨hit, p⟩ hsz0 hne (by simp [hne, hna]) fun x' h' tk hx' ho hit' hT hsz hk => ?_
    have ex : x' = u := by
      have h2 : its.toArray[i]? = some u := by simpa using hu
      rw [h2] at hx'
      exact (Option.some.inj hx').symm
    subst ex
    refine ⟨_, rfl, wpAny_letOwnedTupleGo_enum (s := { s with heap := h', toks := tk + 1 }) ho fun h'' he' sb => ?_⟩
    have hT2 : h''.get? s.heap.objs.size = some { cls := .type "tuple", data := .seq #[.int i tk, x'] } := (sb.2 _ (Nat.ne_of_gt hel)).trans hT
    have new : ObjOk X.prog X.w (upd H s.heap.objs.size (.tup [.int (i : Nat), x])) h'' s.heap.objs.size (.tup [.int (i : Nat), x]) :=
      ⟨by show 2 ≤ sizeLine; decide, [.int i tk, x'], .cons ⟨_, rfl⟩ (.cons ru .nil), ⟨_, hT2, rfl, _, rfl⟩⟩
    have I1 : Inv X pins σ (upd H s.heap.objs.size (.tup [.int (i : Nat), x])) { s with heap := h'', toks := tk + 1 } :=
      I.turnedNew (ch := [e, it]) (fun b ob hb q => (sb.2 b (fun z => hb (by simp [z]))).trans (hk b ob (fun z => hb (by simp [z])) (fun z => hb (by simp [z])) q)) hf (Nat.le_refl _) new
    refine ⟨.ref s.heap.objs.size, _, I1, rfl, ⟨_, x, rfl, I.hok.fresh (Nat.le_refl _), rfl, fun ys hy => by rw [I.tuple_inj hy hq]; exact hx⟩, ⟨⟨x', ?_⟩, hit'.1.at fun o q => (sb.2 it (Ne.symm hne)).trans q, hne, hna⟩, fun b hb => ?_⟩
    · have e1 : ((i + 1 : Nat) : Int) = (i : Int) + 1 := by omega
      rw [e1]; exact he'
    · have hb' : b < s.heap.objs.size := by
        have e' : b = e ∨ b = it := by simpa using hb
        rcases e' with z | z
        · rw [z]; exact hel
        · rw [z]; exact hil
      rw [upd_ne (Nat.ne_of_lt hb')]
      exact (hf b hb).1
  done := by
    intro X hP hw hK hc i pins s σ H E I hf st hg
    subst hP hw hK
    obtain ⟨⟨old, he⟩, hit, hne, hna⟩ := st
    obtain ⟨xs, hq, hx⟩ := hg
    obtain ⟨its, rv, p, hz⟩ := I.tuple hq
    obtain ⟨f0, f1, f2, f3, f4, f5⟩ := hf it (by simp)
    have hl := rv.length
    have D := Draws.tuple (prog := X.prog) (w := X.w) (A := X.A.in1) (I.ok.hd hc) it a hai its.toArray
    refine wpAny_pyNext_enum_endT (I.ok.hd hc) he hit p (by simp; omega) fun h' eb => ⟨rfl, I.turned (t' := s.toks) (fun b o hb q => eb b o hb q) f0 f1 f3 f4 f5⟩
  self := fun A i s Q E st h => let ⟨⟨_, he⟩, _⟩ := st; wpAny_pyIter_enum he h
/-- a list or a tuple -/
def iEnumA (K : PySem.W.Frag) (ta : TA) : TI := fun σ H R => ta σ H fun vs H1 => ∃ a xs, vs = [.ref a] ∧ ((SqL K H1 a xs ∧ R (Ite K a) H1) ∨ (SqT K H1 a xs ∧ R (IteT K a) H1))
theorem pi_enumA {X : Cx} {e : Expr} {ta : TA} {p pos tpos : Pos} {elts : List Expr} {kk : Nat} (hg : Gl X "enumerate") (hm : X.mg "enumerate" = none) (ha : PA X [e] ta) (hs : starEach [e] X.env = [(false, eval e X.env)] := by rfl) :
    PI X (.Tuple elts kk tpos) (.Call (.Name "enumerate" p) [e] [] pos) (iEnumA X.K ta) := by
  refine ⟨fun pins s σ H R I h => ?_⟩
  refine Call_ (ld_blt I hg hm boot_enumerate (PyProof.Rows.callWith_type1 (thn (ha.run pos pins s σ H _ I h) fun us s1 ⟨vs, H1, I1, r1, q1⟩ => ?_) hs rfl))
  obtain ⟨a, xs, ex, hq⟩ := q1
  subst ex
  cases r1 with
  | cons r rr =>
    cases rr
    cases r
    rcases hq with ⟨hq, q⟩ | ⟨hq, q⟩
    · obtain ⟨its, rv, p', hz⟩ := I1.list hq
      refine call_enumerate_list p'.isList fun h' he hit hsz hk => wpAny_pyIter_enum he ?_
      have I2 : Inv X pins σ H1 { s1 with heap := h' } := I1.kept (t' := s1.toks) hk
      refine ⟨s1.heap.objs.size + 1, [s1.heap.objs.size + 1, s1.heap.objs.size], _, _, H1, rfl, I2, turn_enum a (s1.heap.objs.size + 1) s1.heap.objs.size, ⟨⟨.none, he⟩, hit, Nat.succ_ne_self _⟩, fun b hb => ?_, q⟩
      have e' : b = s1.heap.objs.size + 1 ∨ b = s1.heap.objs.size := by simpa using hb
      have hle : s1.heap.objs.size ≤ b := by
        rcases e' with z | z
        · rw [z]; exact Nat.le_add_right _ _
        · rw [z]; exact Nat.le_refl _
      exact I1.fpOk hle (I1.hok.fresh hle)
    · obtain ⟨its, rv, p', hz⟩ := I1.tuple hq
      have hal : a < s1.heap.objs.size := by
        obtain ⟨o, ho, _⟩ := p'
        exact Heap.lt_size ho
      refine call_enumerate_tup p' fun h' he hit hsz hk => wpAny_pyIter_enum he ?_
      have I2 : Inv X pins σ H1 { s1 with heap := h' } := I1.kept (t' := s1.toks) hk
      refine ⟨s1.heap.objs.size + 1, [s1.heap.objs.size + 1, s1.heap.objs.size], _, _, H1, rfl, I2, turn_enumT a (s1.heap.objs.size + 1) s1.heap.objs.size (Nat.ne_of_lt hal), ⟨⟨.none, he⟩, hit, Nat.succ_ne_self _, Nat.ne_of_gt (Nat.lt_succ_of_lt hal)⟩, fun b hb => ?_, q⟩
      have e' : b = s1.heap.objs.size + 1 ∨ b = s1.heap.objs.size := by simpa using hb
      have hle : s1.heap.objs.size ≤ b := by
        rcases e' with z | z
        · rw [z]; exact Nat.le_add_right _ _
        · rw [z]; exact Nat.le_refl _
      exact I1.fpOk hle (I1.hok.fresh hle)
theorem walk_enumT {K : PySem.W.Frag} {a : Addr} {xs : List V} : Walk (IteT K a) xs.length (fun H => SqT K H a xs) (YPair (fun i => some (.int (i : Nat))) (fun i => xs[i]?)) := by
  refine ⟨fun i _ hi q => ⟨xs, xs[i], q, by simp [hi]⟩, fun _ q => ⟨xs, q, Nat.le_refl _⟩, fun i H v H' _ q y => ?_⟩
  obtain ⟨T, x, h1, h2, h3, h4⟩ := y
  exact ⟨T, .int (i : Nat), x, h1, h2, h3, rfl, h4 xs q⟩
end L2
end
section
set_option maxHeartbeats 4000000
namespace Kx
open PySem PySem.Spec PyProof.Rows L2 RZ
theorem rel_ty (n : String) : RelV (.ty n) (.type n) := rfl
theorem kb_l : kitB "list" "list" = some true ∧ kitB "list" "tuple" = some false ∧ kitB "tuple" "list" = some false ∧ kitB "tuple" "tuple" = some true := by decide +kernel
theorem kit2 {K : PySem.W.Frag} {s : String} {a b r : Bool} (h1 : kitB s "list" = some a) (h2 : kitB s "tuple" = some b) (hr : r = (a || b)) : PySem.W.kitAny K (.type s) [.type "list", .type "tuple"] = some r := by
  subst hr
  refine kitAny_cons (kit_ty h1) (fun ha => ?_) (fun ha => by rw [ha]; rfl)
  subst ha
  refine kitAny_cons (kit_ty h2) (fun hb => by rw [hb]; exact kitAny_nil) (fun hb => by rw [hb]; rfl)
theorem isi_at {X : Cx} (K : PySem.W.Frag) (h : X.K = K) : CallR X (.builtin "isinstance") (rIsi K) := by
  subst h
  exact call_isi
def WhV (K : PySem.W.Frag) (H : Hp) (v : V) (b : Bool) : Prop := ∀ H', Same H H' → ∃ (T : Value) (x y : Bool), TyX K H' v T ∧ PySem.W.kitOne K T (.type "int") = some x ∧ PySem.W.kitOne K T (.type "bool") = some y ∧ b = (x && !y)
theorem WhV.same {K : PySem.W.Frag} {H H' : Hp} {v : V} {b : Bool} (h : WhV K H v b) (s : Same H H') : WhV K H' v b := fun H2 s2 => h H2 (s.trans s2)
def spWhole (K : PySem.W.Frag) : Sp := fun vs H Q _ => ∃ (v : V) (b : Bool), vs = [v] ∧ WhV K H v b ∧ Q (.bl b) H
theorem kb_int : kitB "int" "int" = some true ∧ kitB "int" "bool" = some false := by decide +kernel
theorem wh_int {K : PySem.W.Frag} {H : Hp} (i : Int) : WhV K H (.int i) true := fun _ _ => ⟨.type "int", true, false, .base (.int i), kit_ty kb_int.1, kit_ty kb_int.2, rfl⟩
/-- is v a fraction: r; v may stand in the module, too -/
def IsG (K : PySem.W.Frag) (H : Hp) (v : V) (r : Bool) : Prop :=
  (∃ T, TyX K H v T ∧ PySem.W.kitOne K T (.type "tuple") = some false ∧ r = false) ∨
  (∃ a xs, v = .ref a ∧ SqT K H a xs ∧ TyX K H (.ref a) (.type "tuple") ∧ xs.length ≠ 2 ∧ r = false) ∨
  (∃ a x y b1 b2, v = .ref a ∧ SqT K H a [x, y] ∧ TyX K H (.ref a) (.type "tuple") ∧ WhV K H x b1 ∧ WhV K H y b2 ∧ (((b1 && b2) = false ∧ r = false) ∨ ∃ u l : Int, b1 = true ∧ b2 = true ∧ x = .int u ∧ y = .int l ∧ r = (decide (1 ≤ l) && decide (Nat.gcd u.natAbs l.natAbs = 1))))
def spIsG (K : PySem.W.Frag) : Sp := fun vs H Q _ => ∃ (v : V) (r : Bool), vs = [v] ∧ IsG K H v r ∧ Q (.bl r) H
theorem Nq.isG {K : PySem.W.Frag} {H : Hp} {v : V} {q : Rat} (h : Nq K H v q) : IsG K H v true := by
  obtain ⟨a, rfl, s, t⟩ := h.sq
  refine .inr (.inr ⟨a, _, _, true, true, rfl, s, t, wh_int _, wh_int _, .inr ⟨_, _, rfl, rfl, rfl, rfl, ?_⟩⟩)
  have h1 : (1 : Int) ≤ ((q.den : Nat) : Int) := by have := q.den_nz; omega
  have h2 : Nat.gcd q.num.natAbs ((q.den : Nat) : Int).natAbs = 1 := q.reduced
  rw [decide_eq_true h1, decide_eq_true h2]
  rfl
/-- is v an int from lo to hi: r -/
def InR (K : PySem.W.Frag) (H : Hp) (v : V) (lo hi : Int) (r : Bool) : Prop := ∃ b, WhV K H v b ∧ ((b = false ∧ r = false) ∨ ∃ i : Int, b = true ∧ v = .int i ∧ r = (decide (lo ≤ i) && decide (i ≤ hi)))
theorem InR.same {K : PySem.W.Frag} {H H' : Hp} {v : V} {lo hi : Int} {r : Bool} (h : InR K H v lo hi r) (s : Same H H') : InR K H' v lo hi r := by
  obtain ⟨b, h1, h2⟩ := h
  exact ⟨b, h1.same s, h2⟩
theorem InR.yes {K : PySem.W.Frag} {H : Hp} {lo hi i : Int} (h1 : lo ≤ i) (h2 : i ≤ hi) : InR K H (.int i) lo hi true := ⟨true, wh_int i, .inr ⟨i, rfl, rfl, by rw [decide_eq_true h1, decide_eq_true h2]; rfl⟩⟩
theorem InR.no {K : PySem.W.Frag} {H : Hp} {lo hi i : Int} (h : i < lo ∨ hi < i) : InR K H (.int i) lo hi false := ⟨true, wh_int i, .inr ⟨i, rfl, rfl, by
  symm
  rw [Bool.and_eq_false_iff, decide_eq_false_iff_not, decide_eq_false_iff_not]
  omega⟩⟩
theorem InR.int {K : PySem.W.Frag} {H : Hp} {lo hi i : Int} : InR K H (.int i) lo hi (decide (lo ≤ i) && decide (i ≤ hi)) := ⟨true, wh_int i, .inr ⟨i, rfl, rfl, rfl⟩⟩
def spBtw (K : PySem.W.Frag) : Sp := fun vs H Q _ => ∃ (v : V) (lo hi : Int) (r : Bool), vs = [v, .int lo, .int hi] ∧ InR K H v lo hi r ∧ Q (.bl r) H
abbrev nIF : List Str := ["value", "upper", "lower"]
/-! ### checks, with what they raise -/
def spCo (K : PySem.W.Frag) (CO : Addr) : Sp := fun vs H Q E => ∃ (v : V) (r : Bool), vs = [v] ∧ InR K H v 2 24 r ∧ (r = true → Q .non H) ∧ (r = false → Air H CO (fs1 "InvalidOrder" "value" [v]) E)
def spCk (K : PySem.W.Frag) (CN : Addr) : Sp := fun vs H Q E => ∃ (v : V) (r : Bool), vs = [v] ∧ IsG K H v r ∧ (r = true → Q .non H) ∧ (r = false → Air H CN (fs1 "InvalidNumber" "value" [v]) E)
def spCp (K : PySem.W.Frag) (CP : Addr) : Sp := fun vs H Q E => ∃ (v : V) (lo hi : Int) (r : Bool), vs = [v, .int lo, .int hi] ∧ InR K H v lo hi r ∧ (r = true → Q .non H) ∧ (r = false → Air H CP (fs1 "InvalidPlace" "value" [v]) E)
def spCc (K : PySem.W.Frag) (CO CL : Addr) : Sp := fun vs H Q E => ∃ (n : Int) (v : V) (r : Bool), vs = [.int n, v] ∧ InR K H v 2 24 r ∧ (r = false → Air H CO (fs1 "InvalidOrder" "value" [v]) E) ∧
  (r = true → ∀ i : Int, v = .int i → (i ≤ n → Q .non H) ∧ (n < i → Air H CL (fs2 "OrderTooLow" "have" "wanted" [.int n, .int i]) E))
/-- x has the attribute f with the value v -/
def At (K : PySem.W.Frag) (H : Hp) (x : V) (f : Str) (v : V) : Prop := ∃ (a C dx : Addr) (fs : List (Str × V)), x = .ref a ∧ H a = some (.ins C dx fs) ∧ Cls K C ∧ NoAttr K C f ∧ fs.lookup f = some v
def spCor (K : PySem.W.Frag) (CU : Addr) : Sp := fun vs H Q E => ∃ (x y : V) (n m : Int), vs = [x, y] ∧ At K H x "order" (.int n) ∧ At K H y "order" (.int m) ∧ (n = m → Q .non H) ∧ (n ≠ m → Air H CU (fs2 "UnlikeOrders" "one" "other" [.int n, .int m]) E)
section
variable {P : Program} {w : World} {K : PySem.W.Frag} {mg : Str → Option Value} {base : Heap} {f fW CO CN CP CL CU : Addr} {fd fdW : FuncData}
theorem scWh : FnScope ["value"] ["value"] (defScope F_is_whole) := ⟨rfl, rfl, rfl, by decide +kernel, rfl, by decide +kernel, by decide +kernel⟩
theorem ok_whole (F : Fun K "is_whole" "is_whole" F_is_whole f fd) (mI : mg "isinstance" = none) (mi : mg "int" = none) (mb : mg "bool" = none) : FnOk P w K mg base CX0 1 f fd ["value"] (spWhole K) := by
  refine F.ok scWh (fun vs H Q E h => ?_) (fun cdv A outer s H vs Q E hr h => ?_)
  · obtain ⟨v, b, rfl, _⟩ := h
    rfl
  obtain ⟨v, b, rfl, hw, q⟩ := h
  obtain ⟨T, x, y, ty, k1, k2, rfl⟩ := hw H (Same.refl H)
  refine ⟨_, pss_one (ps_ret (pe_and (pe_callB call_isi rfl mI (by decide +kernel) (pa_cons (pv 0) (pa_cons (pe_bltn rfl mi boot_int (rel_ty _)) pa_nil))) (pe_one (pe_not (pe_callB call_isi rfl mI (by decide +kernel) (pa_cons (pv 0) (pa_cons (pe_bltn rfl mb boot_bool (rel_ty _)) pa_nil))))))), ?_⟩
  refine ⟨_, rfl, v, _, T, _, x, rfl, .ty _, ty, k1, _, rfl, ?_⟩
  cases x with
  | false => exact iteF q
  | true => exact iteT ⟨_, rfl, v, _, T, _, y, rfl, .ty _, ty, k2, _, rfl, q⟩
theorem scBtw : FnScope ["value", "low", "high"] ["value", "low", "high"] (defScope F_is_between) := ⟨rfl, rfl, rfl, by decide +kernel, rfl, by decide +kernel, by decide +kernel⟩
theorem ok_btw (F : Fun K "is_between" "is_between" F_is_between f fd) (UW : Use P w K mg base CX0 1 "is_whole" ["value"] (spWhole K) []) : FnOk P w K mg base CX0 2 f fd ["value", "low", "high"] (spBtw K) := by
  refine F.ok scBtw (fun vs H Q E h => ?_) (fun cdv A outer s H vs Q E hr h => ?_)
  · obtain ⟨v, lo, hi, b, rfl, _⟩ := h
    rfl
  obtain ⟨v, lo, hi, r, rfl, ⟨b, hw, hh⟩, q⟩ := h
  refine ⟨_, pss_one (ps_ret (pe_and (pe_use UW hr rfl pass0 (pa_cons (pv 0) pa_nil)) (pe_one (pe_chain op_le op_le (pv 1) (pv 0) (pv 2))))), ?_⟩
  refine ⟨_, rfl, v, b, rfl, hw, _, rfl, ?_⟩
  rcases hh with ⟨rfl, rfl⟩ | ⟨i, rfl, rfl, rfl⟩
  · exact iteF q
  · refine iteT ⟨_, rfl, _, rfl, lo, i, rfl, rfl, _, rfl, ?_⟩
    by_cases c : lo ≤ i
    · rw [decide_eq_true c] at q ⊢
      exact iteT ⟨_, rfl, i, hi, rfl, rfl, by rw [Bool.true_and] at q; exact q⟩
    · rw [decide_eq_false c] at q ⊢
      exact iteF q
theorem scIF : FnScope nIF ["value"] (defScope F_is_fraction) := ⟨rfl, rfl, rfl, by decide +kernel, rfl, by decide +kernel, by decide +kernel⟩
theorem ok_isg (F : Fun K "is_fraction" "is_fraction" F_is_fraction f fd) (mI : mg "isinstance" = none) (mt : mg "tuple" = none) (mn : mg "len" = none) (mG : mg "gcd" = some (.builtin "math.gcd"))
    (UW : Use P w K mg base CX0 1 "is_whole" ["value"] (spWhole K) []) : FnOk P w K mg base CX0 2 f fd ["value"] (spIsG K) := by
  refine F.ok scIF (fun vs H Q E h => ?_) (fun cdv A outer s H vs Q E hr h => ?_)
  · obtain ⟨v, r, rfl, _⟩ := h
    rfl
  obtain ⟨v, r, rfl, hf, q⟩ := h
  refine ⟨_, pss_cons (ps_if (PW.pt (pw_or (pt_not (pt_val (pe_callB call_isi rfl mI (by decide +kernel) (pa_cons (pv 0) (pa_cons (pe_bltn rfl mt boot_tuple (rel_ty _)) pa_nil))))) (pw_or1 (pt_cmpR op_ne (pe_callB call_len_seq rfl mn PySem.boot_len (pa_cons (pv 0) pa_nil)) pe_int (nomark _))))) (pss_one (ps_ret pe_bl)) pss_nil)
    (pss_cons (ps_asg (pv 0) (pg_tup rfl (pgs_cons (pg_name (i := 1) scIF.nd rfl (Or.inl rfl)) (pgs_cons (pg_name (i := 2) scIF.nd rfl (Or.inl rfl)) pgs_nil))))
    (pss_cons (ps_if (PW.pt (pw_or (pt_not (pt_val (pe_use UW hr rfl pass0 (pa_cons (pv 1) pa_nil)))) (pw_or1 (pt_not (pt_val (pe_use UW hr rfl pass0 (pa_cons (pv 2) pa_nil))))))) (pss_one (ps_ret pe_bl)) pss_nil)
    (pss_one (ps_ret (pe_and (pe_cmpR op_ge (pv 2) pe_int (nomark _)) (pe_one (pe_cmpR op_eq (pe_callBfun cr_gcd rfl mG (pa_cons (pv 1) (pa_cons (pv 2) pa_nil))) pe_int (nomark _)))))))), ?_⟩
  have tk : PySem.W.kitOne K (.type "tuple") (.type "tuple") = some true := kit_ty kb_l.2.2.2
  rcases hf with ⟨T, ty, k, rfl⟩ | ⟨a, xs, rfl, ha, ht, hl, rfl⟩ | ⟨a, x, y, b1, b2, rfl, ha, ht, hx, hy, hh⟩
  · exact ⟨_, rfl, v, _, T, _, false, rfl, .ty _, ty, k, _, rfl, iteT q⟩
  · refine ⟨_, rfl, _, _, _, _, true, rfl, .ty _, ht, tk, _, rfl, iteF ?_⟩
    refine ⟨_, rfl, a, xs, rfl, .inr (ha), rfl, _, rfl, ?_⟩
    rw [decide_eq_false (fun e => hl (by have := V.int.inj e; omega))]
    exact iteT q
  · refine ⟨_, rfl, _, _, _, _, true, rfl, .ty _, ht, tk, _, rfl, iteF ?_⟩
    refine ⟨_, rfl, a, _, rfl, .inr (ha), rfl, _, rfl, iteF ?_⟩
    refine ⟨_, rfl, a, _, rfl, ha, rfl, _, _, rfl, _, _, rfl, rfl, ?_⟩
    rcases hh with ⟨hb, rfl⟩ | ⟨u, l, rfl, rfl, rfl, rfl, rfl⟩
    · cases b1 with
      | false => exact ⟨_, rfl, x, false, rfl, hx, _, rfl, iteT q⟩
      | true =>
        obtain rfl : b2 = false := hb
        exact ⟨_, rfl, x, true, rfl, hx, _, rfl, iteF ⟨_, rfl, y, false, rfl, hy, _, rfl, iteT q⟩⟩
    · refine ⟨_, rfl, _, true, rfl, wh_int u, _, rfl, iteF ⟨_, rfl, _, true, rfl, wh_int l, _, rfl, iteF ?_⟩⟩
      refine ⟨_, rfl, l, 1, rfl, rfl, _, rfl, ?_⟩
      by_cases c : (1 : Int) ≤ l
      · rw [decide_eq_true c] at q ⊢
        refine iteT ⟨_, rfl, _, rfl, u, l, rfl, rfl, ?_⟩
        have e : (decide (V.int ((Nat.gcd u.natAbs l.natAbs : Nat) : Int) = V.int 1)) = (true && decide (Nat.gcd u.natAbs l.natAbs = 1)) := by
          rw [Bool.true_and]
          exact decide_eq_decide.mpr ⟨fun h => by have := V.int.inj h; omega, fun h => by rw [h]; rfl⟩
        rw [← e] at q
        exact q
      · rw [decide_eq_false c] at q ⊢
        exact iteF q
theorem scCo : FnScope ["order"] ["order"] (defScope F_check_order) := ⟨rfl, rfl, rfl, by decide +kernel, rfl, by decide +kernel, by decide +kernel⟩
theorem ok_corder (G : Fun K "check_order" "check_order" F_check_order f fd) (UB : Use P w K mg base CX0 2 "is_between" ["value", "low", "high"] (spBtw K) [])
    (mL : ∃ u, mg "LOWEST_ORDER" = some u ∧ RelV (.int 2) u) (mH : ∃ u, mg "HIGHEST_ORDER" = some u ∧ RelV (.int 24) u) (Z : ErrC P w K mg base "InvalidOrder" 1 (fs1 "InvalidOrder" "value") CO) : FnOk P w K mg base (L2.CX P w) 3 f fd ["order"] (spCo K CO) := by
  refine G.okX scCo (fun vs H Q E h => ?_) (fun cdv A outer s H vs Q E hr h => ?_)
  · obtain ⟨v, r, rfl, _⟩ := h
    rfl
  obtain ⟨v, r, rfl, hin, h1, h2⟩ := h
  obtain ⟨fI, fdI, ps, i1, i2, i3, i4⟩ := Z.i
  refine ⟨_, pss_one (ps_if (pt_not (pt_val (pe_use UB hr rfl pass0 (pa_cons (pv 0) (pa_cons (C8.pe_gc rfl mL) (pa_cons (C8.pe_gc rfl mH) pa_nil)))))) (pss_one (ps_raise rfl (takes_of rfl rfl rfl rfl) (pmk_xo Z.T Z.ty i1 i2 i3 hr i4 pass0 rfl Z.m (pa_cons (pv 0) pa_nil)))) pss_nil), ?_⟩
  refine ⟨_, rfl, v, 2, 24, r, rfl, hin, _, rfl, ?_⟩
  cases r with
  | true => exact iteF (h1 rfl)
  | false => exact iteT ⟨_, rfl, (by show 1 ≤ 1000; decide), fun a na => air_of (C := CO) (n := 1) (ws := [v]) na rfl (h2 rfl)⟩
theorem scCp : FnScope ["place", "first", "last"] ["place", "first", "last"] (defScope F_check_place) := ⟨rfl, rfl, rfl, by decide +kernel, rfl, by decide +kernel, by decide +kernel⟩
theorem ok_cplace (G : Fun K "check_place" "check_place" F_check_place f fd) (UB : Use P w K mg base CX0 2 "is_between" ["value", "low", "high"] (spBtw K) []) (Z : ErrC P w K mg base "InvalidPlace" 1 (fs1 "InvalidPlace" "value") CP) : FnOk P w K mg base (L2.CX P w) 3 f fd ["place", "first", "last"] (spCp K CP) := by
  refine G.okX scCp (fun vs H Q E h => ?_) (fun cdv A outer s H vs Q E hr h => ?_)
  · obtain ⟨v, lo, hi, r, rfl, _⟩ := h
    rfl
  obtain ⟨v, lo, hi, r, rfl, hin, h1, h2⟩ := h
  obtain ⟨fI, fdI, ps, i1, i2, i3, i4⟩ := Z.i
  refine ⟨_, pss_one (ps_if (pt_not (pt_val (pe_use UB hr rfl pass0 (pa_cons (pv 0) (pa_cons (pv 1) (pa_cons (pv 2) pa_nil)))))) (pss_one (ps_raise rfl (takes_of rfl rfl rfl rfl) (pmk_xo Z.T Z.ty i1 i2 i3 hr i4 pass0 rfl Z.m (pa_cons (pv 0) pa_nil)))) pss_nil), ?_⟩
  refine ⟨_, rfl, _, rfl, _, rfl, v, lo, hi, r, rfl, hin, _, rfl, ?_⟩
  cases r with
  | true => exact iteF (h1 rfl)
  | false => exact iteT ⟨_, rfl, (by show 1 ≤ 1000; decide), fun a na => air_of (C := CP) (n := 1) (ws := [v]) na rfl (h2 rfl)⟩
theorem scCor : FnScope ["one", "other"] ["one", "other"] (defScope F_check_orders) := ⟨rfl, rfl, rfl, by decide +kernel, rfl, by decide +kernel, by decide +kernel⟩
theorem ok_corders (G : Fun K "check_orders" "check_orders" F_check_orders f fd) (Z : ErrC P w K mg base "UnlikeOrders" 2 (fs2 "UnlikeOrders" "one" "other") CU) : FnOk P w K mg base (L2.CX P w) 3 f fd ["one", "other"] (spCor K CU) := by
  refine G.okX scCor (fun vs H Q E h => ?_) (fun cdv A outer s H vs Q E hr h => ?_)
  · obtain ⟨x, y, n, m, rfl, _⟩ := h
    rfl
  obtain ⟨x, y, n, m, rfl, ⟨xa, C, dx, fs, rfl, hx, cx, nx, lx⟩, ⟨ya, D, dy, gs, rfl, hy, cy, ny, ly⟩, h1, h2⟩ := h
  obtain ⟨fI, fdI, ps, i1, i2, i3, i4⟩ := Z.i
  refine ⟨_, pss_one (ps_if (pt_cmpR op_ne (pe_fld (pv 0) rfl) (pe_fld (pv 1) rfl) (nomark _)) (pss_one (ps_raise rfl (takes_of rfl rfl rfl rfl) (pmk_xo Z.T Z.ty i1 i2 i3 hr i4 pass0 rfl Z.m (pa_cons (pe_fld (pv 0) rfl) (pa_cons (pe_fld (pv 1) rfl) pa_nil))))) pss_nil), ?_⟩
  refine ⟨_, rfl, xa, C, dx, _, _, rfl, hx, cx, nx, lx, _, rfl, ya, D, dy, _, _, rfl, hy, cy, ny, ly, rfl, _, rfl, ?_⟩
  by_cases c : n = m
  · subst c
    rw [decide_eq_true rfl]
    exact iteF (h1 rfl)
  · rw [decide_eq_false (fun e => c (V.int.inj e))]
    exact iteT ⟨_, rfl, xa, C, dx, _, _, rfl, hx, cx, nx, lx, _, rfl, ya, D, dy, _, _, rfl, hy, cy, ny, ly, (by show 2 ≤ 1000; decide), fun a na => air_of (C := CU) (n := 2) (ws := [.int n, .int m]) na rfl (h2 c)⟩
end
end Kx
end
section
set_option maxHeartbeats 4000000
namespace Kx
open PySem PySem.Spec PyProof.Rows L2 RZ
def optV : Option Nat → V
  | none => .non
  | some k => .int (k : Nat)
/-- the first false, counted from i on -/
def badAt : List Bool → Nat → Option Nat
  | [], _ => none
  | r :: rs, i => if r = true then badAt rs (i + 1) else some i
theorem badAt_hit : ∀ (rs : List Bool) (k i : Nat), (∀ r ∈ rs.take i, r = true) → rs[i]? = some false → badAt rs k = some (k + i)
  | [], _, _, _, h => by simp at h
  | r :: rs, k, 0, _, h => by
    have e : r = false := Option.some.inj (show some r = some false from h)
    subst e
    rfl
  | r :: rs, k, i + 1, h, e => by
    have hr : r = true := h r (by simp)
    subst hr
    show badAt rs (k + 1) = _
    rw [badAt_hit rs (k + 1) i (fun x hx => h x (by simp [hx])) (by simpa using e)]
    congr 1
    omega
theorem badAt_none : ∀ (rs : List Bool) (k : Nat), (∀ r ∈ rs, r = true) → badAt rs k = none
  | [], _, _ => rfl
  | r :: rs, k, h => by
    have hr : r = true := h r (by simp)
    subst hr
    exact badAt_none rs (k + 1) fun x hx => h x (by simp [hx])
/-- is v a fraction: r, whatever is new -/
def IsGs (K : PySem.W.Frag) (H : Hp) (v : V) (r : Bool) : Prop := ∀ H', Same H H' → IsG K H' v r
theorem IsGs.same {K : PySem.W.Frag} {H H' : Hp} {v : V} {r : Bool} (h : IsGs K H v r) (s : Same H H') : IsGs K H' v r := fun H2 s2 => h H2 (s.trans s2)
theorem Nq.isGs {K : PySem.W.Frag} {H : Hp} {v : V} {q : Rat} (h : Nq K H v q) : IsGs K H v true := fun _ s => (h.same s).isG
/-- the items, which of them are fractions -/
def Its (K : PySem.W.Frag) (H : Hp) (xs : List V) (rs : List Bool) : Prop := xs.length = rs.length ∧ ∀ (i : Nat) (x : V) (r : Bool), xs[i]? = some x → rs[i]? = some r → IsGs K H x r
theorem Its.same {K : PySem.W.Frag} {H H' : Hp} {xs : List V} {rs : List Bool} (h : Its K H xs rs) (s : Same H H') : Its K H' xs rs := ⟨h.1, fun i x r h1 h2 => (h.2 i x r h1 h2).same s⟩
theorem Nl.its {K : PySem.W.Frag} {H : Hp} {xs : List V} {qs : List Rat} (h : Nl K H xs qs) : Its K H xs (List.replicate qs.length true) := by
  refine ⟨by rw [h.1, List.length_replicate], fun i x r h1 h2 => ?_⟩
  obtain ⟨q, _, n⟩ := h.get h1
  rw [List.getElem?_replicate] at h2
  split at h2
  · rw [← Option.some.inj h2]
    exact n.isGs
  · cases h2
theorem bad_rep (n k : Nat) : badAt (List.replicate n true) k = none := badAt_none _ _ fun r hr => List.eq_of_mem_replicate hr
/-- a list or a tuple -/
def SqH (H : Hp) (a : Addr) (xs : List V) : Prop := H a = some (.lst xs) ∨ H a = some (.tup xs)
theorem SqH.same {H H' : Hp} {a : Addr} {xs : List V} (h : SqH H a xs) (s : Same H H') : SqH H' a xs := h.imp (s _ _) (s _ _)
/-- is v a list or a tuple: r -/
def LsV (K : PySem.W.Frag) (H : Hp) (v : V) (r : Bool) : Prop := ∀ H', Same H H' → ∃ T, TyX K H' v T ∧ PySem.W.kitAny K T [.type "list", .type "tuple"] = some r
theorem LsV.same {K : PySem.W.Frag} {H H' : Hp} {v : V} {r : Bool} (h : LsV K H v r) (s : Same H H') : LsV K H' v r := fun H2 s2 => h H2 (s.trans s2)
theorem SqH.lsv {K : PySem.W.Frag} {H : Hp} {a : Addr} {xs : List V} (h : SqH H a xs) : LsV K H (.ref a) true := fun H' s => by
  rcases h with h | h
  · exact ⟨_, .base (.lst (s _ _ h)), kit2 kb_l.1 kb_l.2.1 rfl⟩
  · exact ⟨_, .base (.tup (s _ _ h)), kit2 kb_l.2.2.1 kb_l.2.2.2 rfl⟩
def spIl (K : PySem.W.Frag) : Sp := fun vs H Q _ => ∃ (v : V) (r : Bool), vs = [v] ∧ LsV K H v r ∧ ∀ H', Same H H' → Q (.bl r) H'
def spWi (K : PySem.W.Frag) : Sp := fun vs H Q _ => ∃ (a : Addr) (xs : List V) (rs : List Bool), vs = [.ref a] ∧ SqH H a xs ∧ Its K H xs rs ∧ ∀ H', Same H H' → Q (optV (badAt rs 0)) H'
def spCf (K : PySem.W.Frag) (CF : Addr) : Sp := fun vs H Q E => ∃ (a : Addr) (xs : List V) (rs : List Bool), vs = [.ref a] ∧ SqH H a xs ∧ Its K H xs rs ∧ (badAt rs 0 = none → ∀ H', Same H H' → Q .non H') ∧ ∀ k : Nat, badAt rs 0 = some k → Air H CF (fs1 "InvalidFraction" "at" [.int (k : Nat)]) E
def spCn (K : PySem.W.Frag) (CF CO : Addr) : Sp := fun vs H Q E => ∃ (v : V) (fu : Int), vs = [v, .int fu] ∧
  ((LsV K H v false ∧ Air H CF (fs1 "InvalidFraction" "at" [.int (-1)]) E) ∨
   ∃ (a : Addr) (xs : List V) (rs : List Bool), v = .ref a ∧ SqH H a xs ∧
     (((xs.length : Int) + fu < 2 ∨ 24 < (xs.length : Int) + fu) ∧ Air H CO (fs1 "InvalidOrder" "value" [.int ((xs.length : Int) + fu)]) E ∨
      2 ≤ (xs.length : Int) + fu ∧ (xs.length : Int) + fu ≤ 24 ∧ Its K H xs rs ∧ (∀ k : Nat, badAt rs 0 = some k → Air H CF (fs1 "InvalidFraction" "at" [.int (k : Nat)]) E) ∧
        (badAt rs 0 = none → ∀ H' b, Same H H' → H b = none → H' b = some (.lst xs) → Q (.ref b) H')))
abbrev nWi : List Str := ["numbers", "at", "number"]
section
variable {P : Program} {w : World} {K : PySem.W.Frag} {mg : Str → Option Value} {base : Heap} {f fW CO CN CP CL CU CF : Addr} {fd fdW : FuncData}
theorem scIl : FnScope ["value"] ["value"] (defScope F_is_listing) := ⟨rfl, rfl, rfl, by decide +kernel, rfl, by decide +kernel, by decide +kernel⟩
theorem ok_listing (G : Fun K "is_listing" "is_listing" F_is_listing f fd) (mI : mg "isinstance" = none) (ml : mg "list" = none) (mt : mg "tuple" = none) : FnOk P w K mg base CX0 1 f fd ["value"] (spIl K) := by
  refine G.ok scIl (fun vs H Q E h => ?_) (fun cdv A outer s H vs Q E hr h => ?_)
  · obtain ⟨v, r, rfl, _⟩ := h
    rfl
  obtain ⟨v, r, rfl, hv, q⟩ := h
  refine ⟨_, pss_one (ps_ret (pe_callB call_isiT rfl mI (by decide +kernel) (pa_cons (pv 0) (pa_cons (pe_tup (pa_cons (pe_bltn rfl ml boot_list (rel_ty _)) (pa_cons (pe_bltn rfl mt boot_tuple (rel_ty _)) pa_nil))) pa_nil)))), ?_⟩
  refine ⟨_, rfl, (by show 2 ≤ sizeLine; decide), fun p np => ?_⟩
  have g1 := new_same np (.tup [.ty "list", .ty "tuple"])
  obtain ⟨T, ty, k⟩ := hv _ g1
  exact ⟨_, p, _, T, _, r, rfl, upd_same, .cons (.ty _) (.cons (.ty _) .nil), ty, k, q _ g1⟩
theorem scWi : FnScope nWi ["numbers"] (defScope F_wrong_item) := ⟨rfl, rfl, rfl, by decide +kernel, rfl, by decide +kernel, by decide +kernel⟩
theorem ok_wrong (G : Fun K "wrong_item" "wrong_item" F_wrong_item f fd) (me : mg "enumerate" = none) (UF : Use P w K mg base CX0 2 "is_fraction" ["value"] (spIsG K) []) : FnOk P w K mg base CX0 3 f fd ["numbers"] (spWi K) := by
  refine G.ok scWi (fun vs H Q E h => ?_) (fun cdv A outer s H vs Q E hr h => ?_)
  · obtain ⟨a, xs, rs, rfl, _⟩ := h
    rfl
  obtain ⟨a, xs, rs, rfl, ha, ⟨hl, hI⟩, q⟩ := h
  refine ⟨_, pss_cons (ps_for PassesOwn.never rfl (pi_enumA rfl me (pa_cons (pv 0) pa_nil)) (pg_tup rfl (pgs_cons (pg_name (i := 1) scWi.nd rfl (Or.inl rfl)) (pgs_cons (pg_name (i := 2) scWi.nd rfl (Or.inl rfl)) pgs_nil)))
      (pss_one (ps_if (pt_not (pt_val (pe_use UF hr rfl pass0 (pa_cons (pv 2) pa_nil)))) (pss_one (ps_ret (pv 1))) pss_nil)))
    (pss_one (ps_ret pe_non)), ?_⟩
  refine ⟨_, rfl, a, xs, rfl, ?_⟩
  have turn : ∀ (i : Nat) (x : V) (σ : L2.St) (H2 H3 : Hp), i < xs.length → (Same H H2 ∧ (∀ r ∈ rs.take i, r = true) ∧ ∃ v v', σ = [some (.ref a), v, v']) → YPair (fun i => some (.int (i : Nat))) (fun i => xs[i]?) i H2 x H3 →
      ∃ (T : Addr) (z : V) (r : Bool), x = .ref T ∧ H2 T = none ∧ H3 = upd H2 T (.tup [.int (i : Nat), z]) ∧ xs[i]? = some z ∧ rs[i]? = some r ∧ IsG K H3 z r ∧ Same H H3 := by
    rintro i x σ H2 H3 hi ⟨s2, _, _⟩ ⟨T, y, z, rfl, hT, rfl, hy, hz⟩
    obtain rfl : y = .int ((i : Nat) : Int) := (Option.some.inj hy).symm
    have s3 := s2.trans (new_same hT (.tup [.int (i : Nat), z]))
    have er := List.getElem?_eq_getElem (l := rs) (i := i) (by omega)
    exact ⟨T, z, _, rfl, hT, rfl, hz, er, hI i z _ hz er _ s3, s3⟩
  have fin : ∀ (σ : L2.St) (H2 : Hp), (Same H H2 ∧ (∀ r ∈ rs.take xs.length, r = true) ∧ ∃ v v', σ = [some (.ref a), v, v']) → Q .non H2 := by
    rintro σ H2 ⟨s2, h, _⟩
    rw [hl, List.take_length] at h
    have := q H2 s2
    rw [badAt_none rs 0 h] at this
    exact this
  rcases ha with ha | ha
  · refine .inl ⟨SqL.of ha, ?_⟩
    refine for_it (walk_enum (K := K) (a := a) (xs := xs)) (fun i σ H' => Same H H' ∧ (∀ r ∈ rs.take i, r = true) ∧ ∃ v v', σ = [some (.ref a), v, v']) ⟨Same.refl H, by simp, none, none, rfl⟩ (fun i σ H' _ h => SqL.of (h.1 _ _ ha)) ?_ fin
    intro i x σ H2 H3 hi hp hY
    obtain ⟨T, z, r, rfl, hT, rfl, hz, er, ig, s3⟩ := turn i x σ H2 H3 hi hp hY
    obtain ⟨s2, h2, v, v', rfl⟩ := hp
    refine ⟨T, [_, _], rfl, SqT.of upd_same, rfl, _, [_], rfl, _, [], rfl, rfl, ?_⟩
    refine ⟨_, rfl, z, r, rfl, ig, _, rfl, ?_⟩
    cases r with
    | true =>
      refine iteF ⟨s3, fun b hb => ?_, _, _, rfl⟩
      rw [List.take_add_one, er] at hb
      rcases List.mem_append.mp hb with hb | hb
      · exact h2 b hb
      · simpa using hb
    | false =>
      have := q _ s3
      rw [badAt_hit rs 0 i h2 er, Nat.zero_add] at this
      exact iteT ⟨_, rfl, this⟩
  · refine .inr ⟨SqT.of ha, ?_⟩
    refine for_it (walk_enumT (K := K) (a := a) (xs := xs)) (fun i σ H' => Same H H' ∧ (∀ r ∈ rs.take i, r = true) ∧ ∃ v v', σ = [some (.ref a), v, v']) ⟨Same.refl H, by simp, none, none, rfl⟩ (fun i σ H' _ h => SqT.of (h.1 _ _ ha)) ?_ fin
    intro i x σ H2 H3 hi hp hY
    obtain ⟨T, z, r, rfl, hT, rfl, hz, er, ig, s3⟩ := turn i x σ H2 H3 hi hp hY
    obtain ⟨s2, h2, v, v', rfl⟩ := hp
    refine ⟨T, [_, _], rfl, SqT.of upd_same, rfl, _, [_], rfl, _, [], rfl, rfl, ?_⟩
    refine ⟨_, rfl, z, r, rfl, ig, _, rfl, ?_⟩
    cases r with
    | true =>
      refine iteF ⟨s3, fun b hb => ?_, _, _, rfl⟩
      rw [List.take_add_one, er] at hb
      rcases List.mem_append.mp hb with hb | hb
      · exact h2 b hb
      · simpa using hb
    | false =>
      have := q _ s3
      rw [badAt_hit rs 0 i h2 er, Nat.zero_add] at this
      exact iteT ⟨_, rfl, this⟩
theorem scCf : FnScope ["numbers", "at"] ["numbers"] (defScope F_check_fractions) := ⟨rfl, rfl, rfl, by decide +kernel, rfl, by decide +kernel, by decide +kernel⟩
theorem ok_cfrac (G : Fun K "check_fractions" "check_fractions" F_check_fractions f fd) (UW : Use P w K mg base CX0 3 "wrong_item" ["numbers"] (spWi K) []) (Z : ErrC P w K mg base "InvalidFraction" 1 (fs1 "InvalidFraction" "at") CF) : FnOk P w K mg base (L2.CX P w) 4 f fd ["numbers"] (spCf K CF) := by
  refine G.okX scCf (fun vs H Q E h => ?_) (fun cdv A outer s H vs Q E hr h => ?_)
  · obtain ⟨a, xs, rs, rfl, _⟩ := h
    rfl
  obtain ⟨a, xs, rs, rfl, ha, hI, q, qe⟩ := h
  obtain ⟨fI, fdI, ps, i1, i2, i3, i4⟩ := Z.i
  refine ⟨_, pss_cons (ps_set (i := 1) scCf.nd rfl (Or.inl rfl) (pe_use UW hr rfl pass0 (pa_cons (pv 0) pa_nil)))
    (pss_one (ps_if (pt_cmpR op_notN (pv 1) pe_non (nomark _)) (pss_one (ps_raise rfl (takes_of rfl rfl rfl rfl) (pmk_xo Z.T Z.ty i1 i2 i3 (hr.mono (by decide)) i4 pass0 rfl Z.m (pa_cons (pv 1) pa_nil)))) pss_nil)), ?_⟩
  refine ⟨_, rfl, a, xs, rs, rfl, ha, hI, fun H1 s1 => ?_⟩
  refine ⟨_, rfl, rfl, _, rfl, ?_⟩
  cases e : badAt rs 0 with
  | none => exact iteF (q e H1 s1)
  | some k => exact iteT ⟨_, rfl, (by show 1 ≤ 1000; decide), fun a na => air_of (C := CF) (n := 1) (ws := [.int (k : Nat)]) na rfl ((qe k e).same s1)⟩
theorem scCn : FnScope ["numbers", "further"] ["numbers", "further"] (defScope F_checked_numbers) := ⟨rfl, rfl, rfl, by decide +kernel, rfl, by decide +kernel, by decide +kernel⟩
theorem ok_checked (G : Fun K "checked_numbers" "checked_numbers" F_checked_numbers f fd) (mn : mg "len" = none) (ml : mg "list" = none) (UI : Use P w K mg base CX0 1 "is_listing" ["value"] (spIl K) [])
    (UC : Use P w K mg base (L2.CX P w) 3 "check_order" ["order"] (spCo K CO) []) (UF : Use P w K mg base (L2.CX P w) 4 "check_fractions" ["numbers"] (spCf K CF) []) (Z : ErrC P w K mg base "InvalidFraction" 1 (fs1 "InvalidFraction" "at") CF) :
    FnOk P w K mg base (L2.CX P w) 5 f fd ["numbers", "further"] (spCn K CF CO) := by
  refine G.okX scCn (fun vs H Q E h => ?_) (fun cdv A outer s H vs Q E hr h => ?_)
  · obtain ⟨v, fu, rfl, _⟩ := h
    rfl
  obtain ⟨v, fu, rfl, hh⟩ := h
  obtain ⟨fI, fdI, ps, i1, i2, i3, i4⟩ := Z.i
  refine ⟨_, pss_cons (ps_if (pt_not (pt_val (pe_use UI (hr.mono (by decide)) rfl pass0 (pa_cons (pv 0) pa_nil)))) (pss_one (ps_raise rfl (takes_of rfl rfl rfl rfl) (pmk_xo Z.T Z.ty i1 i2 i3 (hr.mono (by decide)) i4 pass0 rfl Z.m (pa_cons (pe_un un_neg pe_int) pa_nil)))) pss_nil)
    (pss_cons (ps_expr (pe_use (E := E) UC (hr.mono (by decide)) rfl (passes_call (takes_of rfl rfl rfl rfl) (fun _ _ _ _ h => h)) (pa_cons (pe_op op_add (pe_callB call_len_seq rfl mn PySem.boot_len (pa_cons (pv 0) pa_nil)) (pv 1)) pa_nil)))
    (pss_cons (ps_expr (pe_use (E := E) UF hr rfl (passes_call (takes_of rfl rfl rfl rfl) (fun _ _ _ _ h => h)) (pa_cons (pv 0) pa_nil)))
    (pss_one (ps_ret (pe_callTy call_list_of rfl ml (by decide +kernel) (pa_cons (pv 0) pa_nil)))))), ?_⟩
  rcases hh with ⟨hv, air⟩ | ⟨a, xs, rs, rfl, ha, hh⟩
  · refine ⟨_, rfl, v, false, rfl, hv, fun H1 s1 => ⟨_, rfl, iteT ⟨1, rfl, (by show 1 ≤ 1000; decide), fun a na => air_of (C := CF) (n := 1) (ws := [.int (-1)]) na rfl (air.same s1)⟩⟩⟩
  · refine ⟨_, rfl, .ref a, true, rfl, ha.lsv, fun H1 s1 => ⟨_, rfl, iteF ?_⟩⟩
    have ha1 := ha.same s1
    have len1 : ∀ {H2 : Hp}, SqH H2 a xs → (SqL K H2 a xs ∨ SqT K H2 a xs) := fun h => h.imp SqL.of SqT.of
    refine ⟨_, rfl, a, xs, rfl, len1 ha1, _, rfl, _, _, rfl, rfl, ?_⟩
    rcases hh with ⟨ho, air⟩ | ⟨l1, l2, hI, qf, q⟩
    · exact ⟨_, false, rfl, .no ho, fun z => Bool.noConfusion z, fun _ => air.same s1⟩
    · refine ⟨_, true, rfl, .yes l1 l2, fun _ => ?_, fun z => Bool.noConfusion z⟩
      refine ⟨_, rfl, a, xs, rs, rfl, ha1, hI.same s1, fun hb H2 s2 => ?_, fun k hk => (qf k hk).same s1⟩
      have ha2 := ha1.same s2
      exact ⟨_, rfl, a, xs, rfl, len1 ha2, fun b nb => q hb _ b ((s1.trans s2).trans (new_same nb _)) ((s1.trans s2).free nb) upd_same⟩
end
end Kx
end
section
set_option maxHeartbeats 4000000
namespace Kx
open PySem PySem.Spec PyProof.Rows L2 RZ
theorem KP.dp {K : PySem.W.Frag} {a : Addr} {x y : Int} (k : KP K a x y) (H : Hp) : Dp K H (.ref a) (.tuple [.int x, .int y]) := .tup (k.t H) (.cons (.int _) (.cons (.int _) .nil))
theorem cut_drop (xs : List V) (k : Nat) : cutV xs (some (k : Int)) none = xs.drop k := by
  unfold cutV
  rw [HT.sIx_nat, HT.sIx_none, List.take_of_length_le (by rw [List.length_drop]; omega)]
  by_cases c : k ≤ xs.length
  · rw [Nat.min_eq_left c]
  · rw [Nat.min_eq_right (by omega), List.drop_of_length_le (Nat.le_refl _), List.drop_of_length_le (by omega)]
theorem cut_take (xs : List V) (k : Nat) : cutV xs none (some (k : Int)) = xs.take k := by
  unfold cutV
  rw [HT.sIx_nat, HT.sIx_none, List.drop_zero, Nat.sub_zero]
  by_cases c : k ≤ xs.length
  · rw [Nat.min_eq_left c]
  · rw [Nat.min_eq_right (by omega), List.take_of_length_le (Nat.le_refl _), List.take_of_length_le (by omega)]
/-- the least place with a number that is not 0 -/
def hgtV (qs : List Rat) (f : Int) : V := match hgtN qs 0 with
  | none => .non
  | some k => .int (f + (k : Nat))
theorem hgtN_hit : ∀ (qs : List Rat) (i f : Nat) (q : Rat), (∀ r ∈ qs.take i, r = 0) → qs[i]? = some q → q ≠ 0 → hgtN qs f = some (f + i)
  | [], _, _, _, _, h, _ => by simp at h
  | r :: rs, 0, f, q, _, h, hq => by
    have e : r = q := Option.some.inj (show some r = some q from h)
    show (if r = 0 then hgtN rs (f + 1) else some f) = some f
    rw [if_neg (by rw [e]; exact hq)]
  | r :: rs, i + 1, f, q, h, e, hq => by
    have hr : r = 0 := h r (by simp)
    show (if r = 0 then hgtN rs (f + 1) else some f) = _
    rw [if_pos hr, hgtN_hit rs i (f + 1) q (fun x hx => h x (by simp [hx])) (by simpa using e) hq]
    congr 1
    omega
theorem hgtN_none (qs : List Rat) (f : Nat) (h : ∀ q ∈ qs, q = 0) : hgtN qs f = none := by
  have := hgtN_app_zero qs f [] h
  rw [List.append_nil] at this
  rw [this]
  rfl
def spIz (K : PySem.W.Frag) : Sp := fun vs H Q _ => ∃ (x : V) (qs : List Rat), vs = [x] ∧ Ls K H x qs ∧ qs.length ≤ 100 ∧ ∀ H', Same H H' → Q (.bl (qs.all fun q => decide (q = 0))) H'
def spLp (K : PySem.W.Frag) : Sp := fun vs H Q _ => ∃ (x : V) (qs : List Rat) (fi : Int), vs = [x, .int fi] ∧ Ls K H x qs ∧ ∀ H', Same H H' → Q (hgtV qs fi) H'
/-- the kind of a step -/
def kindS (qs : List Rat) : Str :=
  if qs.getD 0 0 = 0 then (if (qs.drop 1).all (fun q => decide (q = 0)) = true then "nothing" else "crush")
  else if qs.getD 0 0 = 1 then (if (qs.drop 1).all (fun q => decide (q = 0)) = true then "still" else "creep")
  else if qs.getD 0 0 = -1 then "flip" else "stretch"
def spKo (K : PySem.W.Frag) : Sp := fun vs H Q _ => ∃ (x : V) (qs : List Rat), vs = [x] ∧ Ls K H x qs ∧ 1 ≤ qs.length ∧ qs.length ≤ 100 ∧ ∀ H', Same H H' → Q (.str (kindS qs)) H'
abbrev nIz : List Str := ["numbers", "number"]
abbrev nLp : List Str := ["numbers", "first", "at", "number"]
abbrev nKo : List Str := ["numbers", "lead", "bent"]
theorem eqD_at {X : Cx} (K : PySem.W.Frag) (h : X.K = K) (hu : X.A.units + 64 < cLine) : OpR X (compareOp .Eq) (rEqD K) := by
  subst h
  exact op_eqD hu
section
variable {P : Program} {w : World} {K : PySem.W.Frag} {mg : Str → Option Value} {base : Heap} {f fI o1 o0 om : Addr} {fd : FuncData}
theorem scIz : FnScope nIz ["numbers"] (defScope F_is_zero) := ⟨rfl, rfl, rfl, by decide +kernel, rfl, by decide +kernel, by decide +kernel⟩
theorem ok_iszero (G : Fun K "is_zero" "is_zero" F_is_zero f fd) (k0 : KP K o0 0 1) (ma : mg "all" = none) (mZ : mg "ZERO" = some (.ref o0)) : FnOk P w K mg base CX0 1 f fd ["numbers"] (spIz K) := by
  refine G.ok scIz (fun vs H Q E h => ?_) (fun cdv A outer s H vs Q E hr h => ?_)
  · obtain ⟨x, qs, rfl, _⟩ := h
    rfl
  obtain ⟨x, qs, rfl, ⟨a, xs, rfl, ha, nx⟩, hn, q⟩ := h
  refine ⟨_, pss_one (ps_ret (pe_callB (cr_all rfl) rfl ma (by decide +kernel) (pa_cons (pe_lc (own := [("number", 1)]) (g := gName 1) (tt := tYes) rfl scIz.nd (pi_list (pv 0)) (blkOk_by (N := nIz) (sc := defScope F_is_zero) (by decide +kernel)) (fun _ _ _ _ _ => pg_name (i := 1) scIz.nd rfl (Or.inl rfl)) (fun _ _ _ _ _ => pts_nil)
        (fun _ _ _ _ _ => pe_cmpR (eqD_at K rfl hr.units) (pv 1) (C8.pe_gc (v := .ref o0) rfl ⟨_, mZ, rfl⟩) (nomark _))) pa_nil))), ?_⟩
  have lx : xs.length = qs.length := nx.1
  refine ⟨_, rfl, a, rfl, ⟨_, SqL.of ha⟩, fun D nD => ?_⟩
  refine lc_acc (walk_list (K := K) (a := a) (xs := xs)) (fun i _ y => ∀ r, qs[i]? = some r → y = .bl (decide (r = 0))) (fun i H H' y l h _ _ => h) nD (by omega) (fun H2 s => SqL.of (s _ _ ha)) ?_ ?_
  · rintro i x H2 H3 k hi s2 ⟨rfl, hx2⟩ hk
    obtain ⟨b, eb, nb⟩ := nx.get hx2
    refine ⟨rfl, _, rfl, tupQ b, tupQ 0, (nb.same s2).dp, k0.dp _, rfl, rfl, ?_⟩
    rw [eqv_num]
    exact hk _ _ (Same.refl _) fun r hr => by rw [eb] at hr; rw [← Option.some.inj hr]
  · intro H2 zs s2 hD hl hR
    have ez : zs = (qs.map fun q => decide (q = 0)).map V.bl := by
      apply List.ext_getElem?
      intro i
      rw [List.map_map, List.getElem?_map]
      by_cases c : i < qs.length
      · rw [List.getElem?_eq_getElem c]
        have e := List.getElem?_eq_getElem (l := zs) (i := i) (by omega)
        rw [e, hR i _ e _ (List.getElem?_eq_getElem c)]
        rfl
      · rw [List.getElem?_eq_none (by omega), List.getElem?_eq_none (by omega)]
        rfl
    refine ⟨D, _, rfl, SqL.of (by rw [hD, ez]), ?_⟩
    rw [List.all_map]
    exact q _ s2
theorem scLp : FnScope nLp ["numbers", "first"] (defScope F_least_place) := ⟨rfl, rfl, rfl, by decide +kernel, rfl, by decide +kernel, by decide +kernel⟩
theorem ok_least (G : Fun K "least_place" "least_place" F_least_place f fd) (k0 : KP K o0 0 1) (me : mg "enumerate" = none) (mZ : mg "ZERO" = some (.ref o0)) : FnOk P w K mg base CX0 1 f fd ["numbers", "first"] (spLp K) := by
  refine G.ok scLp (fun vs H Q E h => ?_) (fun cdv A outer s H vs Q E hr h => ?_)
  · obtain ⟨x, qs, fi, rfl, _⟩ := h
    rfl
  obtain ⟨x, qs, fi, rfl, ⟨a, xs, rfl, ha, nx⟩, q⟩ := h
  refine ⟨_, pss_cons (ps_for PassesOwn.never rfl (pi_enum rfl me (pa_cons (pv 0) pa_nil)) (pg_tup rfl (pgs_cons (pg_name (i := 2) scLp.nd rfl (Or.inl rfl)) (pgs_cons (pg_name (i := 3) scLp.nd rfl (Or.inl rfl)) pgs_nil)))
      (pss_one (ps_if (pt_cmpR (op_neD hr.units) (pv 3) (C8.pe_gc (v := .ref o0) rfl ⟨_, mZ, rfl⟩) (nomark _)) (pss_one (ps_ret (pe_op op_add (pv 1) (pv 2)))) pss_nil)))
    (pss_one (ps_ret pe_non)), ?_⟩
  refine ⟨_, rfl, a, _, rfl, SqL.of ha, ?_⟩
  refine for_it (walk_enum (K := K) (a := a) (xs := xs)) (fun i σ H' => Same H H' ∧ (∀ r ∈ qs.take i, r = 0) ∧ ∃ v v', σ = [some (.ref a), some (.int fi), v, v']) ⟨Same.refl H, by simp, none, none, rfl⟩ (fun i σ H' _ h => SqL.of (h.1 _ _ ha)) ?_ ?_
  · rintro i x σ H2 H3 hi ⟨s2, h2, v, v', rfl⟩ ⟨T, y, z, rfl, hT, rfl, hy, hz⟩
    refine ⟨T, [_, _], rfl, SqT.of upd_same, rfl, _, [_], rfl, _, [], rfl, rfl, ?_⟩
    have s3 := s2.trans (new_same hT (.tup [y, z]))
    obtain ⟨b, eb, nb⟩ := nx.get hz
    obtain rfl : y = .int ((i : Nat) : Int) := (Option.some.inj hy).symm
    refine ⟨_, rfl, tupQ b, tupQ 0, (nb.same s3).dp, k0.dp _, rfl, rfl, _, rfl, ?_⟩
    rw [eqv_num]
    by_cases c : b = 0
    · rw [decide_eq_true c]
      refine iteF ⟨s3, fun r hr => ?_, _, _, rfl⟩
      rw [List.take_add_one, eb] at hr
      rcases List.mem_append.mp hr with hr | hr
      · exact h2 r hr
      · rw [← c]
        simpa using hr
    · rw [decide_eq_false c]
      refine iteT ⟨_, rfl, _, rfl, fi, _, rfl, rfl, ?_⟩
      have := q _ s3
      unfold hgtV at this
      rw [hgtN_hit qs i 0 b h2 eb c, Nat.zero_add] at this
      exact this
  · rintro σ H2 ⟨s2, h2, v, v', rfl⟩
    rw [nx.1, List.take_length] at h2
    have := q _ s2
    unfold hgtV at this
    rw [hgtN_none qs 0 h2] at this
    exact this
theorem scKo : FnScope nKo ["numbers"] (defScope F_kind_of) := ⟨rfl, rfl, rfl, by decide +kernel, rfl, by decide +kernel, by decide +kernel⟩
theorem ok_kind (G : Fun K "kind_of" "kind_of" F_kind_of f fd) (k1 : KP K o1 1 1) (k0 : KP K o0 0 1) (km : KP K om (-1) 1) (mZ : mg "ZERO" = some (.ref o0)) (mO : mg "ONE" = some (.ref o1)) (mM : mg "MINUS_ONE" = some (.ref om))
    (UZ : Use P w K mg base CX0 1 "is_zero" ["numbers"] (spIz K) []) : FnOk P w K mg base CX0 2 f fd ["numbers"] (spKo K) := by
  refine G.ok scKo (fun vs H Q E h => ?_) (fun cdv A outer s H vs Q E hr h => ?_)
  · obtain ⟨x, qs, rfl, _⟩ := h
    rfl
  obtain ⟨x, qs, rfl, ⟨a, xs, rfl, ha, nx⟩, h1, hn, q⟩ := h
  refine ⟨_, pss_cons (ps_set (i := 1) scKo.nd rfl (Or.inl rfl) (pe_ix ix_list (pv 0) pe_int (fun _ _ => rfl)))
    (pss_cons (ps_set (i := 2) scKo.nd rfl (Or.inl rfl) (pe_not (pe_use UZ hr rfl pass0 (pa_cons (pe_slice sl_list (pv 0) (po_some pe_int) po_none) pa_nil))))
    (pss_cons (ps_if (pt_cmpR (op_eqD hr.units) (pv 1) (C8.pe_gc (v := .ref o0) rfl ⟨_, mZ, rfl⟩) (nomark _)) (pss_one (ps_ret (pe_ifExp (pt_val (pv 2)) pe_str pe_str))) pss_nil)
    (pss_cons (ps_if (pt_cmpR (op_eqD hr.units) (pv 1) (C8.pe_gc (v := .ref o1) rfl ⟨_, mO, rfl⟩) (nomark _)) (pss_one (ps_ret (pe_ifExp (pt_val (pv 2)) pe_str pe_str))) pss_nil)
    (pss_one (ps_ret (pe_ifExp (pt_cmpR (op_eqD hr.units) (pv 1) (C8.pe_gc (v := .ref om) rfl ⟨_, mM, rfl⟩) (nomark _)) pe_str pe_str)))))), ?_⟩
  obtain ⟨x0, e0, n0⟩ := nx.get' (i := 0) (by omega)
  have g0 : qs.getD 0 0 = qs[0] := by rw [List.getD_eq_getElem?_getD, List.getElem?_eq_getElem (by omega)]; rfl
  generalize hq0 : qs[0] = q0 at n0 g0
  refine ⟨_, rfl, a, _, 0, _, rfl, rfl, SqL.of ha, at_of (j := 0) rfl e0, _, rfl, 1, rfl, a, _, rfl, SqL.of ha, fun b nb => ?_⟩
  have ec : cutV xs (some 1) none = xs.drop 1 := cut_drop xs 1
  rw [ec]
  have s1 := new_same nb (.lst (xs.drop 1))
  refine ⟨.ref b, qs.drop 1, rfl, ⟨b, _, rfl, upd_same, (nx.drop 1).same s1⟩, by rw [List.length_drop]; omega, fun H2 s2 => ?_⟩
  have s2 := s1.trans s2
  have n2 := n0.same s2
  have dp2 : ∀ {H3}, H3 = H2 → Dp K H3 x0 (tupQ q0) := fun e => by rw [e]; exact n2.dp
  have e1 : tupQ 1 = .tuple [.int 1, .int 1] := rfl
  have em : tupQ (-1) = .tuple [.int (-1), .int 1] := rfl
  have eb : ∀ b : Bool, b = (qs.drop 1).all (fun q => decide (q = 0)) → (qs.drop 1).all (fun q => decide (q = 0)) = b := fun b h => h.symm
  generalize hz : (qs.drop 1).all (fun q => decide (q = 0)) = z
  refine ⟨_, rfl, _, rfl, tupQ q0, tupQ 0, n2.dp, k0.dp _, rfl, rfl, _, rfl, ?_⟩
  rw [eqv_num]
  by_cases c0 : q0 = 0
  · rw [decide_eq_true c0]
    have qk := q _ s2
    unfold kindS at qk
    rw [g0, if_pos c0, hz] at qk
    refine iteT ⟨_, rfl, _, rfl, ?_⟩
    cases z with
    | true => exact iteF qk
    | false => exact iteT qk
  rw [decide_eq_false c0]
  refine iteF ?_
  refine ⟨_, rfl, tupQ q0, tupQ 1, n2.dp, k1.dp _, rfl, rfl, _, rfl, ?_⟩
  rw [eqv_num]
  by_cases c1 : q0 = 1
  · rw [decide_eq_true c1]
    have qk := q _ s2
    unfold kindS at qk
    rw [g0, if_neg c0, if_pos c1, hz] at qk
    refine iteT ⟨_, rfl, _, rfl, ?_⟩
    cases z with
    | true => exact iteF qk
    | false => exact iteT qk
  rw [decide_eq_false c1]
  refine iteF ?_
  have qk := q _ s2
  unfold kindS at qk
  rw [g0, if_neg c0, if_neg c1] at qk
  refine ⟨_, rfl, tupQ q0, tupQ (-1), n2.dp, km.dp _, rfl, rfl, _, rfl, ?_⟩
  rw [eqv_num]
  by_cases cm : q0 = -1
  · rw [decide_eq_true cm]
    rw [if_pos cm] at qk
    exact iteT qk
  · rw [decide_eq_false cm]
    rw [if_neg cm] at qk
    exact iteF qk
end
end Kx
end
section
set_option maxHeartbeats 4000000
namespace Kx
open PySem PySem.Spec PyProof.Rows L2 RZ
def rwF (b : Addr) (n : Int) (hv : V) : List (Str × V) := [("_numbers", .ref b), ("order", .int n), ("height", hv)]
def stF (b : Addr) (n : Int) (x0 : V) (kd : Str) (hv fv sv : V) : List (Str × V) := [("_numbers", .ref b), ("order", .int n), ("lead", x0), ("kind", .str kd), ("height", hv), ("flat", fv), ("strength", sv)]
def rwN : List Str := ["_numbers", "order", "height"]
def stN : List Str := ["_numbers", "order", "lead", "kind", "height", "flat", "strength"]
/-- a row with these numbers -/
def RwAt (K : PySem.W.Frag) (C : Addr) (H : Hp) (v : V) (qs : List Rat) : Prop := ∃ (x dx b : Addr) (xs : List V), v = .ref x ∧ H x = some (.ins C dx (rwF b ((qs.length : Int) - 1) (hgtV qs 0))) ∧ H b = some (.lst xs) ∧ Nl K H xs qs ∧ 3 ≤ qs.length ∧ qs.length ≤ 25
theorem RwAt.same {K : PySem.W.Frag} {C : Addr} {H H' : Hp} {v : V} {qs : List Rat} (h : RwAt K C H v qs) (s : Same H H') : RwAt K C H' v qs := by
  obtain ⟨x, dx, b, xs, e, h1, h2, h3, h4⟩ := h
  exact ⟨x, dx, b, xs, e, s _ _ h1, s _ _ h2, h3.same s, h4⟩
/-- a step with these numbers -/
def StAt (K : PySem.W.Frag) (S : Addr) (H : Hp) (v : V) (qs : List Rat) : Prop := ∃ (x dx b : Addr) (xs : List V) (x0 fv sv : V), v = .ref x ∧ H x = some (.ins S dx (stF b (qs.length : Int) x0 (kindS qs) (hgtV qs 1) fv sv)) ∧ H b = some (.lst xs) ∧ Nl K H xs qs ∧ xs[0]? = some x0 ∧ 2 ≤ qs.length ∧ qs.length ≤ 24
theorem StAt.same {K : PySem.W.Frag} {S : Addr} {H H' : Hp} {v : V} {qs : List Rat} (h : StAt K S H v qs) (s : Same H H') : StAt K S H' v qs := by
  obtain ⟨x, dx, b, xs, x0, fv, sv, e, h1, h2, h3, h4⟩ := h
  exact ⟨x, dx, b, xs, x0, fv, sv, e, s _ _ h1, s _ _ h2, h3.same s, h4⟩
/-- what a constructor may be given: refused, or not -/
def Giv (K : PySem.W.Frag) (CF CO : Addr) (H : Hp) (v : V) (fu : Int) (E : XK) (good : List V → List Rat → Prop) : Prop :=
  (LsV K H v false ∧ Air H CF (fs1 "InvalidFraction" "at" [.int (-1)]) E) ∨
   ∃ (a : Addr) (xs : List V), v = .ref a ∧ SqH H a xs ∧
     (((xs.length : Int) + fu < 2 ∨ 24 < (xs.length : Int) + fu) ∧ Air H CO (fs1 "InvalidOrder" "value" [.int ((xs.length : Int) + fu)]) E ∨
      2 ≤ (xs.length : Int) + fu ∧ (xs.length : Int) + fu ≤ 24 ∧
        ((∃ (rs : List Bool) (k : Nat), Its K H xs rs ∧ badAt rs 0 = some k ∧ Air H CF (fs1 "InvalidFraction" "at" [.int (k : Nat)]) E) ∨ ∃ qs : List Rat, Nl K H xs qs ∧ good xs qs))
def spRI (K : PySem.W.Frag) (C CF CO : Addr) : Sp := fun vs H Q E => ∃ (x dx : Addr) (v : V), vs = [.ref x, v] ∧ v ≠ .ref x ∧ H x = some (.ins C dx []) ∧
  Giv K CF CO H v (-1) E fun xs qs => ∀ H' b, But x H H' → H b = none → H' x = some (.ins C dx (rwF b ((qs.length : Int) - 1) (hgtV qs 0))) → H' b = some (.lst xs) → Q .non H'
def spSI (K : PySem.W.Frag) (S CF CO : Addr) : Sp := fun vs H Q E => ∃ (x dx : Addr) (v : V), vs = [.ref x, v] ∧ v ≠ .ref x ∧ H x = some (.ins S dx []) ∧
  Giv K CF CO H v 0 E fun xs qs => ∀ H' b x0 fv sv, xs[0]? = some x0 → But x H H' → H b = none → H' x = some (.ins S dx (stF b (qs.length : Int) x0 (kindS qs) (hgtV qs 1) fv sv)) → H' b = some (.lst xs) → Q .non H'
abbrev nIn : List Str := ["self", "numbers"]
theorem but_put {x : Addr} {H : Hp} {o : HO} : But x H (upd H x o) := fun b u n h => by rw [upd_ne n]; exact h
theorem Nq.but {K : PySem.W.Frag} {H H' : Hp} {x C dx : Addr} {fs : List (Str × V)} {v : V} {q : Rat} (h : Nq K H v q) (hx : H x = some (.ins C dx fs)) (s : But x H H') : Nq K H' v q := by
  obtain ⟨a, e, h⟩ := h
  refine ⟨a, e, h.imp (fun h => s _ _ (fun z => ?_) h) id⟩
  rw [z, hx] at h
  cases h
theorem Nl.but {K : PySem.W.Frag} {H H' : Hp} {x C dx : Addr} {fs : List (Str × V)} {xs : List V} {qs : List Rat} (h : Nl K H xs qs) (hx : H x = some (.ins C dx fs)) (s : But x H H') : Nl K H' xs qs := ⟨h.1, fun i y q h1 h2 => (h.2 i y q h1 h2).but hx s⟩
section
variable {P : Program} {w : World} {K : PySem.W.Frag} {mg : Str → Option Value} {base : Heap} {f fI C S CF CO o1 o0 : Addr} {fd : FuncData}
/-- from Giv to the promise of checked_numbers -/
theorem Giv.cn {H : Hp} {v : V} {fu : Int} {E : XK} {Qx : Addr → Hp → Prop} {good : List V → List Rat → Prop} (h : Giv K CF CO H v fu E good)
    (q : ∀ a xs qs H' b, v = .ref a → SqH H a xs → Nl K H xs qs → good xs qs → 2 ≤ (xs.length : Int) + fu → (xs.length : Int) + fu ≤ 24 → Same H H' → H b = none → H' b = some (.lst xs) → Qx b H') :
  ((LsV K H v false ∧ Air H CF (fs1 "InvalidFraction" "at" [.int (-1)]) E) ∨
   ∃ (a : Addr) (xs : List V) (rs : List Bool), v = .ref a ∧ SqH H a xs ∧
     (((xs.length : Int) + fu < 2 ∨ 24 < (xs.length : Int) + fu) ∧ Air H CO (fs1 "InvalidOrder" "value" [.int ((xs.length : Int) + fu)]) E ∨
      2 ≤ (xs.length : Int) + fu ∧ (xs.length : Int) + fu ≤ 24 ∧ Its K H xs rs ∧ (∀ k : Nat, badAt rs 0 = some k → Air H CF (fs1 "InvalidFraction" "at" [.int (k : Nat)]) E) ∧
        (badAt rs 0 = none → ∀ H' b, Same H H' → H b = none → H' b = some (.lst xs) → Qx b H'))) := by
  rcases h with h | ⟨a, xs, rfl, ha, h⟩
  · exact .inl h
  · rcases h with ⟨ho, air⟩ | ⟨l1, l2, h⟩
    · exact .inr ⟨a, xs, [], rfl, ha, .inl ⟨ho, air⟩⟩
    · rcases h with ⟨rs, k, hI, hb, air⟩ | ⟨qs, nx, g⟩
      · refine .inr ⟨a, xs, rs, rfl, ha, .inr ⟨l1, l2, hI, fun k' hk => ?_, fun z => ?_⟩⟩
        · rw [hb] at hk
          rw [← Option.some.inj hk]
          exact air
        · rw [hb] at z; cases z
      · refine .inr ⟨a, xs, _, rfl, ha, .inr ⟨l1, l2, nx.its, fun k' hk => ?_, fun z H' b s n e => q a xs qs H' b rfl ha nx g l1 l2 s n e⟩⟩
        rw [bad_rep] at hk
        cases hk
end
end Kx
end
section
set_option maxHeartbeats 4000000
namespace Kx
open PySem PySem.Spec PyProof.Rows L2 RZ
theorem hgtN_ex : ∀ (qs : List Rat) (f : Nat), (∃ q ∈ qs, q ≠ 0) → ∃ k, k < qs.length ∧ hgtN qs f = some (f + k)
  | [], _, h => by obtain ⟨q, hq, _⟩ := h; cases hq
  | q :: qs, f, h => by
    by_cases c : q = 0
    · obtain ⟨r, hr, nr⟩ := h
      have hr' : r ∈ qs := by
        rcases List.mem_cons.mp hr with e | e
        · exact absurd (by rw [e]; exact c) nr
        · exact e
      obtain ⟨k, hk, e⟩ := hgtN_ex qs (f + 1) ⟨r, hr', nr⟩
      refine ⟨k + 1, by rw [List.length_cons]; omega, ?_⟩
      show (if q = 0 then hgtN qs (f + 1) else some f) = _
      rw [if_pos c, e]
      congr 1
      omega
    · refine ⟨0, by rw [List.length_cons]; omega, ?_⟩
      show (if q = 0 then hgtN qs (f + 1) else some f) = _
      rw [if_neg c]
      rfl
theorem not_zero {qs : List Rat} (h : ¬ (qs.all (fun q => decide (q = 0)) = true)) : ∃ q ∈ qs, q ≠ 0 := by
  rw [List.all_eq_true] at h
  exact Classical.byContradiction fun z => h fun q hq => decide_eq_true (Classical.byContradiction fun n => z ⟨q, hq, n⟩)
theorem kind_creep {qs : List Rat} (h : kindS qs = "creep") : ∃ q ∈ qs.drop 1, q ≠ 0 := by
  unfold kindS at h
  split at h
  · split at h <;> exact absurd h (by decide)
  · split at h
    · split at h
      · exact absurd h (by decide)
      · exact not_zero (by assumption)
    · split at h <;> exact absurd h (by decide)
theorem kind_crush {qs : List Rat} (h : kindS qs = "crush") : ∃ q ∈ qs, q ≠ 0 := by
  have z : ∃ q ∈ qs.drop 1, q ≠ 0 := by
    unfold kindS at h
    split at h
    · split at h
      · exact absurd h (by decide)
      · exact not_zero (by assumption)
    · split at h
      · split at h <;> exact absurd h (by decide)
      · split at h <;> exact absurd h (by decide)
  obtain ⟨q, hq, n⟩ := z
  exact ⟨q, List.mem_of_mem_drop hq, n⟩
/-- how far an __init__ has come -/
structure Stg (K : PySem.W.Frag) (H Hk : Hp) (x S dx : Addr) (fs : List (Str × V)) (b : Addr) (xs : List V) (qs : List Rat) : Prop where
  u : But x H Hk
  hx : Hk x = some (.ins S dx fs)
  hb : Hk b = some (.lst xs)
  nx : Nl K Hk xs qs
  xb : b ≠ x
theorem Stg.put {K : PySem.W.Frag} {H Hk : Hp} {x S dx : Addr} {fs : List (Str × V)} {b : Addr} {xs : List V} {qs : List Rat} (h : Stg K H Hk x S dx fs b xs qs) (fs' : List (Str × V)) : Stg K H (upd Hk x (.ins S dx fs')) x S dx fs' b xs qs :=
  ⟨h.u.trans but_put, upd_same, by rw [upd_ne h.xb]; exact h.hb, h.nx.but h.hx but_put, h.xb⟩
theorem Stg.go {K : PySem.W.Frag} {H Hk H' : Hp} {x S dx : Addr} {fs : List (Str × V)} {b : Addr} {xs : List V} {qs : List Rat} (h : Stg K H Hk x S dx fs b xs qs) (s : Same Hk H') : Stg K H H' x S dx fs b xs qs :=
  ⟨h.u.trans (But.same s), s _ _ h.hx, s _ _ h.hb, h.nx.same s, h.xb⟩
section
variable {P : Program} {w : World} {K : PySem.W.Frag} {mg : Str → Option Value} {base : Heap} {f fI C S CF CO o1 o0 : Addr} {fd : FuncData}
theorem scSI : FnScope nIn ["self", "numbers"] (defScope C_Step_init) := ⟨rfl, rfl, rfl, by decide +kernel, rfl, by decide +kernel, by decide +kernel⟩
theorem ok_stinit (G : Fun K "__init__" "Step.__init__" C_Step_init f fd) (c : Cls K S) (nA : ∀ n ∈ stN, NoAttr K S n) (mn : mg "len" = none)
    (UN : Use P w K mg base (L2.CX P w) 5 "checked_numbers" ["numbers", "further"] (spCn K CF CO) []) (UD : Use P w K mg base CX0 2 "kind_of" ["numbers"] (spKo K) []) (UL : Use P w K mg base CX0 1 "least_place" ["numbers", "first"] (spLp K) []) :
    FnOk P w K mg base (L2.CX P w) 6 f fd ["self", "numbers"] (spSI K S CF CO) := by
  refine G.okX scSI (fun vs H Q E h => ?_) (fun cdv A outer s H vs Q E hr h => ?_)
  · obtain ⟨x, dx, v, rfl, _⟩ := h
    rfl
  obtain ⟨x, dx, v, rfl, nv, hx, hg⟩ := h
  have hr1 := hr.mono (show 1 ≤ 5 by decide)
  have hr2 := hr.mono (show 2 ≤ 5 by decide)
  have n1 := nA "_numbers" (by simp [stN])
  have n2 := nA "order" (by simp [stN])
  have n3 := nA "lead" (by simp [stN])
  have n4 := nA "kind" (by simp [stN])
  have n5 := nA "height" (by simp [stN])
  have n6 := nA "flat" (by simp [stN])
  have n7 := nA "strength" (by simp [stN])
  refine ⟨_, pss_cons (ps_fld (pv 0) (pe_use (E := E) UN hr rfl (passes_call (takes_of rfl rfl rfl rfl) (fun _ _ _ _ h => h)) (pa_cons (pv 1) (pa_cons pe_int pa_nil))) rfl)
    (pss_cons (ps_fld (pv 0) (pe_callB call_len_seq rfl mn PySem.boot_len (pa_cons (pv 1) pa_nil)) rfl)
    (pss_cons (ps_fld (pv 0) (pe_ix ix_list (pe_fld (pv 0) rfl) pe_int (fun _ _ => rfl)) rfl)
    (pss_cons (ps_fld (pv 0) (pe_use UD hr2 rfl pass0 (pa_cons (pe_fld (pv 0) rfl) pa_nil)) rfl)
    (pss_cons (ps_fld (pv 0) (pe_use UL hr1 rfl pass0 (pa_cons (pe_fld (pv 0) rfl) (pa_cons pe_int pa_nil))) rfl)
    (pss_cons (ps_fld (pv 0) pe_non rfl)
    (pss_cons (ps_fld (pv 0) pe_non rfl)
    (C8.pss_cut (ps_if (pt_cmpR op_eq (pe_fld (pv 0) rfl) pe_str (nomark _)) (pss_cons (ps_fld (pv 0) (pe_use UL hr1 rfl pass0 (pa_cons (pe_slice sl_list (pe_fld (pv 0) rfl) (po_some pe_int) po_none) (pa_cons pe_int pa_nil))) rfl)
        (pss_one (ps_fld (pv 0) (pe_ix ix_list (pe_fld (pv 0) rfl) (pe_fld (pv 0) rfl) (fun _ _ => rfl)) rfl))) pss_nil)
    (pss_one (ps_if (pt_cmpR op_eq (pe_fld (pv 0) rfl) pe_str (nomark _)) (pss_one (ps_fld (pv 0) (pe_ix ix_list (pe_fld (pv 0) rfl) (pe_op op_sub (pe_fld (pv 0) rfl) pe_int) (fun _ _ => rfl)) rfl)) pss_nil))))))))), ?_⟩
  refine ⟨_, rfl, v, 0, rfl, ?_⟩
  refine hg.cn fun a xs qs H1 b ev ha nx g l1 l2 s1 nb hb => ?_
  subst ev
  have xb : b ≠ x := fun e => by rw [e, hx] at nb; cases nb
  have xa : a ≠ x := fun e => nv (by rw [e])
  have lq : xs.length = qs.length := nx.1
  have g1 : Stg K H H1 x S dx [] b xs qs := ⟨But.same s1, s1 _ _ hx, hb, nx.same s1, xb⟩
  have ha1 := ha.same s1
  refine ⟨_, rfl, x, S, dx, _, rfl, g1.hx, c, n1, by decide, ?_⟩
  have g2 := g1.put (putF "_numbers" (.ref b) [])
  have ha2 : SqH (upd H1 x (.ins S dx (putF "_numbers" (.ref b) []))) a xs := by
    unfold SqH
    rw [upd_ne xa]
    exact ha1
  generalize upd H1 x (.ins S dx (putF "_numbers" (.ref b) [])) = H2 at g2 ha2
  refine ⟨_, rfl, a, _, rfl, ha2.imp SqL.of SqT.of, _, rfl, x, S, dx, _, rfl, g2.hx, c, n2, (by show 1 < 1000; decide), ?_⟩
  have g3 := g2.put (putF "order" (.int ((xs.length : Nat) : Int)) (putF "_numbers" (.ref b) []))
  generalize upd H2 x (.ins S dx (putF "order" (.int ((xs.length : Nat) : Int)) (putF "_numbers" (.ref b) []))) = H3 at g3
  obtain ⟨x0, e0, m0⟩ := g3.nx.get' (i := 0) (by omega)
  refine ⟨_, rfl, x, S, dx, _, _, rfl, g3.hx, c, n1, rfl, b, xs, 0, x0, rfl, rfl, SqL.of g3.hb, at_of (j := 0) rfl e0, _, rfl, x, S, dx, _, rfl, g3.hx, c, n3, (by show 2 < 1000; decide), ?_⟩
  rw [lq] at g3 ⊢
  generalize hln : (((qs.length : Nat)) : Int) = ln at g3
  have g4 := g3.put (putF "lead" x0 (putF "order" (.int ln) (putF "_numbers" (.ref b) [])))
  generalize upd H3 x (.ins S dx (putF "lead" x0 (putF "order" (.int ln) (putF "_numbers" (.ref b) [])))) = H4 at g4
  refine ⟨_, rfl, x, S, dx, _, _, rfl, g4.hx, c, n1, rfl, .ref b, qs, rfl, ⟨b, xs, rfl, g4.hb, g4.nx⟩, by omega, by omega, fun H5 s5 => ?_⟩
  have g5 := g4.go s5
  refine ⟨_, rfl, x, S, dx, _, rfl, g5.hx, c, n4, (by show 3 < 1000; decide), ?_⟩
  generalize hkd : kindS qs = kd
  have g6 := g5.put (putF "kind" (.str kd) (putF "lead" x0 (putF "order" (.int ln) (putF "_numbers" (.ref b) []))))
  generalize upd H5 x (.ins S dx (putF "kind" (.str kd) (putF "lead" x0 (putF "order" (.int ln) (putF "_numbers" (.ref b) []))))) = H6 at g6
  refine ⟨_, rfl, x, S, dx, _, _, rfl, g6.hx, c, n1, rfl, .ref b, qs, 1, rfl, ⟨b, xs, rfl, g6.hb, g6.nx⟩, fun H7 s7 => ?_⟩
  have g7 := g6.go s7
  refine ⟨_, rfl, x, S, dx, _, rfl, g7.hx, c, n5, (by show 4 < 1000; decide), ?_⟩
  generalize hhv : hgtV qs 1 = hv
  have g8 := g7.put (putF "height" hv (putF "kind" (.str kd) (putF "lead" x0 (putF "order" (.int ln) (putF "_numbers" (.ref b) [])))))
  generalize upd H7 x (.ins S dx (putF "height" hv (putF "kind" (.str kd) (putF "lead" x0 (putF "order" (.int ln) (putF "_numbers" (.ref b) [])))))) = H8 at g8
  refine ⟨_, rfl, x, S, dx, _, rfl, g8.hx, c, n6, (by show 5 < 1000; decide), ?_⟩
  have g9 := g8.put (putF "flat" .non (putF "height" hv (putF "kind" (.str kd) (putF "lead" x0 (putF "order" (.int ln) (putF "_numbers" (.ref b) []))))))
  generalize upd H8 x (.ins S dx (putF "flat" .non (putF "height" hv (putF "kind" (.str kd) (putF "lead" x0 (putF "order" (.int ln) (putF "_numbers" (.ref b) []))))))) = H9 at g9
  refine ⟨_, rfl, x, S, dx, _, rfl, g9.hx, c, n7, (by show 6 < 1000; decide), ?_⟩
  have g10 : Stg K H (upd H9 x (.ins S dx (stF b ln x0 kd hv .non .non))) x S dx (stF b ln x0 kd hv .non .non) b xs qs := g9.put _
  refine ⟨fun σ H' => σ = [some (.ref x), some (.ref a)] ∧ ∃ fv sv, Stg K H H' x S dx (stF b ln x0 kd hv fv sv) b xs qs, ?_, ?_⟩
  · change Stg K H (upd H9 x (.ins S dx (putF "strength" .non (putF "flat" .non (putF "height" hv (putF "kind" (.str kd) (putF "lead" x0 (putF "order" (.int ln) (putF "_numbers" (.ref b) [])))))))))  x S dx (stF b ln x0 kd hv .non .non) b xs qs at g10
    generalize upd H9 x (.ins S dx (putF "strength" .non (putF "flat" .non (putF "height" hv (putF "kind" (.str kd) (putF "lead" x0 (putF "order" (.int ln) (putF "_numbers" (.ref b) [])))))))) = H10 at g10
    refine ⟨_, rfl, x, S, dx, _, _, rfl, g10.hx, c, n4, rfl, rfl, _, rfl, ite2 (fun e => ?_) (fun _ => ⟨rfl, _, _, g10⟩)⟩
    have ek : kindS qs = "creep" := by rw [hkd]; exact V.str.inj (of_decide_eq_true e)
    obtain ⟨k, hk, ek2⟩ := hgtN_ex (qs.drop 1) 0 (kind_creep ek)
    rw [List.length_drop] at hk
    refine ⟨_, rfl, x, S, dx, _, _, rfl, g10.hx, c, n1, rfl, 1, rfl, b, _, rfl, SqL.of g10.hb, fun p np => ?_⟩
    have ec : cutV xs (some 1) none = xs.drop 1 := cut_drop xs 1
    rw [ec]
    have s11 := new_same np (.lst (xs.drop 1))
    have g11 := g10.go s11
    refine ⟨.ref p, qs.drop 1, 1, rfl, ⟨p, _, rfl, upd_same, g11.nx.drop 1⟩, fun H12 s12 => ?_⟩
    have g12 := g11.go s12
    have ev : hgtV (qs.drop 1) 1 = .int (1 + (k : Nat)) := by
      unfold hgtV
      rw [ek2, Nat.zero_add]
    rw [ev]
    refine ⟨_, rfl, x, S, dx, _, rfl, g12.hx, c, n6, (by show 7 < 1000; decide), ?_⟩
    have g13 : Stg K H (upd H12 x (.ins S dx (putF "flat" (.int (1 + (k : Nat))) (stF b ln x0 kd hv .non .non)))) x S dx (stF b ln x0 kd hv (.int (1 + (k : Nat))) .non) b xs qs := g12.put _
    generalize upd H12 x (.ins S dx (putF "flat" (.int (1 + (k : Nat))) (stF b ln x0 kd hv .non .non))) = H13 at g13
    have e3 := List.getElem?_eq_getElem (l := xs) (i := 1 + k) (by omega)
    refine ⟨_, rfl, x, S, dx, _, _, rfl, g13.hx, c, n1, rfl, _, rfl, x, S, dx, _, _, rfl, g13.hx, c, n6, rfl, b, xs, _, _, rfl, rfl, SqL.of g13.hb, at_of (j := 1 + k) (by omega) e3, _, rfl, x, S, dx, _, rfl, g13.hx, c, n7, (by show 7 < 1000; decide), ?_⟩
    exact ⟨rfl, _, _, g13.put _⟩
  · rintro σ H10 ⟨rfl, fv, sv, g10⟩
    have fin : ∀ H' fv sv, Stg K H H' x S dx (stF b ln x0 kd hv fv sv) b xs qs → Q .non H' := fun H' fv sv z => by
      refine g H' b x0 fv sv e0 z.u nb ?_ z.hb
      rw [hln, hkd, hhv]
      exact z.hx
    refine ⟨_, rfl, x, S, dx, _, _, rfl, g10.hx, c, n4, rfl, rfl, _, rfl, ite2 (fun e => ?_) (fun _ => fin _ _ _ g10)⟩
    have ek : kindS qs = "crush" := by rw [hkd]; exact V.str.inj (of_decide_eq_true e)
    obtain ⟨k, hk, ek2⟩ := hgtN_ex qs 0 (kind_crush ek)
    have ev : hv = .int (1 + (k : Nat)) := by
      rw [← hhv]
      unfold hgtV
      rw [ek2, Nat.zero_add]
    have e3 := List.getElem?_eq_getElem (l := xs) (i := k) (by omega)
    refine ⟨_, rfl, x, S, dx, _, _, rfl, g10.hx, c, n1, rfl, _, rfl, x, S, dx, _, _, rfl, g10.hx, c, n5, rfl, 1 + (k : Nat), 1, ev, rfl, b, xs, _, _, rfl, rfl, SqL.of g10.hb, at_of (j := k) (by omega) e3, _, rfl, x, S, dx, _, rfl, g10.hx, c, n7, (by show 7 < 1000; decide), ?_⟩
    exact fin _ fv _ (g10.put _)
end
end Kx
end
section
set_option maxHeartbeats 4000000
namespace Kx
open PySem PySem.Spec PyProof.Rows L2
/-! ### operators of own classes -/
theorem ep_cmp {X : Cx} {pins : List (Addr × Obj)} {σ : L2.St} {Q : VK} {u : Value} {s' : Shared} (h : EP X pins σ Q u s') : PySem.W.CmpBack (EP X pins σ Q) u s' := by
  obtain ⟨v, H', I, r, q⟩ := h
  have key : u ≠ .notImplemented := by
    rintro rfl
    cases v <;> first | (obtain ⟨_, z⟩ := r; cases z) | cases r
  have fin : EP X pins σ Q u s' := ⟨v, H', I, r, q⟩
  cases u <;> first | exact fin | exact absurd rfl key
/-- an operator's method of a class -/
structure OpM (P : Program) (w : World) (K : PySem.W.Frag) (mg : Str → Option Value) (base : Heap) (CX : CXT) (k : Nat) (C : Addr) (nm : Str) (sp : Sp) : Prop where
  ex : ∃ (g : Addr) (fd : FuncData) (ps : List Str), PySem.W.findIn K (.ref C) nm = some (some (.ref g)) ∧ PySem.W.isFn K (.ref g) = true ∧ FnOk P w K mg base CX k g fd ps sp ∧ Binds K fd ps []
  sf : PySem.W.selfFirst K C = true
def rBin (C : Addr) (sp : Sp) (E : XK) : R2 := fun x y H Q => ∃ (a b dx dy : Addr) (fs gs : List (Str × V)), x = .ref a ∧ y = .ref b ∧ H a = some (.ins C dx fs) ∧ H b = some (.ins C dy gs) ∧ sp [x, y] H Q E
section
variable {X : Cx} {CX : CXT} {k : Nat} {C : Addr} {sp : Sp} {E : XK}
theorem op_bin {op : Operator} {nm : Str} (O : OpM X.prog X.w X.K X.mg X.base CX k C nm sp) (hn : PySem.dunder op.info.2 = nm) (hr : Room k X.A) (hx : Passes CX X E) : OpR X (binaryOp op) (rBin C sp E) := by
  intro pins s σ H x y v u Q I rx ry h
  obtain ⟨a, b, dx, dy, fs, gs, rfl, rfl, ha, hb', hsp⟩ := h
  obtain ⟨g, fd, ps, h1, h2, F, hb⟩ := O.ex
  cases rx
  cases ry
  obtain ⟨mA, J, _⟩ := ins_get I.hok ha
  obtain ⟨mB, J', _⟩ := ins_get I.hok hb'
  obtain ⟨od, J, _⟩ := J.look
  obtain ⟨od', J', _⟩ := J'.look
  obtain ⟨m, hF⟩ := I.fr
  refine PySem.W.binop_K (op := op) hF I.ok.mod.kin J J'.type O.sf (by rw [hn]; exact h1) h2 ?_
  exact wpAny_mono (run_fn (us := [.ref a, .ref b]) (vs := [.ref a, .ref b]) F hr hb .nil hx I (.cons rfl (.cons rfl .nil)) (by rw [List.append_nil]; exact hsp)) (fun r s' hq => ep_cmp hq) fun _ _ z => z
def rUnO (C : Addr) (sp : Sp) (E : XK) : V → Hp → VK → Prop := fun x H Q => ∃ (a dx : Addr) (fs : List (Str × V)), x = .ref a ∧ H a = some (.ins C dx fs) ∧ sp [x] H Q E
theorem un_own (O : OpM X.prog X.w X.K X.mg X.base CX k C "__neg__" sp) (hr : Room k X.A) (hx : Passes CX X E) : UnR X (unaryOp .USub) (rUnO C sp E) := by
  intro pins s σ H x v Q I rx h
  obtain ⟨a, dx, fs, rfl, ha, hsp⟩ := h
  obtain ⟨g, fd, ps, h1, h2, F, hb⟩ := O.ex
  cases rx
  obtain ⟨mA, J, _⟩ := ins_get I.hok ha
  obtain ⟨od, J, _⟩ := J.look
  obtain ⟨m, hF⟩ := I.fr
  refine PySem.W.ksp_neg hF I.ok.mod.kin J h1 h2 ?_
  exact run_fn (us := [.ref a]) (vs := [.ref a]) F hr hb .nil hx I (.cons rfl .nil) (by rw [List.append_nil]; exact hsp)
/-- ==, the left one of the class -/
def rEqO (K : PySem.W.Frag) (C : Addr) (sp : Sp) (E : XK) : R2 := fun x y H Q => ∃ (a dx : Addr) (fs : List (Str × V)) (t : Value), x = .ref a ∧ H a = some (.ins C dx fs) ∧ TyX K H y t ∧ PySem.W.notFirst K C t = true ∧ sp [x, y] H Q E
theorem op_eqO (O : OpM X.prog X.w X.K X.mg X.base CX k C "__eq__" sp) (hr : Room k X.A) (hx : Passes CX X E) : OpR X (compareOp .Eq) (rEqO X.K C sp E) := by
  intro pins s σ H x y v u Q I rx ry h
  obtain ⟨a, dx, fs, t, rfl, ha, ty, nf, hsp⟩ := h
  obtain ⟨g, fd, ps, h1, h2, F, hb⟩ := O.ex
  cases rx
  obtain ⟨mA, J, _⟩ := ins_get I.hok ha
  obtain ⟨od, J, _⟩ := J.look
  obtain ⟨m, hF⟩ := I.fr
  obtain ⟨Pp, Z, pp, _⟩ := kit_of I ry ty
  show wpAny (model X.prog X.w) X.A (richCompare .Eq (.ref a) u) (EP X pins σ Q) X.xe s
  refine PySem.W.cmp_K (op := .Eq) (tb := t) hr.units0 hF I.ok.mod.kin J (Z.ty _ _ I.kIn pp) nf h1 h2 ?_
  exact wpAny_mono (run_fn (us := [.ref a, u]) (vs := [.ref a, y]) F hr hb .nil hx I (.cons rfl (.cons ry .nil)) (by rw [List.append_nil]; exact hsp)) (fun r s' hq => ep_cmp hq) fun _ _ z => z
/-- len(x), x of the class -/
def rLenO (C : Addr) (sp : Sp) (E : XK) : List V → Hp → VK → Prop := fun xs H Q => ∃ (a dx : Addr) (fs : List (Str × V)), xs = [.ref a] ∧ H a = some (.ins C dx fs) ∧ sp [.ref a] H (fun v H' => ∃ n : Nat, v = .int (n : Nat) ∧ n < 2 ^ 62 ∧ Q (.int (n : Nat)) H') E
theorem call_lenO (O : OpM X.prog X.w X.K X.mg X.base CX k C "__len__" sp) (hr : Room (k + 1) X.A) (hx : Passes CX X E) : CallR X (.builtin "len") (rLenO C sp E) := by
  intro pins s σ H xs us Q I r h
  obtain ⟨a, dx, fs, rfl, ha, hsp⟩ := h
  obtain ⟨g, fd, ps, h1, h2, F, hb⟩ := O.ex
  obtain rfl : us = [.ref a] := Vals.ref1 r
  obtain ⟨mA, J, _⟩ := ins_get I.hok ha
  obtain ⟨od, J, _⟩ := J.look
  obtain ⟨m, hF⟩ := I.fr
  refine PySem.W.len_K hF I.ok.mod.kin J h1 h2 ?_
  have hl := F.len _ _ _ _ hsp
  refine wpAny_call (codeAny_mono (F.run X.A.in1 X.stack s H ⟨[.ref a], []⟩ [.ref a] [.ref a] _ E hr.in1 I.env0.in1 (by
    have := hb s [.ref a] I.kIn (by simpa using hl)
    simpa using this) (.cons rfl .nil) hsp) fun r s' hq => ?_)
  cases r with
  | error e => exact hx pins σ H s e s' I hq
  | ok fl =>
    cases fl with
    | ret w =>
      obtain ⟨z, H', I', rz, n, ez, nb, q⟩ := I.after hq
      subst ez
      obtain ⟨t, rfl⟩ := rz
      exact ⟨⟨by omega, by omega⟩, .int _, H', I'.tok _, ⟨_, rfl⟩, q⟩
    | next => exact False.elim hq
    | brk => exact False.elim hq
    | cont => exact False.elim hq
end
/-! ### methods as they are used -/
structure MUse (P : Program) (w : World) (K : PySem.W.Frag) (mg : Str → Option Value) (base : Heap) (CX : CXT) (k : Nat) (C : Addr) (m : Str) (ps : List Str) (sp : Sp) (kws : List (List Str)) : Prop where
  ex : ∃ (g : Addr) (fd : FuncData), Meth K C m g ∧ FnOk P w K mg base CX k g fd ps sp ∧ Binds K fd ps [] ∧ ∀ ks ∈ kws, KBn K fd ps 1 ks appB appA
  c : Cls K C
section
variable {X : Cx} {CX : CXT} {k : Nat} {C : Addr} {m : Str} {ps ks : List Str} {sp : Sp} {E : XK} {kl : List (List Str)} {o e : Expr} {es : List Expr} {ta : TE} {t tk : TA} {apos pos : Pos} {kws : List Keyword} {pl : Sem Bool}
theorem pe_mu (U : MUse X.prog X.w X.K X.mg X.base CX k C m ps sp kl) (he : PE X o ta) (hr : Room k X.A) (hx : Passes CX X E) (ha : PA X (e :: es) t)
    (hst : starEach (e :: es) X.env = (false, eval e X.env) :: starEach es X.env := by rfl) (hpl : (backTo pos (starEach es X.env)).any (·.1) = false := by rfl)
    (ht : eval (.Call (.Attribute o m apos) (e :: es) [] pos) X.env = (do
      let ov ← eval o X.env
      standAt apos.atName
      let (f, first) ← holding [ov] (getMethod ov m pl)
      callWith pos f first (backTo pos (starEach (e :: es) X.env)) (backToKw pos (keywordEach [] X.env))) := by rfl) :
    PE X (.Call (.Attribute o m apos) (e :: es) [] pos) (tMeth C m sp [] E ta t) := by
  obtain ⟨g, fd, hm, F, hb, _⟩ := U.ex
  exact pe_meth (pl := pl) he U.c hm F hr hb .nil hx ha hst hpl ht
theorem pe_mu0 (U : MUse X.prog X.w X.K X.mg X.base CX k C m ps sp kl) (he : PE X o ta) (hr : Room k X.A) (hx : Passes CX X E)
    (ht : eval (.Call (.Attribute o m apos) [] [] pos) X.env = (do
      let ov ← eval o X.env
      standAt apos.atName
      let (f, first) ← holding [ov] (getMethod ov m pl)
      callWith pos f first (backTo pos (starEach [] X.env)) (backToKw pos (keywordEach [] X.env))) := by rfl) :
    PE X (.Call (.Attribute o m apos) [] [] pos) (tMeth C m sp [] E ta tNil) := by
  obtain ⟨g, fd, hm, F, hb, _⟩ := U.ex
  exact pe_meth0 (pl := pl) he U.c hm F hr hb .nil hx ht
/-- o.m(k = v, ..), keywords alone -/
def tMethR (C : Addr) (m : Str) (n : Nat) (sp : Sp) (E : XK) (ta : TE) (tk : TA) : TE := fun σ H Q => ta σ H fun x H1 => ∃ a dx fs, x = .ref a ∧ H1 a = some (.ins C dx fs) ∧ fs.lookup m = none ∧ tk σ H1 fun zs H2 => zs.length = n ∧ sp (x :: zs) H2 Q E
theorem pe_muR (U : MUse X.prog X.w X.K X.mg X.base CX k C m ps sp kl) (he : PE X o ta) (hr : Room k X.A) (hx : Passes CX X E) (hkw : PK X kws tk) (hin : ks ∈ kl)
    (hall : (backToKw pos (keywordEach kws X.env)).all (·.1.isSome) = true := by rfl) (hks : (backToKw pos (keywordEach kws X.env)).filterMap (·.1) = ks := by rfl)
    (hpl : ((backTo pos (starEach [] X.env)).any (·.1) || (backToKw pos (keywordEach kws X.env)).any (·.1.isNone)) = false := by rfl)
    (ht : eval (.Call (.Attribute o m apos) [] kws pos) X.env = (do
      let ov ← eval o X.env
      standAt apos.atName
      let (f, first) ← holding [ov] (getMethod ov m pl)
      callWith pos f first (backTo pos (starEach [] X.env)) (backToKw pos (keywordEach kws X.env))) := by rfl) :
    PE X (.Call (.Attribute o m apos) [] kws pos) (tMethR C m ks.length sp E ta tk) := by
  obtain ⟨g, fd, hm, F, _, hK⟩ := U.ex
  have hb := hK ks hin
  refine ⟨fun pins s σ H Q I h => ?_⟩
  refine PySem.W.methodCall_KW (pl := pl) (thn (he.run pins s σ H _ I h) fun u s1 ⟨x, H1, I1, rx, a, dx, fs, ex, ea, l, q⟩ => ?_) ht
  subst ex
  obtain rfl : u = Value.ref a := rx
  refine getmeth_ok I1 ea U.c hm l ?_
  refine PySem.W.callWith_KW0 (first := [.ref a]) (h₀ := X.base) I.ok.mod.kin hm.kp hall ?_ hpl
  refine thn (hkw.run pos pins s1 σ H1 _ I1 q) fun ws s2 ⟨zs, H2, I2, rz, l2, q2⟩ => ⟨I2.kIn, ?_⟩
  rw [hks]
  exact run_fnN (us := [.ref a]) (vs := [.ref a]) F hr hb hx I2 (.cons rfl .nil) rz rfl l2 q2
end
structure CSta (K : PySem.W.Frag) (C : Addr) (mc : Value) (m : Str) (p g : Addr) : Prop where
  at_ : PySem.W.findCls K (.ref C) mc m = some (.get (.builtin "staticmethod.__get__") (.ref p) .none (.ref C))
  rc : ∃ rest, PySem.W.recIn K p "staticmethod" = some (.ref g :: rest)
  kp : PySem.W.keepIn K (.ref g) = true
def tStat (C : Addr) (sp : Sp) (E : XK) (ta : TE) (t : TA) : TE := fun σ H Q => ta σ H fun x H1 => x = .ref C ∧ t σ H1 fun vs H2 => sp vs H2 Q E
section
variable {X : Cx} {CX : CXT} {k : Nat} {C p g : Addr} {mc : Value} {fd : FuncData} {ps : List Str} {sp : Sp} {E : XK} {o e : Expr} {es : List Expr} {m : Str} {pos apos : Pos} {ta : TE} {t : TA} {pl : Sem Bool}
theorem pe_static (he : PE X o ta) (r : ClX.CRead X.K C mc) (c : CSta X.K C mc m p g) (F : FnOk X.prog X.w X.K X.mg X.base CX k g fd ps sp) (hr : Room k X.A) (hb : Binds X.K fd ps []) (hx : Passes CX X E) (ha : PA X (e :: es) t)
    (hst : starEach (e :: es) X.env = (false, eval e X.env) :: starEach es X.env := by rfl) (hpl : (backTo pos (starEach es X.env)).any (·.1) = false := by rfl)
    (ht : eval (.Call (.Attribute o m apos) (e :: es) [] pos) X.env = (do
      let ov ← eval o X.env
      standAt apos.atName
      let (f, first) ← holding [ov] (getMethod ov m pl)
      callWith pos f first (backTo pos (starEach (e :: es) X.env)) (backToKw pos (keywordEach [] X.env))) := by rfl) :
    PE X (.Call (.Attribute o m apos) (e :: es) [] pos) (tStat C sp E ta t) := by
  refine ⟨fun pins s σ H Q I h => ?_⟩
  refine PySem.W.methodCall_KW (pl := pl) (thn (he.run pins s σ H _ I h) fun u s1 ⟨x, H1, I1, rx, ex, q⟩ => ?_) ht
  subst ex
  obtain rfl : u = Value.ref C := rx
  obtain ⟨rest, hp⟩ := c.rc
  refine PySem.W.method_cls I1.kIn r.ga (PySem.W.cls_bind I1.kIn r.rd c.at_ (wpAny_call (PySem.W.sm_get (s := { s1 with toks := s1.toks + 1 }) I1.kIn hp (PySem.W.handed_on rfl ?_))))
  have I2 : Inv X pins σ H1 { s1 with toks := s1.toks + 1 } := I1.tok _
  refine PySem.W.callWith_K (h₀ := X.base) I2.ok.mod.kin c.kp (thn (ha.run pos pins _ σ H1 _ I2 q) fun us s3 ⟨vs, H2, I3, rv, q2⟩ => ⟨I3.kIn, ?_⟩) hst hpl
  exact run_fn F hr hb .nil hx I3 rv (by rw [List.append_nil]; exact q2)
end
/-- C.m(k = v, ..) of a staticmethod, keywords alone -/
def tStatR (C : Addr) (n : Nat) (sp : Sp) (E : XK) (ta : TE) (t : TA) : TE := fun σ H Q => ta σ H fun x H1 => x = .ref C ∧ t σ H1 fun zs H2 => zs.length = n ∧ sp zs.reverse H2 Q E
section
variable {X : Cx} {CX : CXT} {k : Nat} {C p g : Addr} {mc : Value} {fd : FuncData} {ps ks : List Str} {sp : Sp} {E : XK} {o : Expr} {m : Str} {pos apos : Pos} {ta : TE} {tk : TA} {pl : Sem Bool} {kws : List Keyword}
theorem pe_staticR (he : PE X o ta) (r : ClX.CRead X.K C mc) (c : CSta X.K C mc m p g) (F : FnOk X.prog X.w X.K X.mg X.base CX k g fd ps sp) (hr : Room k X.A) (hb : KBn X.K fd ps 0 ks revB revA) (hx : Passes CX X E) (hkw : PK X kws tk)
    (hall : (backToKw pos (keywordEach kws X.env)).all (·.1.isSome) = true := by rfl) (hks : (backToKw pos (keywordEach kws X.env)).filterMap (·.1) = ks := by rfl)
    (hpl : ((backTo pos (starEach [] X.env)).any (·.1) || (backToKw pos (keywordEach kws X.env)).any (·.1.isNone)) = false := by rfl)
    (ht : eval (.Call (.Attribute o m apos) [] kws pos) X.env = (do
      let ov ← eval o X.env
      standAt apos.atName
      let (f, first) ← holding [ov] (getMethod ov m pl)
      callWith pos f first (backTo pos (starEach [] X.env)) (backToKw pos (keywordEach kws X.env))) := by rfl) :
    PE X (.Call (.Attribute o m apos) [] kws pos) (tStatR C ks.length sp E ta tk) := by
  refine ⟨fun pins s σ H Q I h => ?_⟩
  refine PySem.W.methodCall_KW (pl := pl) (thn (he.run pins s σ H _ I h) fun u s1 ⟨x, H1, I1, rx, ex, q⟩ => ?_) ht
  subst ex
  obtain rfl : u = Value.ref C := rx
  obtain ⟨rest, hp⟩ := c.rc
  refine PySem.W.method_cls I1.kIn r.ga (PySem.W.cls_bind I1.kIn r.rd c.at_ (wpAny_call (PySem.W.sm_get (s := { s1 with toks := s1.toks + 1 }) I1.kIn hp (PySem.W.handed_on rfl ?_))))
  have I2 : Inv X pins σ H1 { s1 with toks := s1.toks + 1 } := I1.tok _
  refine PySem.W.callWith_KW0 (h₀ := X.base) I2.ok.mod.kin c.kp hall ?_ hpl
  refine thn (hkw.run pos pins _ σ H1 _ I2 q) fun ws s3 ⟨zs, H2, I3, rz, l2, q2⟩ => ⟨I3.kIn, ?_⟩
  rw [hks]
  exact run_fnN (us := []) (vs := []) F hr hb hx I3 .nil rz rfl l2 q2
end
end Kx
end
section
set_option maxHeartbeats 4000000
namespace Kx
open PySem PySem.Spec PyProof.Rows L2 RZ
/-! ### lists of numbers as data -/
def datL (qs : List Rat) : PyData := .list (qs.map tupQ)
theorem dpAll : ∀ {K : PySem.W.Frag} {H : Hp} {xs : List V} {qs : List Rat}, Nl K H xs qs → DpAll K H xs (qs.map tupQ)
  | _, _, [], [], _ => .nil
  | _, _, [], _ :: _, h => by cases h.1
  | _, _, _ :: _, [], h => by cases h.1
  | _, _, x :: xs, q :: qs, h => .cons (h.2 0 x q rfl rfl).dp (dpAll h.tail)
theorem Nl.dp {K : PySem.W.Frag} {H : Hp} {b : Addr} {xs : List V} {qs : List Rat} (h : Nl K H xs qs) (e : H b = some (.lst xs)) : Dp K H (.ref b) (datL qs) := .lst (SqL.of e) (dpAll h)
theorem eqvA_num : ∀ qs rs : List Rat, PyData.eqvAll (qs.map tupQ) (rs.map tupQ) = decide (qs = rs)
  | [], [] => rfl
  | [], _ :: _ => by simp [PyData.eqvAll]
  | _ :: _, [] => by simp [PyData.eqvAll]
  | q :: qs, r :: rs => by
    show (PyData.eqv (tupQ q) (tupQ r) && PyData.eqvAll (qs.map tupQ) (rs.map tupQ)) = _
    rw [eqv_num, eqvA_num qs rs]
    by_cases c : q = r
    · by_cases d : qs = rs
      · simp [c, d]
      · simp [c, d]
    · simp [c]
theorem eqv_list (qs rs : List Rat) : PyData.eqv (datL qs) (datL rs) = decide (qs = rs) := by
  show PyData.eqvAll _ _ = _
  exact eqvA_num qs rs
theorem lay_num : ∀ qs : List Rat, PyData.canLayAll0 (qs.map tupQ) = true ∧ PyData.depthAll (qs.map tupQ) ≤ 1
  | [] => ⟨rfl, by decide⟩
  | q :: qs => by
    obtain ⟨h1, h2⟩ := lay_num qs
    constructor
    · show (PyData.canLay0 (tupQ q) && PyData.canLayAll0 (qs.map tupQ)) = true
      rw [h1]
      rfl
    · show max (PyData.depth (tupQ q)) (PyData.depthAll (qs.map tupQ)) ≤ 1
      have : PyData.depth (tupQ q) = 1 := rfl
      omega
theorem shaped_list (qs : List Rat) : SeqAt.shaped (datL qs) = true := by
  obtain ⟨h1, h2⟩ := lay_num qs
  unfold SeqAt.shaped
  rw [Bool.and_eq_true]
  refine ⟨h1, decide_eq_true ?_⟩
  show PyData.depthAll (qs.map tupQ) + 1 ≤ 64
  omega
end Kx
end
section
set_option maxHeartbeats 4000000
namespace Kx
open PySem PySem.Spec PyProof.Rows L2 RZ
variable {nb : Nat}
theorem But.free {B p a : Addr} {H H' : Hp} (u : But B H H') (b : Bag nb H' B p) (h : H' a = none) : H a = none := by
  obtain ⟨_, _, _, _, _, h1, _⟩ := b.ex
  cases e : H a with
  | none => rfl
  | some o =>
    have z := u a o (fun y => by rw [y, h1] at h; cases h) e
    rw [h] at z
    cases z
theorem Bag.put {H : Hp} {B p a : Addr} {o : HO} (b : Bag nb H B p) (h : H a = none) : Bag nb (upd H a o) B p := b.same (new_same h o)
theorem Bag.at {H : Hp} {B p : Addr} (b : Bag nb H B p) {a : Addr} (h : H a = none) : a ≠ B ∧ a ≠ p := by
  obtain ⟨_, _, _, _, _, h1, h2, _⟩ := b.ex
  refine ⟨fun e => ?_, fun e => ?_⟩
  · rw [e, h1] at h
    cases h
  · rw [e, h2] at h
    cases h
/-- all but the bag and the tables stand -/
def Go (B : Addr) (H H' : Hp) : Prop := ∀ b o, b ≠ B → (∀ ps, o ≠ .tbl ps) → H b = some o → H' b = some o
theorem Go.of {B : Addr} {H H' : Hp} (h : But B H H') : Go B H H' := fun b o n _ e => h b o n e
theorem Go.ext {B : Addr} {H H' : Hp} (h : LamX.ExtN H H') : Go B H H' := fun b o _ t e => h b o e t
theorem Go.trans {B : Addr} {H H1 H2 : Hp} (a : Go B H H1) (b : Go B H1 H2) : Go B H H2 := fun x o n t h => b x o n t (a x o n t h)
theorem Bag.ext {H H' : Hp} {B p : Addr} (b : Bag nb H B p) (h : LamX.ExtN H H') : Bag nb H' B p := by
  obtain ⟨ns, i, r, sd, c, h1, h2, h3⟩ := b.ex
  exact ⟨ns, i, r, sd, c, h _ _ h1 (fun ps z => by cases z), h _ _ h2 (fun ps z => by cases z), h3⟩
theorem tabs_but {T : List (Addr × Str)} {H H' : Hp} {B p : Addr} (t : LamX.Tabs T H) (b : Bag nb H B p) (u : But B H H') : LamX.Tabs T H' := by
  obtain ⟨ns, i, r, sd, c, h1, _⟩ := b.ex
  intro q hq
  obtain ⟨ps, e1, e2, e3⟩ := t q hq
  refine ⟨ps, u _ _ (fun z => ?_) e1, e2, fun pos cv hc => ?_⟩
  · rw [z, h1] at e1
    cases e1
  · obtain ⟨c0, z1, z2⟩ := e3 pos cv hc
    refine ⟨c0, z1, u _ _ (fun z => ?_) z2⟩
    rw [z, h1] at z2
    cases z2
theorem Go.same {B : Addr} {H H' : Hp} (h : Same H H') : Go B H H' := Go.of (But.same h)
theorem Go.refl {B : Addr} {H : Hp} : Go B H H := fun _ _ _ _ h => h
section
variable {K : PySem.W.Frag} {H H' : Hp} {B p : Addr}
theorem Nq.go {v : V} {q : Rat} (h : Nq K H v q) (b : Bag nb H B p) (s : Go B H H') : Nq K H' v q := by
  obtain ⟨a, e, h⟩ := h
  obtain ⟨ns, i, r, sd, c, hb, _⟩ := b.ex
  refine ⟨a, e, h.imp (fun h => s _ _ (fun z => ?_) (fun ps z => by cases z) h) id⟩
  rw [z, hb] at h
  cases h
theorem Nl.go {xs : List V} {qs : List Rat} (h : Nl K H xs qs) (b : Bag nb H B p) (s : Go B H H') : Nl K H' xs qs := ⟨h.1, fun i x q h1 h2 => (h.2 i x q h1 h2).go b s⟩
/-- a list of numbers is not the bag -/
theorem Nl.ne {xs : List V} {qs : List Rat} {a : Addr} (h : Nl K H xs qs) (l : 2 ≤ qs.length) (ha : H a = some (.lst xs)) (b : Bag nb H B p) : a ≠ B := by
  rintro rfl
  obtain ⟨ns, i, r, sd, c, hb, _⟩ := b.ex
  rw [ha] at hb
  have e : xs = bagL p i r sd c := by
    have := Option.some.inj hb
    exact HO.lst.inj this
  obtain ⟨x, ex, n⟩ := h.get' (i := 1) (by omega)
  rw [e] at ex
  have e2 : V.int i = x := Option.some.inj (show some (V.int i) = some x from ex)
  obtain ⟨a', e3, _⟩ := n
  rw [← e2] at e3
  cases e3
theorem Ls.go {v : V} {qs : List Rat} (h : Ls K H v qs) (l : 2 ≤ qs.length) (b : Bag nb H B p) (s : Go B H H') : Ls K H' v qs := by
  obtain ⟨a, xs, e, h1, h2⟩ := h
  exact ⟨a, xs, e, s _ _ (h2.ne l h1 b) (fun ps z => by cases z) h1, h2.go b s⟩
theorem ins_go {x C dx : Addr} {fs : List (Str × V)} (h : H x = some (.ins C dx fs)) (b : Bag nb H B p) (s : Go B H H') : H' x = some (.ins C dx fs) := by
  obtain ⟨ns, i, r, sd, c, hb, _⟩ := b.ex
  refine s _ _ (fun z => ?_) (fun ps z => by cases z) h
  rw [z, hb] at h
  cases h
theorem tup_go {x : Addr} {xs : List V} (h : H x = some (.tup xs)) (b : Bag nb H B p) (s : Go B H H') : H' x = some (.tup xs) := by
  obtain ⟨ns, i, r, sd, c, hb, _⟩ := b.ex
  refine s _ _ (fun z => ?_) (fun ps z => by cases z) h
  rw [z, hb] at h
  cases h
theorem lst_go {x : Addr} {xs : List V} (h : H x = some (.lst xs)) (n : xs.length ≠ 5) (b : Bag nb H B p) (s : Go B H H') : H' x = some (.lst xs) := by
  obtain ⟨ns, i, r, sd, c, hb, _⟩ := b.ex
  refine s _ _ (fun z => ?_) (fun ps z => by cases z) h
  rw [z, hb] at h
  have e := HO.lst.inj (Option.some.inj h)
  rw [← e] at n
  exact n rfl
theorem StAt.go {S : Addr} {v : V} {qs : List Rat} (h : StAt K S H v qs) (b : Bag nb H B p) (s : Go B H H') : StAt K S H' v qs := by
  obtain ⟨x, dx, c, xs, x0, fv, sv, e, h1, h2, h3, h4, h5, h6⟩ := h
  exact ⟨x, dx, c, xs, x0, fv, sv, e, ins_go h1 b s, s _ _ (h3.ne (by omega) h2 b) (fun ps z => by cases z) h2, h3.go b s, h4, h5, h6⟩
theorem Nq.ext {v : V} {q : Rat} (h : Nq K H v q) (s : LamX.ExtN H H') : Nq K H' v q := by
  obtain ⟨a, e, n⟩ := h
  exact ⟨a, e, n.imp (fun n => s _ _ n (fun ps z => by cases z)) id⟩
theorem Nl.ext {xs : List V} {qs : List Rat} (h : Nl K H xs qs) (s : LamX.ExtN H H') : Nl K H' xs qs := ⟨h.1, fun i y q a b => (h.2 i y q a b).ext s⟩
theorem Ls.ext {v : V} {qs : List Rat} (h : Ls K H v qs) (s : LamX.ExtN H H') : Ls K H' v qs := by
  obtain ⟨a, xs, e, h1, h2⟩ := h
  exact ⟨a, xs, e, s _ _ h1 (fun ps z => by cases z), h2.ext s⟩
end
end Kx
end
section
set_option maxHeartbeats 4000000
namespace Kx
open PySem PySem.Spec PyProof.Rows L2 RZ
/-- the flat of a step -/
def flS (qs : List Rat) : V := if kindS qs = "creep" then hgtV (qs.drop 1) 1 else .non
theorem flS_yes {qs : List Rat} (h : kindS qs = "creep") : flS qs = hgtV (qs.drop 1) 1 := if_pos h
theorem flS_no {qs : List Rat} (h : kindS qs ≠ "creep") : flS qs = .non := if_neg h
/-- where its strength stands -/
def strI (qs : List Rat) : Option Nat := if kindS qs = "creep" then (hgtN (qs.drop 1) 0).map (1 + ·) else if kindS qs = "crush" then hgtN qs 0 else none
theorem strI_creep {qs : List Rat} (h : kindS qs = "creep") : strI qs = (hgtN (qs.drop 1) 0).map (1 + ·) := if_pos h
theorem strI_crush {qs : List Rat} (h : kindS qs = "crush") : strI qs = hgtN qs 0 := by
  unfold strI
  rw [if_neg (by rw [h]; decide), if_pos h]
theorem strI_no {qs : List Rat} (h : kindS qs ≠ "creep") (h2 : kindS qs ≠ "crush") : strI qs = none := by
  unfold strI
  rw [if_neg h, if_neg h2]
def StrV (K : PySem.W.Frag) (H : Hp) (sv : V) (qs : List Rat) : Prop := match strI qs with
  | some i => ∃ r, qs[i]? = some r ∧ Nq K H sv r
  | none => sv = .non
/-- Step.__init__, with flat and strength told -/
def spSIF (K : PySem.W.Frag) (S CF CO : Addr) : Sp := fun vs H Q E => ∃ (x dx : Addr) (v : V), vs = [.ref x, v] ∧ v ≠ .ref x ∧ H x = some (.ins S dx []) ∧
  Giv K CF CO H v 0 E fun xs qs => ∀ H' b x0 fv sv, xs[0]? = some x0 → But x H H' → H b = none → H' x = some (.ins S dx (stF b (qs.length : Int) x0 (kindS qs) (hgtV qs 1) fv sv)) → H' b = some (.lst xs) → fv = flS qs → StrV K H' sv qs → Q .non H'
section
variable {P : Program} {w : World} {K : PySem.W.Frag} {mg : Str → Option Value} {base : Heap} {f fI C S CF CO o1 o0 : Addr} {fd : FuncData}
theorem ok_stinitF (G : Fun K "__init__" "Step.__init__" C_Step_init f fd) (c : Cls K S) (nA : ∀ n ∈ stN, NoAttr K S n) (mn : mg "len" = none)
    (UN : Use P w K mg base (L2.CX P w) 5 "checked_numbers" ["numbers", "further"] (spCn K CF CO) []) (UD : Use P w K mg base CX0 2 "kind_of" ["numbers"] (spKo K) []) (UL : Use P w K mg base CX0 1 "least_place" ["numbers", "first"] (spLp K) []) :
    FnOk P w K mg base (L2.CX P w) 6 f fd ["self", "numbers"] (spSIF K S CF CO) := by
  refine G.okX scSI (fun vs H Q E h => ?_) (fun cdv A outer s H vs Q E hr h => ?_)
  · obtain ⟨x, dx, v, rfl, _⟩ := h
    rfl
  obtain ⟨x, dx, v, rfl, nv, hx, hg⟩ := h
  have hr1 := hr.mono (show 1 ≤ 5 by decide)
  have hr2 := hr.mono (show 2 ≤ 5 by decide)
  have n1 := nA "_numbers" (by simp [stN])
  have n2 := nA "order" (by simp [stN])
  have n3 := nA "lead" (by simp [stN])
  have n4 := nA "kind" (by simp [stN])
  have n5 := nA "height" (by simp [stN])
  have n6 := nA "flat" (by simp [stN])
  have n7 := nA "strength" (by simp [stN])
  refine ⟨_, pss_cons (ps_fld (pv 0) (pe_use (E := E) UN hr rfl (passes_call (takes_of rfl rfl rfl rfl) (fun _ _ _ _ h => h)) (pa_cons (pv 1) (pa_cons pe_int pa_nil))) rfl)
    (pss_cons (ps_fld (pv 0) (pe_callB call_len_seq rfl mn PySem.boot_len (pa_cons (pv 1) pa_nil)) rfl)
    (pss_cons (ps_fld (pv 0) (pe_ix ix_list (pe_fld (pv 0) rfl) pe_int (fun _ _ => rfl)) rfl)
    (pss_cons (ps_fld (pv 0) (pe_use UD hr2 rfl pass0 (pa_cons (pe_fld (pv 0) rfl) pa_nil)) rfl)
    (pss_cons (ps_fld (pv 0) (pe_use UL hr1 rfl pass0 (pa_cons (pe_fld (pv 0) rfl) (pa_cons pe_int pa_nil))) rfl)
    (pss_cons (ps_fld (pv 0) pe_non rfl)
    (pss_cons (ps_fld (pv 0) pe_non rfl)
    (C8.pss_cut (ps_if (pt_cmpR op_eq (pe_fld (pv 0) rfl) pe_str (nomark _)) (pss_cons (ps_fld (pv 0) (pe_use UL hr1 rfl pass0 (pa_cons (pe_slice sl_list (pe_fld (pv 0) rfl) (po_some pe_int) po_none) (pa_cons pe_int pa_nil))) rfl)
        (pss_one (ps_fld (pv 0) (pe_ix ix_list (pe_fld (pv 0) rfl) (pe_fld (pv 0) rfl) (fun _ _ => rfl)) rfl))) pss_nil)
    (pss_one (ps_if (pt_cmpR op_eq (pe_fld (pv 0) rfl) pe_str (nomark _)) (pss_one (ps_fld (pv 0) (pe_ix ix_list (pe_fld (pv 0) rfl) (pe_op op_sub (pe_fld (pv 0) rfl) pe_int) (fun _ _ => rfl)) rfl)) pss_nil))))))))), ?_⟩
  refine ⟨_, rfl, v, 0, rfl, ?_⟩
  refine hg.cn fun a xs qs H1 b ev ha nx g l1 l2 s1 nb hb => ?_
  subst ev
  have xb : b ≠ x := fun e => by rw [e, hx] at nb; cases nb
  have xa : a ≠ x := fun e => nv (by rw [e])
  have lq : xs.length = qs.length := nx.1
  have g1 : Stg K H H1 x S dx [] b xs qs := ⟨But.same s1, s1 _ _ hx, hb, nx.same s1, xb⟩
  have ha1 := ha.same s1
  refine ⟨_, rfl, x, S, dx, _, rfl, g1.hx, c, n1, by decide, ?_⟩
  have g2 := g1.put (putF "_numbers" (.ref b) [])
  have ha2 : SqH (upd H1 x (.ins S dx (putF "_numbers" (.ref b) []))) a xs := by
    unfold SqH
    rw [upd_ne xa]
    exact ha1
  generalize upd H1 x (.ins S dx (putF "_numbers" (.ref b) [])) = H2 at g2 ha2
  refine ⟨_, rfl, a, _, rfl, ha2.imp SqL.of SqT.of, _, rfl, x, S, dx, _, rfl, g2.hx, c, n2, (by show 1 < 1000; decide), ?_⟩
  have g3 := g2.put (putF "order" (.int ((xs.length : Nat) : Int)) (putF "_numbers" (.ref b) []))
  generalize upd H2 x (.ins S dx (putF "order" (.int ((xs.length : Nat) : Int)) (putF "_numbers" (.ref b) []))) = H3 at g3
  obtain ⟨x0, e0, m0⟩ := g3.nx.get' (i := 0) (by omega)
  refine ⟨_, rfl, x, S, dx, _, _, rfl, g3.hx, c, n1, rfl, b, xs, 0, x0, rfl, rfl, SqL.of g3.hb, at_of (j := 0) rfl e0, _, rfl, x, S, dx, _, rfl, g3.hx, c, n3, (by show 2 < 1000; decide), ?_⟩
  rw [lq] at g3 ⊢
  generalize hln : (((qs.length : Nat)) : Int) = ln at g3
  have g4 := g3.put (putF "lead" x0 (putF "order" (.int ln) (putF "_numbers" (.ref b) [])))
  generalize upd H3 x (.ins S dx (putF "lead" x0 (putF "order" (.int ln) (putF "_numbers" (.ref b) [])))) = H4 at g4
  refine ⟨_, rfl, x, S, dx, _, _, rfl, g4.hx, c, n1, rfl, .ref b, qs, rfl, ⟨b, xs, rfl, g4.hb, g4.nx⟩, by omega, by omega, fun H5 s5 => ?_⟩
  have g5 := g4.go s5
  refine ⟨_, rfl, x, S, dx, _, rfl, g5.hx, c, n4, (by show 3 < 1000; decide), ?_⟩
  generalize hkd : kindS qs = kd
  have g6 := g5.put (putF "kind" (.str kd) (putF "lead" x0 (putF "order" (.int ln) (putF "_numbers" (.ref b) []))))
  generalize upd H5 x (.ins S dx (putF "kind" (.str kd) (putF "lead" x0 (putF "order" (.int ln) (putF "_numbers" (.ref b) []))))) = H6 at g6
  refine ⟨_, rfl, x, S, dx, _, _, rfl, g6.hx, c, n1, rfl, .ref b, qs, 1, rfl, ⟨b, xs, rfl, g6.hb, g6.nx⟩, fun H7 s7 => ?_⟩
  have g7 := g6.go s7
  refine ⟨_, rfl, x, S, dx, _, rfl, g7.hx, c, n5, (by show 4 < 1000; decide), ?_⟩
  generalize hhv : hgtV qs 1 = hv
  have g8 := g7.put (putF "height" hv (putF "kind" (.str kd) (putF "lead" x0 (putF "order" (.int ln) (putF "_numbers" (.ref b) [])))))
  generalize upd H7 x (.ins S dx (putF "height" hv (putF "kind" (.str kd) (putF "lead" x0 (putF "order" (.int ln) (putF "_numbers" (.ref b) [])))))) = H8 at g8
  refine ⟨_, rfl, x, S, dx, _, rfl, g8.hx, c, n6, (by show 5 < 1000; decide), ?_⟩
  have g9 := g8.put (putF "flat" .non (putF "height" hv (putF "kind" (.str kd) (putF "lead" x0 (putF "order" (.int ln) (putF "_numbers" (.ref b) []))))))
  generalize upd H8 x (.ins S dx (putF "flat" .non (putF "height" hv (putF "kind" (.str kd) (putF "lead" x0 (putF "order" (.int ln) (putF "_numbers" (.ref b) []))))))) = H9 at g9
  refine ⟨_, rfl, x, S, dx, _, rfl, g9.hx, c, n7, (by show 6 < 1000; decide), ?_⟩
  have g10 : Stg K H (upd H9 x (.ins S dx (stF b ln x0 kd hv .non .non))) x S dx (stF b ln x0 kd hv .non .non) b xs qs := g9.put _
  refine ⟨fun σ H' => σ = [some (.ref x), some (.ref a)] ∧ ∃ fv sv, Stg K H H' x S dx (stF b ln x0 kd hv fv sv) b xs qs ∧ fv = flS qs ∧ (kindS qs = "creep" → StrV K H' sv qs) ∧ (kindS qs ≠ "creep" → sv = .non), ?_, ?_⟩
  · change Stg K H (upd H9 x (.ins S dx (putF "strength" .non (putF "flat" .non (putF "height" hv (putF "kind" (.str kd) (putF "lead" x0 (putF "order" (.int ln) (putF "_numbers" (.ref b) [])))))))))  x S dx (stF b ln x0 kd hv .non .non) b xs qs at g10
    generalize upd H9 x (.ins S dx (putF "strength" .non (putF "flat" .non (putF "height" hv (putF "kind" (.str kd) (putF "lead" x0 (putF "order" (.int ln) (putF "_numbers" (.ref b) [])))))))) = H10 at g10
    refine ⟨_, rfl, x, S, dx, _, _, rfl, g10.hx, c, n4, rfl, rfl, _, rfl, ite2 (fun e => ?_) (fun e => ⟨rfl, _, _, g10, (flS_no (by rw [hkd]; exact fun z => e (by rw [z]; exact decide_eq_true rfl))).symm, fun z => absurd (by rw [← hkd, z]; exact decide_eq_true rfl) e, fun _ => rfl⟩)⟩
    have ek : kindS qs = "creep" := by rw [hkd]; exact V.str.inj (of_decide_eq_true e)
    obtain ⟨k, hk, ek2⟩ := hgtN_ex (qs.drop 1) 0 (kind_creep ek)
    rw [List.length_drop] at hk
    refine ⟨_, rfl, x, S, dx, _, _, rfl, g10.hx, c, n1, rfl, 1, rfl, b, _, rfl, SqL.of g10.hb, fun p np => ?_⟩
    have ec : cutV xs (some 1) none = xs.drop 1 := cut_drop xs 1
    rw [ec]
    have s11 := new_same np (.lst (xs.drop 1))
    have g11 := g10.go s11
    refine ⟨.ref p, qs.drop 1, 1, rfl, ⟨p, _, rfl, upd_same, g11.nx.drop 1⟩, fun H12 s12 => ?_⟩
    have g12 := g11.go s12
    have ev : hgtV (qs.drop 1) 1 = .int (1 + (k : Nat)) := by
      unfold hgtV
      rw [ek2, Nat.zero_add]
    rw [ev]
    refine ⟨_, rfl, x, S, dx, _, rfl, g12.hx, c, n6, (by show 7 < 1000; decide), ?_⟩
    have g13 : Stg K H (upd H12 x (.ins S dx (putF "flat" (.int (1 + (k : Nat))) (stF b ln x0 kd hv .non .non)))) x S dx (stF b ln x0 kd hv (.int (1 + (k : Nat))) .non) b xs qs := g12.put _
    generalize upd H12 x (.ins S dx (putF "flat" (.int (1 + (k : Nat))) (stF b ln x0 kd hv .non .non))) = H13 at g13
    have e3 := List.getElem?_eq_getElem (l := xs) (i := 1 + k) (by omega)
    refine ⟨_, rfl, x, S, dx, _, _, rfl, g13.hx, c, n1, rfl, _, rfl, x, S, dx, _, _, rfl, g13.hx, c, n6, rfl, b, xs, _, _, rfl, rfl, SqL.of g13.hb, at_of (j := 1 + k) (by omega) e3, _, rfl, x, S, dx, _, rfl, g13.hx, c, n7, (by show 7 < 1000; decide), ?_⟩
    obtain ⟨r, hr', nr⟩ := g13.nx.get e3
    refine ⟨rfl, _, _, g13.put _, ?_, fun _ => ?_, fun z => absurd ek z⟩
    · rw [flS_yes ek, ev]
    · unfold StrV
      rw [strI_creep ek, ek2]
      exact ⟨r, by rw [Nat.zero_add]; exact hr', nr.but g13.hx but_put⟩
  · rintro σ H10 ⟨rfl, fv, sv, g10, hfv, hs1, hs2⟩
    have fin : ∀ H' fv sv, Stg K H H' x S dx (stF b ln x0 kd hv fv sv) b xs qs → fv = flS qs → StrV K H' sv qs → Q .non H' := fun H' fv sv z z1 z2 => by
      refine g H' b x0 fv sv e0 z.u nb ?_ z.hb z1 z2
      rw [hln, hkd, hhv]
      exact z.hx
    refine ⟨_, rfl, x, S, dx, _, _, rfl, g10.hx, c, n4, rfl, rfl, _, rfl, ite2 (fun e => ?_) (fun e => fin _ _ _ g10 hfv ?_)⟩
    · have ek : kindS qs = "crush" := by rw [hkd]; exact V.str.inj (of_decide_eq_true e)
      obtain ⟨k, hk, ek2⟩ := hgtN_ex qs 0 (kind_crush ek)
      have ev : hv = .int (1 + (k : Nat)) := by
        rw [← hhv]
        unfold hgtV
        rw [ek2, Nat.zero_add]
      have e3 := List.getElem?_eq_getElem (l := xs) (i := k) (by omega)
      refine ⟨_, rfl, x, S, dx, _, _, rfl, g10.hx, c, n1, rfl, _, rfl, x, S, dx, _, _, rfl, g10.hx, c, n5, rfl, 1 + (k : Nat), 1, ev, rfl, b, xs, _, _, rfl, rfl, SqL.of g10.hb, at_of (j := k) (by omega) e3, _, rfl, x, S, dx, _, rfl, g10.hx, c, n7, (by show 7 < 1000; decide), ?_⟩
      obtain ⟨r, hr', nr⟩ := g10.nx.get e3
      refine fin _ fv _ (g10.put _) hfv ?_
      unfold StrV
      rw [strI_crush ek, ek2, Nat.zero_add]
      exact ⟨r, hr', nr.but g10.hx but_put⟩
    · by_cases ek : kindS qs = "creep"
      · exact hs1 ek
      · rw [hs2 ek]
        unfold StrV
        rw [strI_no ek (by rw [hkd]; exact fun z => e (by rw [z]; exact decide_eq_true rfl))]
end
end Kx
end
section
set_option maxHeartbeats 4000000
namespace Kx
open PySem PySem.Spec PyProof.Rows L2 RZ
variable {nb : Nat}
theorem StrV.same {K : PySem.W.Frag} {H H' : Hp} {sv : V} {qs : List Rat} (h : StrV K H sv qs) (s : Same H H') : StrV K H' sv qs := by
  unfold StrV at h ⊢
  split at h
  · obtain ⟨r, h1, h2⟩ := h
    exact ⟨r, h1, h2.same s⟩
  · exact h
theorem StrV.go {K : PySem.W.Frag} {H H' : Hp} {B p : Addr} {sv : V} {qs : List Rat} (h : StrV K H sv qs) (b : Bag nb H B p) (s : Go B H H') : StrV K H' sv qs := by
  unfold StrV at h ⊢
  split at h
  · obtain ⟨r, h1, h2⟩ := h
    exact ⟨r, h1, h2.go b s⟩
  · exact h
theorem StrV.ext {K : PySem.W.Frag} {H H' : Hp} {sv : V} {qs : List Rat} (h : StrV K H sv qs) (s : LamX.ExtN H H') : StrV K H' sv qs := by
  unfold StrV at h ⊢
  split at h
  · obtain ⟨r, h1, h2⟩ := h
    exact ⟨r, h1, h2.ext s⟩
  · exact h
/-- a step, its flat and its strength, too -/
def StF (K : PySem.W.Frag) (S : Addr) (H : Hp) (v : V) (qs : List Rat) : Prop := ∃ (x dx b : Addr) (xs : List V) (x0 sv : V), v = .ref x ∧ H x = some (.ins S dx (stF b (qs.length : Int) x0 (kindS qs) (hgtV qs 1) (flS qs) sv)) ∧ H b = some (.lst xs) ∧ Nl K H xs qs ∧ xs[0]? = some x0 ∧ StrV K H sv qs ∧ 2 ≤ qs.length ∧ qs.length ≤ 24
section
variable {K : PySem.W.Frag} {S B p : Addr} {H H' : Hp} {v : V} {qs : List Rat}
theorem StF.st (h : StF K S H v qs) : StAt K S H v qs := by
  obtain ⟨x, dx, b, xs, x0, sv, e, h1, h2, h3, h4, _, h5⟩ := h
  exact ⟨x, dx, b, xs, x0, _, sv, e, h1, h2, h3, h4, h5⟩
theorem StF.same (h : StF K S H v qs) (s : Same H H') : StF K S H' v qs := by
  obtain ⟨x, dx, b, xs, x0, sv, e, h1, h2, h3, h4, h5, h6⟩ := h
  exact ⟨x, dx, b, xs, x0, sv, e, s _ _ h1, s _ _ h2, h3.same s, h4, h5.same s, h6⟩
theorem StF.go (h : StF K S H v qs) (b : Bag nb H B p) (s : Go B H H') : StF K S H' v qs := by
  obtain ⟨x, dx, c, xs, x0, sv, e, h1, h2, h3, h4, h5, h6⟩ := h
  exact ⟨x, dx, c, xs, x0, sv, e, ins_go h1 b s, s _ _ (h3.ne (by omega) h2 b) (fun ps z => by cases z) h2, h3.go b s, h4, h5.go b s, h6⟩
theorem StF.ext (h : StF K S H v qs) (s : LamX.ExtN H H') : StF K S H' v qs := by
  obtain ⟨x, dx, b, xs, x0, sv, e, h1, h2, h3, h4, h5, h6⟩ := h
  exact ⟨x, dx, b, xs, x0, sv, e, s _ _ h1 (fun ps z => by cases z), s _ _ h2 (fun ps z => by cases z), h3.ext s, h4, h5.ext s, h6⟩
end
/-- a new step comes back, its flat and its strength, too -/
def GivesF (K : PySem.W.Frag) (S : Addr) (H : Hp) (Q : VK) (rs : List Rat) : Prop := ∀ H' y, Same H H' → StF K S H' y rs → Q y H'
section
variable {P : Program} {w : World} {K : PySem.W.Frag} {mg : Str → Option Value} {base : Heap} {f C S CF CO CN CP CL CU o0 o1 : Addr} {fd : FuncData} {H : Hp} {qs : List Rat}
/-- Step(..) from a list of numbers: the step's own list is new -/
theorem step_newF {a : Addr} {xs : List V} {E : XK} {R : VK} {x dx : Addr} (ha : SqH H a xs) (hn : Nl K H xs qs) (l1 : 2 ≤ qs.length) (l2 : qs.length ≤ 24) (nx : H x = none) (ndx : H dx = none) (ne : dx ≠ x)
    (q : ∀ H', Same H H' → StF K S H' (.ref x) qs → R .non H') :
    spSIF K S CF CO [.ref x, .ref a] (upd (upd H dx (.own x)) x (.ins S dx [])) R E := by
  have hx2 : upd (upd H dx (.own x)) x (.ins S dx []) x = some (.ins S dx []) := upd_same
  have sm : Same H (upd (upd H dx (.own x)) x (.ins S dx [])) := (new_same ndx _).trans (new_same (by rw [upd_ne (Ne.symm ne)]; exact nx) _)
  refine ⟨x, dx, .ref a, rfl, fun e => ?_, hx2, .inr ⟨a, xs, rfl, ha.same sm, .inr ⟨by rw [hn.1]; omega, by rw [hn.1]; omega, .inr ⟨qs, hn.same sm, fun H' b x0 fv sv h0 u nb hx hb e1 e2 => ?_⟩⟩⟩⟩
  · rw [V.ref.inj e] at ha
    rcases ha with h | h <;> rw [nx] at h <;> cases h
  · have s' : Same H H' := fun e o he => u e o (fun z => by rw [z, nx] at he; cases he) (sm e o he)
    subst e1
    exact q H' s' ⟨x, dx, b, xs, x0, sv, rfl, hx, hb, hn.same s', h0, e2, l1, l2⟩
end
/-- what stands of the class of the steps -/
structure StepK (P : Program) (w : World) (K : PySem.W.Frag) (mg : Str → Option Value) (base : Heap) (C S CF CO : Addr) : Prop where
  c : Cls K S
  nA : ∀ n ∈ stN, NoAttr K S n
  m : mg "Step" = some (.ref S)
  ini : ∃ (fI : Addr) (fd : FuncData), Mk K S fI ∧ FnOk P w K mg base (L2.CX P w) 6 fI fd ["self", "numbers"] (spSIF K S CF CO) ∧ Binds K fd ["self", "numbers"] []
def spNuS (K : PySem.W.Frag) (S : Addr) : Sp := fun vs H Q _ => ∃ (x : V) (qs : List Rat), vs = [x] ∧ StAt K S H x qs ∧ GivesL K H Q qs
section
variable {P : Program} {w : World} {K : PySem.W.Frag} {mg : Str → Option Value} {base : Heap} {f C S CF CO CN CP CL CU o0 o1 : Addr} {fd : FuncData} {H : Hp} {qs : List Rat}
theorem StAt.num {H : Hp} {v : V} {qs : List Rat} (h : StAt K S H v qs) : ∃ (x dx b : Addr) (xs : List V) (fs : List (Str × V)), v = .ref x ∧ H x = some (.ins S dx fs) ∧ H b = some (.lst xs) ∧ Nl K H xs qs ∧ fs.lookup ("_numbers" : Str) = some (.ref b) ∧ fs.lookup ("order" : Str) = some (.int (qs.length : Int)) ∧ 2 ≤ qs.length ∧ qs.length ≤ 24 := by
  obtain ⟨x, dx, b, xs, x0, fv, sv, e, h1, h2, h3, _, h5, h6⟩ := h
  exact ⟨x, dx, b, xs, _, e, h1, h2, h3, rfl, rfl, h5, h6⟩
theorem scSNu : FnScope ["self"] ["self"] (defScope C_Step_numbers) := ⟨rfl, rfl, rfl, by decide +kernel, rfl, by decide +kernel, by decide +kernel⟩
theorem ok_snumbers (G : Fun K "numbers" "Step.numbers" C_Step_numbers f fd) (k : StepK P w K mg base C S CF CO) (ml : mg "list" = none) : FnOk P w K mg base CX0 1 f fd ["self"] (spNuS K S) := by
  refine G.ok scSNu (fun vs H Q E h => ?_) (fun cdv A outer s H vs Q E hr h => ?_)
  · obtain ⟨x, qs, rfl, _⟩ := h
    rfl
  obtain ⟨v, qs, rfl, hR, q⟩ := h
  obtain ⟨x, dx, b, xs, fs, rfl, hx, hb, nx, f1, f2, _⟩ := hR.num
  refine ⟨_, pss_one (ps_ret (pe_callTy call_list_of rfl ml (by decide +kernel) (pa_cons (pe_fld (pv 0) rfl) pa_nil))), ?_⟩
  exact ⟨_, rfl, x, S, dx, _, _, rfl, hx, k.c, k.nA _ (by simp [stN]), f1, b, xs, rfl, .inl (SqL.of hb), fun l nl => q l _ xs (new_same nl _) nl upd_same (nx.same (new_same nl _))⟩

theorem step_new {H H1 : Hp} {a : Addr} {xs : List V} {qs : List Rat} {E : XK} {Q : VK} (s : Same H H1) (ha : SqH H1 a xs) (hn : Nl K H1 xs qs) (l1 : 2 ≤ qs.length) (l2 : qs.length ≤ 24) (g : GivesF K S H Q qs) :
    ∀ x dx, H1 x = none → H1 dx = none → dx ≠ x → spSIF K S CF CO [.ref x, .ref a] (upd (upd H1 dx (.own x)) x (.ins S dx [])) (fun z H2 => z = .non ∧ Q (.ref x) H2) E := fun x dx nx ndx ne =>
  step_newF ha hn l1 l2 nx ndx ne fun H' s' r => ⟨rfl, g H' _ (s.trans s') r⟩
end
end Kx
end
section
set_option maxHeartbeats 4000000
/-! enumerate over a zip of two lists -/
namespace PySem
open Sem (wp)
open AutoSeq1 (wpAny_loadPart')
/-- a zip with its fields; f0 is what it handed out -/
abbrev ZP (h : Heap) (z TI TO : Addr) (f0 : Value) (f1 : Bool) : Prop :=
  h.get? z = some { cls := .type "zip", dict := none, data := .fields #[f0, .bool f1, .bool false, .ref TI, .ref TO], slots := #[] }
def ZPa (h : Heap) (z TI TO : Addr) : Prop := ∃ f0 f1, ZP h z TI TO f0 f1 ∧ (f0 = .none ∨ ∃ T : Addr, f0 = rawInt T)
section
variable {prog : Program} {w : World} {A : Around} {E : Value → Shared → Prop} {s : Shared}
theorem zpa_free {z TI TO : Addr} {Q : Bool → Shared → Prop} (hz : ZPa s.heap z TI TO) (h1 : ∀ f0 f1, ZP s.heap z TI TO f0 f1 → Q true s) (h2 : ∀ h', ZPa h' z TI TO → Heap.SameBut z s.heap h' → Q false { s with heap := h' }) :
    wpAny (model prog w) A (Builtin.SmallTypes.ownedTupleIsFree (.ref z)) Q E s := by
  obtain ⟨f0, f1, hz, hf⟩ := hz
  rcases hf with rfl | ⟨T, rfl⟩
  · unfold Builtin.SmallTypes.ownedTupleIsFree
    exact wpAny_bind (wpAny_field hz rfl (x := .none) rfl (wpAny_pure (h1 _ _ hz)))
  · cases hT : s.heap.get? T with
    | some oT => exact wpAny_tupleHeld_zip hz hT fun h' hz' sb => h2 h' ⟨_, _, hz', .inr ⟨T, rfl⟩⟩ sb
    | none =>
      unfold Builtin.SmallTypes.ownedTupleIsFree
      refine wpAny_bind (wpAny_field hz rfl (x := rawInt T) rfl ?_)
      show wpAny _ _ (loadIfAlive ((T : Int).toNat) >>= _) _ _ _
      rw [Int.toNat_natCast]
      refine wpAny_bind ?_
      have key : ∀ {R : Option Obj → Shared → Prop}, R none s → wpAny (model prog w) A (loadIfAlive T) R E s := fun {R} h => by
        have h' : R (s.heap.get? T) s := by rw [hT]; exact h
        exact fun _ _ _ => h'
      refine key ?_
      simp only [Option.isNone_none, if_true]
      exact wpAny_pure (h1 _ _ hz)
theorem zpa_next_item {z TI TO i1 i2 l1 l2 : Addr} {k1 k2 : Nat} {xs ys : Array Value} {x y : Value} {Q : Value → Shared → Prop} (D : ZipApart z TI TO i1 i2 l1 l2)
    (hz : ZPa s.heap z TI TO) (hTI : IsPair s.heap TI (.ref i1) (.ref i2)) (hTO : ∃ a b, IsPair s.heap TO a b)
    (h1 : s.heap.IsListIter i1 l1 k1) (h2 : s.heap.IsListIter i2 l2 k2) (hl1 : s.heap.IsList l1 xs) (hl2 : s.heap.IsList l2 ys) (hx : xs[k1]? = some x) (hy : ys[k2]? = some y)
    (hQ : ∀ h', ZPa h' z TI TO → (∃ a b, IsPair h' TO a b) → h'.IsListIter i1 l1 (k1 + 1) → h'.IsListIter i2 l2 (k2 + 1) → IsPair h' s.heap.objs.size x y → h'.objs.size = s.heap.objs.size + 1 →
      (∀ c o, c ≠ z → c ≠ TO → c ≠ i1 → c ≠ i2 → s.heap.get? c = some o → h'.get? c = some o) → Q (.ref s.heap.objs.size) { s with heap := h' }) :
    wpAny (model prog w) A (Builtin.«zip.__next__» ⟨[.ref z], []⟩) (fun fin s' => ∃ v, fin = .done (.ret v) ∧ Q v s') E s := by
  obtain ⟨a, b, hTO⟩ := hTO
  obtain ⟨f0, f1, hz', _⟩ := id hz
  show wpAny _ _ (field (.ref z) 2 >>= _) _ _ _
  refine wpAny_bind (wpAny_field hz' rfl (x := .bool false) rfl ?_)
  show wpAny _ _ (field (.ref z) 3 >>= _) _ _ _
  refine wpAny_bind (wpAny_field hz' rfl (x := .ref TI) rfl ?_)
  refine wpAny_bind (wpAny_seqItems hTI rfl ?_)
  show wpAny _ _ (Builtin.SmallTypes.ownedTupleIsFree (.ref z) >>= _) _ _ _
  refine wpAny_bind (zpa_free hz (fun f0 f1 hz => ?_) (fun h₁ hz₁ hs₁ => ?_))
  · simp only [if_true]
    refine wpAny_bind (wpAny_rule ?_)
    refine wpAny_bind (wpAny_field hz rfl (x := .ref TO) rfl ?_)
    refine wpAny_bind (wpAny_setField_rec hz (by simp) fun h₁ hz₁ hs₁ => ?_)
    replace hz₁ : ZP h₁ z TI TO .ellipsis f1 := hz₁
    refine wpAny_bind ?_
    simp only [List.zipIdx_cons, List.zipIdx_nil, List.forIn_cons, List.forIn_nil]
    refine wpAny_bind (wpAny_bind (wpAny_onRaise ?_))
    show wpAny _ _ (Builtin.SmallTypes.nextOf (.ref i1) >>= _) _ _ _
    refine wpAny_bind (wpAny_nextOf_list_item (h1.extBut hs₁.extBut D.i1z) (hl1.extBut hs₁.extBut D.l1z) hx fun h₂ h1₂ hs₂ => wpAny_pure ?_)
    have hTO₂ : IsPair h₂ TO a b := hs₂.extBut _ _ D.TOi1 (hs₁.extBut _ _ D.TOz hTO)
    refine wpAny_bind (wpAny_seqItems hTO₂ rfl ?_)
    refine wpAny_bind (wpAny_updateSeq_pair hTO₂ fun h₃ hTO₃ hs₃ => ?_)
    replace hTO₃ : IsPair h₃ TO x b := hTO₃
    refine wpAny_bind (wpAny_letGo (wpAny_pure ?_))
    refine wpAny_bind (wpAny_bind (wpAny_onRaise ?_))
    show wpAny _ _ (Builtin.SmallTypes.nextOf (.ref i2) >>= _) _ _ _
    refine wpAny_bind (wpAny_nextOf_list_item (((h2.extBut hs₁.extBut D.i2z).extBut hs₂.extBut D.i12.symm).extBut hs₃.extBut D.TOi2.symm)
      (((hl2.extBut hs₁.extBut D.l2z).extBut hs₂.extBut D.l2i1).extBut hs₃.extBut D.l2TO) hy fun h₄ h2₄ hs₄ => wpAny_pure ?_)
    have hTO₄ : IsPair h₄ TO x b := hs₄.extBut _ _ D.TOi2 hTO₃
    refine wpAny_bind (wpAny_seqItems hTO₄ rfl ?_)
    refine wpAny_bind (wpAny_updateSeq_pair hTO₄ fun h₅ hTO₅ hs₅ => ?_)
    replace hTO₅ : IsPair h₅ TO x y := hTO₅
    refine wpAny_bind (wpAny_letGo (wpAny_pure (wpAny_pure ?_)))
    refine wpAny_bind (wpAny_seqItems hTO₅ rfl ?_)
    refine wpAny_bind (wpAny_newTuple ?_)
    have hsz : h₅.objs.size = s.heap.objs.size := by rw [hs₅.1, hs₄.1, hs₃.1, hs₂.1, hs₁.1]
    have hz₅ : ZP h₅ z TI TO .ellipsis f1 := hs₅.extBut _ _ D.TOz.symm (hs₄.extBut _ _ D.i2z.symm (hs₃.extBut _ _ D.TOz.symm (hs₂.extBut _ _ D.i1z.symm hz₁)))
    have hk₅ : ∀ c o, c ≠ z → c ≠ TO → c ≠ i1 → c ≠ i2 → s.heap.get? c = some o → h₅.get? c = some o := fun c o c1 c2 c3 c4 e =>
      hs₅.extBut _ _ c2 (hs₄.extBut _ _ c4 (hs₃.extBut _ _ c2 (hs₂.extBut _ _ c3 (hs₁.extBut _ _ c1 e))))
    have h1₅ : h₅.IsListIter i1 l1 (k1 + 1) := ((h1₂.extBut hs₃.extBut D.TOi1.symm).extBut hs₄.extBut D.i12).extBut hs₅.extBut D.TOi1.symm
    have h2₅ : h₅.IsListIter i2 l2 (k2 + 1) := h2₄.extBut hs₅.extBut D.TOi2.symm
    have hzlt : z < h₅.objs.size := Heap.lt_size hz₅
    show wpAny _ _ (Builtin.SmallTypes.ownedTupleHandOut (.ref z) (.ref h₅.objs.size) >>= _) _ _ _
    refine wpAny_bind ?_
    unfold Builtin.SmallTypes.ownedTupleHandOut
    have hz₆ : ZP (h₅.push { cls := .type "tuple", data := .seq #[x, y] }) z TI TO .ellipsis f1 := Heap.get?_push_of_some _ hz₅
    refine wpAny_bind (wpAny_setField_rec hz₆ (by simp) fun h₇ hz₇ hs₇ => ?_)
    replace hz₇ : ZP h₇ z TI TO (rawInt h₅.objs.size) f1 := hz₇
    refine wpAny_setField_rec hz₇ (by simp) fun h₈ hz₈ hs₈ => ?_
    replace hz₈ : ZP h₈ z TI TO (rawInt h₅.objs.size) false := hz₈
    have up : ∀ c o, c ≠ z → h₅.get? c = some o → h₈.get? c = some o := fun c o c1 e => hs₈.extBut _ _ c1 (hs₇.extBut _ _ c1 (Heap.get?_push_of_some _ e))
    have hT₈ : IsPair h₈ h₅.objs.size x y := hs₈.extBut _ _ (Nat.ne_of_gt hzlt) (hs₇.extBut _ _ (Nat.ne_of_gt hzlt) (Heap.get?_push_size _ rfl))
    have hz8 : h₈.objs.size = h₅.objs.size + 1 := by rw [hs₈.1, hs₇.1, Heap.size_push]
    rw [hsz] at hz₈ hT₈ hz8
    refine wpAny_pure ⟨_, rfl, ?_⟩
    show Q (.ref h₅.objs.size) _
    rw [hsz]
    exact hQ h₈ ⟨_, _, hz₈, .inr ⟨_, rfl⟩⟩ ⟨_, _, up _ _ D.TOz hTO₅⟩ (h1₅.at fun o e => up _ o D.i1z e) (h2₅.at fun o e => up _ o D.i2z e) hT₈ hz8 fun c o c1 c2 c3 c4 e => up c o c1 (hk₅ c o c1 c2 c3 c4 e)
  · simp only [Bool.false_eq_true, if_false]
    refine wpAny_bind ?_
    rw [← Array.forIn_toList]
    simp only [List.forIn_cons, List.forIn_nil]
    refine wpAny_bind (wpAny_bind (wpAny_holding ?_))
    show wpAny _ _ (Builtin.SmallTypes.nextOf (.ref i1) >>= _) _ _ _
    refine wpAny_bind (wpAny_nextOf_list_item (s := { s with heap := h₁ }) (h1.extBut hs₁.extBut D.i1z) (hl1.extBut hs₁.extBut D.l1z) hx fun h₂ h1₂ hs₂ => wpAny_pure ?_)
    refine wpAny_pure ?_
    refine wpAny_bind (wpAny_bind (wpAny_holding ?_))
    show wpAny _ _ (Builtin.SmallTypes.nextOf (.ref i2) >>= _) _ _ _
    refine wpAny_bind (wpAny_nextOf_list_item (s := { s with heap := h₂ }) ((h2.extBut hs₁.extBut D.i2z).extBut hs₂.extBut D.i12.symm) ((hl2.extBut hs₁.extBut D.l2z).extBut hs₂.extBut D.l2i1) hy fun h₃ h2₃ hs₃ => wpAny_pure ?_)
    refine wpAny_pure (wpAny_pure ?_)
    show wpAny _ _ (newTuple [x, y] >>= _) _ _ _
    refine wpAny_bind (wpAny_newTuple ?_)
    have hsz : h₃.objs.size = s.heap.objs.size := by rw [hs₃.1, hs₂.1, hs₁.1]
    obtain ⟨g0, g1, hz₁', hg⟩ := hz₁
    have hz₃ : ZP h₃ z TI TO g0 g1 := hs₃.extBut _ _ D.i2z.symm (hs₂.extBut _ _ D.i1z.symm hz₁')
    have hk : ∀ c o, c ≠ z → c ≠ i1 → c ≠ i2 → s.heap.get? c = some o → h₃.get? c = some o := fun c o c1 c2 c3 e => hs₃.extBut _ _ c3 (hs₂.extBut _ _ c2 (hs₁.extBut _ _ c1 e))
    have h1₃ : h₃.IsListIter i1 l1 (k1 + 1) := h1₂.extBut hs₃.extBut D.i12
    refine wpAny_pure ⟨_, rfl, ?_⟩
    show Q (.ref h₃.objs.size) _
    have hp : IsPair (h₃.push { cls := .type "tuple", data := .seq #[x, y] }) h₃.objs.size x y := Heap.get?_push_size _ rfl
    have hz4 : (h₃.push { cls := .type "tuple", data := .seq #[x, y] }).objs.size = h₃.objs.size + 1 := Heap.size_push ..
    rw [hsz] at hp hz4 ⊢
    exact hQ _ ⟨_, _, Heap.get?_push_of_some _ hz₃, hg⟩ ⟨a, b, Heap.get?_push_of_some _ (hk _ _ D.TOz D.TOi1 D.TOi2 hTO)⟩ (h1₃.at fun o e => Heap.get?_push_of_some _ e) (h2₃.at fun o e => Heap.get?_push_of_some _ e) hp hz4 fun c o c1 _ c2 c3 e => Heap.get?_push_of_some _ (hk c o c1 c2 c3 e)
theorem zpa_next_end {z TI TO i1 i2 l1 l2 : Addr} {k1 k2 : Nat} {xs ys : Array Value} {Q : Fin → Shared → Prop} (hh : A.handled = none) (D : ZipApart z TI TO i1 i2 l1 l2)
    (hz : ZPa s.heap z TI TO) (hTI : IsPair s.heap TI (.ref i1) (.ref i2)) (hTO : ∃ a b, IsPair s.heap TO a b)
    (h1 : s.heap.IsListIter i1 l1 k1) (h2 : s.heap.IsListIter i2 l2 k2) (hl1 : s.heap.IsList l1 xs) (hl2 : s.heap.IsList l2 ys) (hend : xs[k1]? = none)
    (hE : ∀ h' e, (∀ c o, c ≠ z → c ≠ TO → c ≠ i1 → c ≠ i2 → s.heap.get? c = some o → h'.get? c = some o) → (∃ o, h'.get? e = some o ∧ o.cls = .type "StopIteration") → E (.ref e) { s with heap := h' }) :
    wpAny (model prog w) A (Builtin.«zip.__next__» ⟨[.ref z], []⟩) Q E s := by
  obtain ⟨f0, f1, hz', _⟩ := id hz
  show wpAny _ _ (field (.ref z) 2 >>= _) _ _ _
  refine wpAny_bind (wpAny_field hz' rfl (x := .bool false) rfl ?_)
  show wpAny _ _ (field (.ref z) 3 >>= _) _ _ _
  refine wpAny_bind (wpAny_field hz' rfl (x := .ref TI) rfl ?_)
  refine wpAny_bind (wpAny_seqItems hTI rfl ?_)
  show wpAny _ _ (Builtin.SmallTypes.ownedTupleIsFree (.ref z) >>= _) _ _ _
  refine wpAny_bind (zpa_free hz (fun f0 f1 hz => ?_) (fun h₁ hz₁ hs₁ => ?_))
  · simp only [if_true]
    refine wpAny_bind (wpAny_rule ?_)
    refine wpAny_bind (wpAny_field hz rfl (x := .ref TO) rfl ?_)
    refine wpAny_bind (wpAny_setField_rec hz (by simp) fun h₁ hz₁ hs₁ => ?_)
    replace hz₁ : ZP h₁ z TI TO .ellipsis f1 := hz₁
    refine wpAny_bind ?_
    simp only [List.zipIdx_cons, List.zipIdx_nil, List.forIn_cons, List.forIn_nil]
    refine wpAny_bind (wpAny_bind (wpAny_onRaise ?_))
    show wpAny _ _ (Builtin.SmallTypes.nextOf (.ref i1) >>= _) _ _ _
    refine wpAny_bind (wpAny_nextOf_list_end hh (h1.extBut hs₁.extBut D.i1z) (hl1.extBut hs₁.extBut D.l1z) hend fun h₂ e hs₂ he => ?_)
    obtain ⟨oe, hoe, hce⟩ := he
    have hz₂ : ZP h₂ z TI TO .ellipsis f1 := hs₂ _ _ D.i1z.symm hz₁
    have hez : e ≠ z := fun x => by subst x; rw [hz₂] at hoe; cases hoe; simp at hce
    refine wpAny_setField_rec hz₂ (by simp) fun h₃ _ hs₃ => hE h₃ e (fun c o c1 _ c3 _ x => hs₃.extBut _ _ c1 (hs₂ _ _ c3 (hs₁.extBut _ _ c1 x))) ⟨oe, hs₃.extBut _ _ hez hoe, hce⟩
  · simp only [Bool.false_eq_true, if_false]
    refine wpAny_bind ?_
    rw [← Array.forIn_toList]
    simp only [List.forIn_cons, List.forIn_nil]
    refine wpAny_bind (wpAny_bind (wpAny_holding ?_))
    show wpAny _ _ (Builtin.SmallTypes.nextOf (.ref i1) >>= _) _ _ _
    refine wpAny_bind (wpAny_nextOf_list_end (s := { s with heap := h₁ }) hh (h1.extBut hs₁.extBut D.i1z) (hl1.extBut hs₁.extBut D.l1z) hend fun h₂ e hs₂ he => ?_)
    exact hE h₂ e (fun c o c1 _ c2 _ x => hs₂ _ _ c2 (hs₁.extBut _ _ c1 x)) he
theorem enumz_next_item {e z TI TO i1 i2 l1 l2 : Addr} {k : Nat} {xs ys : Array Value} {x y : Value} {i : Nat} {old : Value} {Q : Value → Shared → Prop} (D : ZipApart z TI TO i1 i2 l1 l2) (he : IsEnum s.heap e z i old)
    (ez : e ≠ z) (eTO : e ≠ TO) (e1 : e ≠ i1) (e2 : e ≠ i2) (eTI : e ≠ TI)
    (hz : ZPa s.heap z TI TO) (hTI : IsPair s.heap TI (.ref i1) (.ref i2)) (hTO : ∃ a b, IsPair s.heap TO a b)
    (h1 : s.heap.IsListIter i1 l1 k) (h2 : s.heap.IsListIter i2 l2 k) (hl1 : s.heap.IsList l1 xs) (hl2 : s.heap.IsList l2 ys) (hx : xs[k]? = some x) (hy : ys[k]? = some y)
    (hQ : ∀ h' tk it, IsEnumOut h' e z ((i : Int) + 1) it (s.heap.objs.size + 1) → ZPa h' z TI TO → (∃ a b, IsPair h' TO a b) → h'.IsListIter i1 l1 (k + 1) → h'.IsListIter i2 l2 (k + 1) → IsPair h' s.heap.objs.size x y →
      h'.get? (s.heap.objs.size + 1) = some { cls := .type "tuple", data := .seq #[.int i tk, .ref s.heap.objs.size] } → h'.objs.size = s.heap.objs.size + 2 →
      (∀ c o, c ≠ e → c ≠ z → c ≠ TO → c ≠ i1 → c ≠ i2 → s.heap.get? c = some o → h'.get? c = some o) → Q (.ref (s.heap.objs.size + 1)) { s with heap := h', toks := tk + 1 }) :
    wpAny (model prog w) A (Builtin.«enumerate.__next__» ⟨[.ref e], []⟩) (fun fin s' => ∃ v, fin = .done (.ret v) ∧ Q v s') E s := by
  have hT : s.TypeIs (.ref z) "zip" := by obtain ⟨f0, f1, h, _⟩ := hz; exact ⟨_, h, rfl⟩
  show wpAny _ _ (field (.ref e) 2 >>= _) _ _ _
  refine wpAny_bind (wpAny_field he rfl (x := .ref z) rfl ?_)
  refine wpAny_bind ?_
  unfold Builtin.SmallTypes.nextOf
  refine wpAny_bind (wpAny_callSpecial?_slot (name := Str.ofString "__next__") hT F.slot_zip_next
    (wpAny_call_entry F.slot_zip_next hT F.entry_zip_next (zpa_next_item D hz hTI hTO h1 h2 hl1 hl2 hx hy fun h₁ z₁ TO₁ h1₁ h2₁ p₁ sz₁ k₁ => wpAny_pure ?_) (F.args_zip_next_1 _)))
  have el : e < s.heap.objs.size := Heap.lt_size he
  have he₁ : IsEnum h₁ e z i old := k₁ _ _ ez eTO e1 e2 he
  have fin := hQ
  obtain ⟨hp, g, d, tk, os⟩ := s
  show wpAny _ _ (field (.ref e) 3 >>= _) _ _ ⟨h₁, g, d, tk, os⟩
  refine wpAny_bind (wpAny_field he₁ rfl (x := rawInt i) rfl ?_)
  show wpAny _ _ (field (.ref e) 4 >>= _) _ _ ⟨h₁, g, d, tk, os⟩
  refine wpAny_bind (wpAny_field he₁ rfl (x := .none) rfl ?_)
  show wpAny _ _ (mkInt i >>= _) _ _ ⟨h₁, g, d, tk, os⟩
  refine wpAny_bind (wpAny_mkInt ?_)
  show wpAny _ _ (setField (.ref e) 3 (rawInt ((i : Int) + 1)) >>= _) _ _ ⟨h₁, g, d, tk + 1, os⟩
  refine wpAny_bind (wpAny_setField_rec he₁ (by simp) fun h₂ he₂ hs₂ => ?_)
  replace hs₂ : Heap.SameBut e h₁ h₂ := hs₂
  replace he₂ : IsEnum h₂ e z ((i : Int) + 1) old := he₂
  show wpAny _ _ (setField (.ref e) 4 .none >>= _) _ _ ⟨h₂, g, d, tk + 1, os⟩
  refine wpAny_bind (wpAny_setField_rec he₂ (by simp) fun h₃ he₃ hs₃ => ?_)
  replace hs₃ : Heap.SameBut e h₂ h₃ := hs₃
  replace he₃ : IsEnum h₃ e z ((i : Int) + 1) old := he₃
  show wpAny _ _ (newTuple [.int i tk, .ref hp.objs.size] >>= _) _ _ ⟨h₃, g, d, tk + 1, os⟩
  refine wpAny_bind (wpAny_newTuple ?_)
  have hsz : h₃.objs.size = hp.objs.size + 1 := by rw [hs₃.1, hs₂.1]; exact sz₁
  have he₄ : IsEnum (h₃.push { cls := .type "tuple", data := .seq #[.int i tk, .ref hp.objs.size] }) e z ((i : Int) + 1) old := Heap.get?_push_of_some _ he₃
  have ht₄ : (h₃.push { cls := .type "tuple", data := .seq #[.int i tk, .ref hp.objs.size] }).get? (hp.objs.size + 1) = some { cls := .type "tuple", data := .seq #[.int i tk, .ref hp.objs.size] } := by rw [← hsz]; exact Heap.get?_push_size _ rfl
  have hz₄ : (h₃.push { cls := .type "tuple", data := .seq #[.int i tk, .ref hp.objs.size] }).objs.size = hp.objs.size + 2 := by rw [Heap.size_push, hsz]
  have hk₄ : ∀ b o, b ≠ e → h₁.get? b = some o → (h₃.push { cls := .type "tuple", data := .seq #[.int i tk, .ref hp.objs.size] }).get? b = some o := fun b o hbe hb => Heap.get?_push_of_some _ (hs₃.extBut b o hbe (hs₂.extBut b o hbe hb))
  generalize h₃.push { cls := .type "tuple", data := .seq #[.int i tk, .ref hp.objs.size] } = h₄ at he₄ ht₄ hz₄ hk₄
  show wpAny _ _ (Builtin.SmallTypes.ownedTupleIsFree (.ref e) >>= _) _ _ ⟨h₄, g, d, tk + 1, os⟩
  rw [hsz]
  clear he₃ hs₃ he₂ hs₂ hsz
  refine wpAny_bind ?_
  unfold Builtin.SmallTypes.ownedTupleIsFree
  refine wpAny_bind (wpAny_field he₄ rfl (x := .none) rfl (wpAny_pure ?_))
  simp only [if_true]
  refine wpAny_bind (wpAny_rule ?_)
  refine wpAny_bind (wpAny_field he₄ rfl (x := old) rfl ?_)
  refine wpAny_bind (wpAny_setField_rec he₄ (by simp) fun h₅ he₅ hs₅ => ?_)
  replace hs₅ : Heap.SameBut e h₄ h₅ := hs₅
  replace he₅ : IsEnum h₅ e z ((i : Int) + 1) (.ref hp.objs.size) := he₅
  show wpAny _ _ (Builtin.SmallTypes.ownedTupleHandOut (.ref e) (.ref (hp.objs.size + 1)) >>= _) _ _ ⟨h₅, g, d, tk + 1, os⟩
  refine wpAny_bind ?_
  unfold Builtin.SmallTypes.ownedTupleHandOut
  refine wpAny_bind (wpAny_setField_rec he₅ (by simp) fun h₆ he₆ hs₆ => ?_)
  replace hs₆ : Heap.SameBut e h₅ h₆ := hs₆
  replace he₆ : IsEnumOut h₆ e z ((i : Int) + 1) (.ref hp.objs.size) (hp.objs.size + 1) := he₆
  refine wpAny_setField_rec he₆ (by simp) fun h₇ he₇ hs₇ => ?_
  replace hs₇ : Heap.SameBut e h₆ h₇ := hs₇
  replace he₇ : IsEnumOut h₇ e z ((i : Int) + 1) (.ref hp.objs.size) (hp.objs.size + 1) := he₇
  have up : ∀ b o, b ≠ e → h₄.get? b = some o → h₇.get? b = some o := fun b o n h => hs₇.extBut _ _ n (hs₆.extBut _ _ n (hs₅.extBut _ _ n h))
  have up1 : ∀ b o, b ≠ e → h₁.get? b = some o → h₇.get? b = some o := fun b o n h => up b o n (hk₄ b o n h)
  refine wpAny_bind (wpAny_letGo (wpAny_pure ⟨_, rfl, ?_⟩))
  have el : e < hp.objs.size := el
  obtain ⟨g0, g1, gz, gf⟩ := z₁
  obtain ⟨a', b', hTO₁⟩ := TO₁
  exact fin h₇ tk _ he₇ ⟨g0, g1, up1 _ _ ez.symm gz, gf⟩ ⟨a', b', up1 _ _ eTO.symm hTO₁⟩ (h1₁.at fun o q => up1 _ _ e1.symm q) (h2₁.at fun o q => up1 _ _ e2.symm q) (up1 _ _ (Nat.ne_of_gt el) p₁)
    (up _ _ (Nat.ne_of_gt (Nat.lt_succ_of_lt el)) ht₄) (by rw [hs₇.1, hs₆.1, hs₅.1]; exact hz₄) fun c o n1 n2 n3 n4 n5 q => up1 _ _ n1 (k₁ c o n2 n3 n4 n5 q)
end
end PySem
end
section
set_option maxHeartbeats 4000000
namespace PySem
open Sem (wp)
open AutoSeq1 (wpAny_loadPart')
section
variable {prog : Program} {w : World} {A : Around} {E : Value → Shared → Prop} {s : Shared}
theorem pyNext_enumz_item {e z TI TO i1 i2 l1 l2 : Addr} {k : Nat} {xs ys : Array Value} {x y : Value} {i : Nat} {old : Value} {Q : Option Value → Shared → Prop} (D : ZipApart z TI TO i1 i2 l1 l2) (he : IsEnum s.heap e z i old)
    (ez : e ≠ z) (eTO : e ≠ TO) (e1 : e ≠ i1) (e2 : e ≠ i2) (eTI : e ≠ TI)
    (hz : ZPa s.heap z TI TO) (hTI : IsPair s.heap TI (.ref i1) (.ref i2)) (hTO : ∃ a b, IsPair s.heap TO a b)
    (h1 : s.heap.IsListIter i1 l1 k) (h2 : s.heap.IsListIter i2 l2 k) (hl1 : s.heap.IsList l1 xs) (hl2 : s.heap.IsList l2 ys) (hx : xs[k]? = some x) (hy : ys[k]? = some y)
    (hQ : ∀ h' tk it, IsEnumOut h' e z ((i : Int) + 1) it (s.heap.objs.size + 1) → ZPa h' z TI TO → (∃ a b, IsPair h' TO a b) → h'.IsListIter i1 l1 (k + 1) → h'.IsListIter i2 l2 (k + 1) → IsPair h' s.heap.objs.size x y →
      h'.get? (s.heap.objs.size + 1) = some { cls := .type "tuple", data := .seq #[.int i tk, .ref s.heap.objs.size] } → h'.objs.size = s.heap.objs.size + 2 →
      (∀ c o, c ≠ e → c ≠ z → c ≠ TO → c ≠ i1 → c ≠ i2 → s.heap.get? c = some o → h'.get? c = some o) → Q (some (.ref (s.heap.objs.size + 1))) { s with heap := h', toks := tk + 1 }) :
    wpAny (model prog w) A (pyNext (.ref e)) Q E s := by
  have hT : s.TypeIs (.ref e) "enumerate" := ⟨_, he, rfl⟩
  unfold pyNext
  exact wpAny_bind (wpAny_attempt (wpAny_callSpecial?_slot (name := Str.ofString "__next__") hT F.slot_enumerate_next
    (wpAny_call_entry F.slot_enumerate_next hT F.entry_enumerate_next
      (enumz_next_item D he ez eTO e1 e2 eTI hz hTI hTO h1 h2 hl1 hl2 hx hy fun h' tk it a1 a2 a3 a4 a5 a6 a7 a8 a9 => wpAny_pure (hQ h' tk it a1 a2 a3 a4 a5 a6 a7 a8 a9)) (F.args_enumerate_next_1 _))))
theorem pyNext_enumz_end {e z TI TO i1 i2 l1 l2 : Addr} {k : Nat} {xs ys : Array Value} {i : Int} {old : Value} {Q : Option Value → Shared → Prop} (hh : A.handled = none) (D : ZipApart z TI TO i1 i2 l1 l2) (he : IsEnum s.heap e z i old)
    (hz : ZPa s.heap z TI TO) (hTI : IsPair s.heap TI (.ref i1) (.ref i2)) (hTO : ∃ a b, IsPair s.heap TO a b)
    (h1 : s.heap.IsListIter i1 l1 k) (h2 : s.heap.IsListIter i2 l2 k) (hl1 : s.heap.IsList l1 xs) (hl2 : s.heap.IsList l2 ys) (hend : xs[k]? = none)
    (hQ : ∀ h', (∀ c o, c ≠ z → c ≠ TO → c ≠ i1 → c ≠ i2 → s.heap.get? c = some o → h'.get? c = some o) → Q none { s with heap := h' }) :
    wpAny (model prog w) A (pyNext (.ref e)) Q E s := by
  have hT : s.TypeIs (.ref e) "enumerate" := ⟨_, he, rfl⟩
  have hTz : s.TypeIs (.ref z) "zip" := by obtain ⟨f0, f1, h, _⟩ := hz; exact ⟨_, h, rfl⟩
  unfold pyNext
  refine wpAny_bind (wpAny_attempt (wpAny_callSpecial?_slot (name := Str.ofString "__next__") hT F.slot_enumerate_next
    (wpAny_call_entry F.slot_enumerate_next hT F.entry_enumerate_next ?_ (F.args_enumerate_next_1 _))))
  show wpAny _ _ (field (.ref e) 2 >>= _) _ _ _
  refine wpAny_bind (wpAny_field he rfl (x := .ref z) rfl ?_)
  refine wpAny_bind ?_
  unfold Builtin.SmallTypes.nextOf
  refine wpAny_bind (wpAny_callSpecial?_slot (name := Str.ofString "__next__") hTz F.slot_zip_next
    (wpAny_call_entry F.slot_zip_next hTz F.entry_zip_next (zpa_next_end hh D hz hTI hTO h1 h2 hl1 hl2 hend fun h' x hk hx' => ?_) (F.args_zip_next_1 _)))
  obtain ⟨o, ho, hc⟩ := hx'
  refine wpAny_bind (wpAny_isInstance (T := "StopIteration") (b := true) ⟨o, ho, hc⟩ isSubtype_stop ?_)
  exact wpAny_pure (hQ _ hk)
theorem meets_enumerate_newZ (z TI TO : Addr) :
    Meets (Builtin.«enumerate.__new__» ⟨[.type "enumerate", .ref z], []⟩) (fun _ R s => IsZip s.heap z TI TO .none ∧
      R (.ok (.ret (.ref s.heap.objs.size)))
        { s with heap := s.heap.push { cls := .type "enumerate", data := .fields #[.none, .bool false, .ref z, rawInt 0, .none, .none] } }) :=
  .of_wp fun prog w A R s h => by
    obtain ⟨hp, g, d, tk, os⟩ := s; obtain ⟨hl, h⟩ := h
    have hsub := sub_enumerate
    wp_walk using wpAny_loadPart' hl
    refine wpAny_stack_any fun st => wpAny_pure ?_
    split
    · rename_i c _ _ _ _ _
      cases (c == Value.type "enumerate")
      · wp_walk using wpAny_loadPart' hl, wpAny_pyIter_zip hl
        exact ⟨_, rfl, h⟩
      · wp_walk using wpAny_loadPart' hl, wpAny_pyIter_zip hl
        exact ⟨_, rfl, h⟩
    · wp_walk using wpAny_loadPart' hl, wpAny_pyIter_zip hl
      exact ⟨_, rfl, h⟩
theorem call_enumerate_zip {z TI TO : Addr} {Q : Value → Shared → Prop} (hL : IsZip s.heap z TI TO .none)
    (h : ∀ h', IsEnum h' s.heap.objs.size z 0 .none → h'.objs.size = s.heap.objs.size + 1 →
      (∀ b o, s.heap.get? b = some o → h'.get? b = some o) → Q (.ref s.heap.objs.size) { s with heap := h' }) :
    wpAny (model prog w) A (call (.type "enumerate") [.ref z]) Q E s := by
  refine callType_new F.called_enumerate (by decide) (F.typeCall_enumerate_1 _) (F.newCall_enumerate_1 _) (fun obj => F.args_object_init_2 obj _) F.entry_enumerate_new
    (meets_enumerate_newZ z TI TO) ⟨hL, ?_⟩
  have he : IsEnum (s.heap.push { cls := .type "enumerate", data := .fields #[.none, .bool false, .ref z, rawInt 0, .none, .none] }) s.heap.objs.size z 0 .none := Heap.get?_push_size _ rfl
  exact ⟨⟨_, he, rfl⟩, h _ he (Heap.size_push ..) fun b o x => Heap.get?_push_of_some _ x⟩
end
end PySem
namespace L2
open PySem PySem.Spec PyProof.Rows RZ
theorem get?_push_back {h : Heap} {a : Addr} {o o' : Obj} (e : (h.push o).get? a = some o') (n : a ≠ h.objs.size) : h.get? a = some o' := by
  obtain ⟨e1, e2⟩ := Heap.get?_some_iff.mp e
  refine Heap.get?_some_iff.mpr ⟨?_, e2⟩
  cases h; simpa [Heap.push, Array.getElem?_push, n] using e1
/-- the lists at a and b as they stand at each turn, the items in a new pair, and this with the index in another one -/
def Iez (K : PySem.W.Frag) (a b : Addr) : It :=
  ⟨fun i H => ∃ (xs ys : List V) (x y : V), SqL K H a xs ∧ SqL K H b ys ∧ xs[i]? = some x ∧ ys[i]? = some y,
    fun i H v H' => ∃ T U x y, v = .ref U ∧ H T = none ∧ U ≠ T ∧ H U = none ∧ H' = upd (upd H T (.tup [x, y])) U (.tup [.int (i : Nat), .ref T]) ∧ (∀ xs, SqL K H a xs → xs[i]? = some x) ∧ ∀ ys, SqL K H b ys → ys[i]? = some y,
    fun i H => ∃ xs : List V, SqL K H a xs ∧ (∃ ys, SqL K H b ys) ∧ xs.length ≤ i⟩
theorem turn_enumz {P : Program} {w : World} {K : PySem.W.Frag} {elts : List Expr} {kk : Nat} {tpos : Pos} {a b e z TI TO i1 i2 : Addr} (D : ZipApart z TI TO i1 i2 a b) (ez : e ≠ z) (eTO : e ≠ TO) (e1 : e ≠ i1) (e2 : e ≠ i2) (eTI : e ≠ TI) :
    Turn P w K (.Tuple elts kk tpos) (Iez K a b) [e, z, TI, TO, i1, i2] e (fun i h => (∃ old, IsEnum h e z ((i : Nat) : Int) old) ∧ ZPa h z TI TO ∧ IsPair h TI (.ref i1) (.ref i2) ∧ (∃ x y, IsPair h TO x y) ∧ h.IsListIter i1 a i ∧ h.IsListIter i2 b i) where
  mem := by simp
  obj := fun i h st c hc => by
    obtain ⟨⟨old, he⟩, ⟨f0, f1, hz, _⟩, hTI, ⟨x, y, hTO⟩, ⟨o1, q1, _, d1⟩, ⟨o2, q2, _, d2⟩⟩ := st
    have e' : c = e ∨ c = z ∨ c = TI ∨ c = TO ∨ c = i1 ∨ c = i2 := by simpa using hc
    rcases e' with q | q | q | q | q | q
    · rw [q]; exact ⟨_, he, fun v q => nomatch q⟩
    · rw [q]; exact ⟨_, hz, fun v q => nomatch q⟩
    · rw [q]; exact ⟨_, hTI, fun v q => nomatch q⟩
    · rw [q]; exact ⟨_, hTO, fun v q => nomatch q⟩
    · rw [q]; exact ⟨o1, q1, fun v q => by rw [d1] at q; cases q⟩
    · rw [q]; exact ⟨o2, q2, fun v q => by rw [d2] at q; cases q⟩
  keep := fun i h h' st k => by
    obtain ⟨⟨old, he⟩, ⟨f0, f1, hz, hf⟩, hTI, ⟨x, y, hTO⟩, h1, h2⟩ := st
    exact ⟨⟨old, k e (by simp) _ he⟩, ⟨f0, f1, k z (by simp) _ hz, hf⟩, k TI (by simp) _ hTI, ⟨x, y, k TO (by simp) _ hTO⟩, h1.at fun o q => k i1 (by simp) o q, h2.at fun o q => k i2 (by simp) o q⟩
  item := by
    intro X hP hw hK hc i pins s σ H E I hf st hg
    subst hP hw hK
    obtain ⟨⟨old, he⟩, hz, hTI, hTO, h1, h2⟩ := st
    obtain ⟨xs, ys, x, y, hqx, hqy, hx, hy⟩ := hg
    obtain ⟨its, rv, p, _⟩ := I.list hqx
    obtain ⟨its2, rv2, p2, _⟩ := I.list hqy
    obtain ⟨u, hu, ru⟩ := rv.get hx
    obtain ⟨u2, hu2, ru2⟩ := rv2.get hy
    have hel : e < s.heap.objs.size := Heap.lt_size he
    refine pyNext_enumz_item D he ez eTO e1 e2 eTI hz hTI hTO h1 h2 p.isList p2.isList (x := u) (y := u2) (by simpa using hu) (by simpa using hu2) fun h' tk it ho hz' TO' h1' h2' hT hU hsz hk => ?_
    refine ⟨_, rfl, wpAny_letOwnedTupleGo_enum (s := { s with heap := h', toks := tk + 1 }) ho fun h'' he' sb => ?_⟩
    have hT2 : h''.get? s.heap.objs.size = some { cls := .type "tuple", data := .seq #[u, u2] } := (sb.2 _ (Nat.ne_of_gt hel)).trans hT
    have hU2 : h''.get? (s.heap.objs.size + 1) = some { cls := .type "tuple", data := .seq #[.int i tk, .ref s.heap.objs.size] } := (sb.2 _ (Nat.ne_of_gt (Nat.lt_succ_of_lt hel))).trans hU
    have newT : ObjOk X.prog X.w (upd H s.heap.objs.size (.tup [x, y])) h'' s.heap.objs.size (.tup [x, y]) :=
      ⟨by show 2 ≤ sizeLine; decide, [u, u2], .cons ru (.cons ru2 .nil), ⟨_, hT2, rfl, _, rfl⟩⟩
    have kk : ∀ c o, c ∉ [e, z, TI, TO, i1, i2] → s.heap.get? c = some o → h''.get? c = some o := fun c o hb q =>
      (sb.2 c (fun q' => hb (by simp [q']))).trans (hk c o (fun q' => hb (by simp [q'])) (fun q' => hb (by simp [q'])) (fun q' => hb (by simp [q'])) (fun q' => hb (by simp [q'])) (fun q' => hb (by simp [q'])) q)
    have lt : ∀ c ∈ [e, z, TI, TO, i1, i2], c < s.heap.objs.size := fun c hcm => by
      have e' : c = e ∨ c = z ∨ c = TI ∨ c = TO ∨ c = i1 ∨ c = i2 := by simpa using hcm
      rcases e' with q | q | q | q | q | q
      · rw [q]; exact hel
      · rw [q]; obtain ⟨_, _, q, _⟩ := hz; exact Heap.lt_size q
      · rw [q]; exact Heap.lt_size hTI
      · rw [q]; obtain ⟨_, _, q⟩ := hTO; exact Heap.lt_size q
      · rw [q]; obtain ⟨_, q, _⟩ := h1; exact Heap.lt_size q
      · rw [q]; obtain ⟨_, q, _⟩ := h2; exact Heap.lt_size q
    let hp : Heap := s.heap.push { cls := .type "tuple", data := .seq #[u, u2] }
    have hpT : hp.get? s.heap.objs.size = some { cls := .type "tuple", data := .seq #[u, u2] } := Heap.get?_push_size _ rfl
    have hpz : hp.objs.size = s.heap.objs.size + 1 := Heap.size_push ..
    have newT' : ObjOk X.prog X.w (upd H s.heap.objs.size (.tup [x, y])) hp s.heap.objs.size (.tup [x, y]) :=
      ⟨by show 2 ≤ sizeLine; decide, [u, u2], .cons ru (.cons ru2 .nil), ⟨_, hpT, rfl, _, rfl⟩⟩
    have I1 : Inv X pins σ (upd H s.heap.objs.size (.tup [x, y])) { s with heap := hp, toks := s.toks } :=
      I.turnedNew (t' := s.toks) (ch := []) (fun c o _ q => Heap.get?_push_of_some _ q) (fun b hb => by simp at hb) (Nat.le_refl _) newT'
    have hf1 : ∀ b ∈ [e, z, TI, TO, i1, i2], FpOk X pins (upd H s.heap.objs.size (.tup [x, y])) b := fun b hb => by
      obtain ⟨q1, q2⟩ := hf b hb
      exact ⟨by rw [upd_ne (Nat.ne_of_lt (lt b hb))]; exact q1, q2⟩
    have kk1 : ∀ c o, c ∉ [e, z, TI, TO, i1, i2] → hp.get? c = some o → h''.get? c = some o := fun c o hb q => by
      rcases Nat.lt_or_ge c s.heap.objs.size with lc | lc
      · refine kk c o hb ?_
        exact get?_push_back q (Nat.ne_of_lt lc)
      · have : c < hp.objs.size := Heap.lt_size q
        obtain rfl : c = s.heap.objs.size := Nat.le_antisymm (Nat.le_of_lt_succ (by rw [hpz] at this; exact this)) lc
        rw [hpT] at q
        rw [hT2]
        exact q
    have I2 : Inv X pins σ (upd (upd H s.heap.objs.size (.tup [x, y])) (s.heap.objs.size + 1) (.tup [.int (i : Nat), .ref s.heap.objs.size])) { s with heap := h'', toks := tk + 1 } :=
      I1.turnedNew (t' := tk + 1) (ch := [e, z, TI, TO, i1, i2]) kk1 hf1 (by show hp.objs.size ≤ _; omega)
        ⟨by show 2 ≤ sizeLine; decide, [.int i tk, .ref s.heap.objs.size], .cons ⟨_, rfl⟩ (.cons rfl .nil), ⟨_, hU2, rfl, _, rfl⟩⟩
    refine ⟨.ref (s.heap.objs.size + 1), _, I2, rfl, ⟨_, _, x, y, rfl, I.hok.fresh (Nat.le_refl _), Nat.succ_ne_self _, I.hok.fresh (Nat.le_succ _), rfl, fun l hl => by rw [I.list_inj hl hqx]; exact hx, fun l hl => by rw [I.list_inj hl hqy]; exact hy⟩, ⟨⟨it, ?_⟩, ?_, ?_, ?_, ?_, ?_⟩, fun c hcm => ?_⟩
    · have e1' : ((i + 1 : Nat) : Int) = (i : Int) + 1 := by omega
      rw [e1']; exact he'
    · obtain ⟨f0, f1, q, qf⟩ := hz'
      exact ⟨f0, f1, (sb.2 _ ez.symm).trans q, qf⟩
    · exact (sb.2 _ eTI.symm).trans (hk _ _ eTI.symm D.TIz D.TITO D.TIi1 D.TIi2 hTI)
    · obtain ⟨a', b', q⟩ := TO'
      exact ⟨a', b', (sb.2 _ eTO.symm).trans q⟩
    · exact h1'.at fun o q => (sb.2 _ e1.symm).trans q
    · exact h2'.at fun o q => (sb.2 _ e2.symm).trans q
    · have := lt c hcm
      rw [upd_ne (Nat.ne_of_lt (Nat.lt_succ_of_lt this)), upd_ne (Nat.ne_of_lt this)]
      exact (hf c hcm).1
  done := by
    intro X hP hw hK hc i pins s σ H E I hf st hg
    subst hP hw hK
    obtain ⟨⟨old, he⟩, hz, hTI, hTO, h1, h2⟩ := st
    obtain ⟨xs, hqx, ⟨ys, hqy⟩, hend⟩ := hg
    obtain ⟨its, rv, p, _⟩ := I.list hqx
    obtain ⟨its2, rv2, p2, _⟩ := I.list hqy
    have l1 := rv.length
    have he' : its.toArray[i]? = none := by simp; omega
    exact pyNext_enumz_end (I.ok.hd hc) D he hz hTI hTO h1 h2 p.isList p2.isList he' fun h' hk => ⟨rfl, I.turnedL (t' := s.toks) (ch := [e, z, TI, TO, i1, i2]) (fun c o hb q =>
      hk c o (fun q' => hb (by simp [q'])) (fun q' => hb (by simp [q'])) (fun q' => hb (by simp [q'])) (fun q' => hb (by simp [q'])) q) hf⟩
  self := fun A i s Q E st h => let ⟨⟨_, he⟩, _⟩ := st; wpAny_pyIter_enum he h
/-- enumerate(zip(x, y)) of two lists -/
def iEnZ (K : PySem.W.Frag) (ta : TA) : TI := fun σ H R => ta σ H fun vs H1 => ∃ a b xs ys, vs = [.ref a, .ref b] ∧ SqL K H1 a xs ∧ SqL K H1 b ys ∧ R (Iez K a b) H1
theorem pi_enumzip {X : Cx} {e e2 : Expr} {ta : TA} {p pos p2 pos2 tpos : Pos} {elts : List Expr} {kk : Nat} (hg : Gl X "enumerate") (hm : X.mg "enumerate" = none) (hg2 : Gl X "zip") (hm2 : X.mg "zip" = none) (ha : PA X [e, e2] ta)
    (hs : starEach [e, e2] X.env = (false, eval e X.env) :: starEach [e2] X.env := by rfl) (hpl : (backTo pos2 (starEach [e2] X.env)).any (·.1) = false := by rfl) (hz : starEach [.Call (.Name "zip" p2) [e, e2] [] pos2] X.env = [(false, eval (.Call (.Name "zip" p2) [e, e2] [] pos2) X.env)] := by rfl) :
    PI X (.Tuple elts kk tpos) (.Call (.Name "enumerate" p) [.Call (.Name "zip" p2) [e, e2] [] pos2] [] pos) (iEnZ X.K ta) := by
  refine ⟨fun pins s σ H R I h => ?_⟩
  refine Call_ (ld_blt I hg hm boot_enumerate (PyProof.Rows.callWith_type1 ?_ hz rfl))
  rw [hz]
  show wpAny _ _ (spliced [(false, eval (.Call (.Name "zip" p2) [e, e2] [] pos2) X.env)]) _ _ _
  refine Calls.spliced_cons ?_
  refine Call_ (ld_blt I hg2 hm2 PyProof.Rows.boot_zip (PyProof.Rows.callWith_type1 (thn (ha.run pos2 pins s σ H _ I h) fun us s1 ⟨vs, H1, I1, r1, q1⟩ => ?_) hs hpl))
  obtain ⟨a, b, xs, ys, ex, hqx, hqy, q⟩ := q1
  subst ex
  cases r1 with
  | cons r rr =>
    cases rr with
    | cons r' rr =>
      cases rr
      cases r
      cases r'
      obtain ⟨its, rv, p1, _⟩ := I1.list hqx
      obtain ⟨its2, rv2, p2', _⟩ := I1.list hqy
      have la : a < s1.heap.objs.size := p1.lt
      have lb : b < s1.heap.objs.size := p2'.lt
      refine call_zip_2 p1.isList p2'.isList fun h' hzz hTI hTO h1 h2 hsz hk => ?_
      refine Calls.spliced_nil ?_
      refine call_enumerate_zip (s := { s1 with heap := h' }) hzz fun h'' he hsz' hk' => wpAny_pyIter_enum he ?_
      have hk2 : ∀ c o, s1.heap.get? c = some o → h''.get? c = some o := fun c o q => hk' c o (hk c o q)
      have I2 : Inv X pins σ H1 { s1 with heap := h'' } := I1.kept (t' := s1.toks) hk2
      have he : IsEnum h'' (s1.heap.objs.size + 5) (s1.heap.objs.size + 4) 0 .none := by rw [← hsz]; exact he
      have nn : ∀ i j : Nat, i ≠ j → s1.heap.objs.size + i ≠ s1.heap.objs.size + j := fun i j h e => h (Nat.add_left_cancel e)
      show PIE X pins σ _ R (.ref h'.objs.size) _
      rw [hsz]
      refine ⟨s1.heap.objs.size + 5, [s1.heap.objs.size + 5, s1.heap.objs.size + 4, s1.heap.objs.size + 2, s1.heap.objs.size + 3, s1.heap.objs.size, s1.heap.objs.size + 1], _, _, H1, rfl, I2,
        turn_enumz (PySem.W.ktu_apart s1.heap.objs.size a b la lb) (nn 5 4 (by decide)) (nn 5 3 (by decide)) (nn 5 0 (by decide)) (nn 5 1 (by decide)) (nn 5 2 (by decide)),
        ⟨⟨.none, he⟩, ⟨.none, false, hk' _ _ hzz, .inl rfl⟩, hk' _ _ hTI, ⟨_, _, hk' _ _ hTO⟩, h1.at fun o q => hk' _ _ q, h2.at fun o q => hk' _ _ q⟩, fun c hcm => ?_, q⟩
      have e' : c = s1.heap.objs.size + 5 ∨ c = s1.heap.objs.size + 4 ∨ c = s1.heap.objs.size + 2 ∨ c = s1.heap.objs.size + 3 ∨ c = s1.heap.objs.size ∨ c = s1.heap.objs.size + 1 := by simpa using hcm
      have hle : s1.heap.objs.size ≤ c := by
        rcases e' with z | z | z | z | z | z
        · rw [z]; exact Nat.le_add_right _ _
        · rw [z]; exact Nat.le_add_right _ _
        · rw [z]; exact Nat.le_add_right _ _
        · rw [z]; exact Nat.le_add_right _ _
        · rw [z]; exact Nat.le_refl _
        · rw [z]; exact Nat.le_add_right _ _
      exact I1.fpOk hle (I1.hok.fresh hle)
def YEz (xs ys : List V) : Nat → Hp → V → Hp → Prop := fun i H v H' => ∃ T U x y, v = .ref U ∧ H T = none ∧ U ≠ T ∧ H U = none ∧ H' = upd (upd H T (.tup [x, y])) U (.tup [.int (i : Nat), .ref T]) ∧ xs[i]? = some x ∧ ys[i]? = some y
theorem walk_enumzip {K : PySem.W.Frag} {a b : Addr} {xs ys : List V} (hl : xs.length = ys.length) : Walk (Iez K a b) xs.length (fun H => SqL K H a xs ∧ SqL K H b ys) (YEz xs ys) := by
  refine ⟨fun i _ hi q => ⟨xs, ys, xs[i], ys[i]'(by omega), q.1, q.2, by simp [hi], by simp [show i < ys.length by omega]⟩, fun _ q => ⟨xs, q.1, ⟨ys, q.2⟩, Nat.le_refl _⟩, fun i H v H' _ q y => ?_⟩
  obtain ⟨T, U, x, y, h1, h2, h3, h4, h5, h6, h7⟩ := y
  exact ⟨T, U, x, y, h1, h2, h3, h4, h5, h6 xs q.1, h7 ys q.2⟩
end L2
end
section
set_option maxHeartbeats 4000000
namespace Kx
open PySem PySem.Spec PyProof.Rows L2
theorem sll_at {X : Cx} (K : PySem.W.Frag) (h : X.K = K) : SlR X (rSlL K) := by
  subst h
  exact sl_list
/-- .. with the new list seen at each turn -/
theorem lc_accD {J : It} {n : Nat} {G : Hp → Prop} {Y : Nat → Hp → V → Hp → Prop} (w : Walk J n G Y) {g : TG} {te : TE} {vs : List Nat} {σ : L2.St} {H1 : Hp} {D : Addr} {Qd : Hp → Prop} (R : Nat → Hp → V → Prop)
    (mono : ∀ i H H' y l, R i H y → H D = some (.lst l) → But D H H' → R i H' y) (nD : H1 D = none) (hn : n ≤ 900) (hG : ∀ H, Same H1 H → G H)
    (hs : ∀ i x H H' (k : V → Hp → Prop), i < n → Same H1 H → (∃ l, H D = some (.lst l)) → Y i H x H' → (∀ y H4, Same H H4 → R i H4 y → k y H4) → g x (wipe σ vs) H' fun σ2 H2 => wipe σ2 vs = wipe σ vs ∧ te σ2 H2 k)
    (hd : ∀ H xs, Same H1 H → H D = some (.lst xs) → xs.length = n → (∀ (i : Nat) y, xs[i]? = some y → R i H y) → Qd H) :
    ∃ W : Nat → Nat → Hp → Prop, (∃ m, W 0 m (upd H1 D (.lst []))) ∧ ∀ i m H, W i m H →
      (J.stop i H ∧ Qd H) ∨ (J.go i H ∧ ∃ Nx : Hp → Prop, (∀ H', Nx H' → ∃ m', m' < m ∧ W (i + 1) m' H') ∧ ∀ x H', J.yld i H x H' → g x (wipe σ vs) H' fun σ2 H2 => wipe σ2 vs = wipe σ vs ∧ tYes σ2 H2 fun b H3 =>
        if b = true then te σ2 H3 fun y H4 => ∃ acc, H4 D = some (.lst acc) ∧ acc.length < sizeLine ∧ Nx (upd H4 D (.lst (acc ++ [y]))) else Nx H3) := by
  refine lc_it w (fun i H => Same H1 H ∧ ∃ xs, H D = some (.lst xs) ∧ xs.length = i ∧ ∀ (j : Nat) y, xs[j]? = some y → R j H y) ⟨new_same nD _, [], upd_same, rfl, fun j y h => by simp at h⟩ (fun i H _ h => hG H h.1) ?_ ?_
  · rintro i x H H' hi ⟨s1, xs, hx, hl, hR⟩ y
    have z := hs i x H H' (fun y H4 => ∃ acc, H4 D = some (.lst acc) ∧ acc.length < sizeLine ∧ (Same H1 (upd H4 D (.lst (acc ++ [y]))) ∧ ∃ xs, (upd H4 D (.lst (acc ++ [y]))) D = some (.lst xs) ∧ xs.length = i + 1 ∧ ∀ (j : Nat) z, xs[j]? = some z → R j (upd H4 D (.lst (acc ++ [y]))) z)) hi s1 ⟨xs, hx⟩ y (fun y H4 s4 r4 => ?_)
    · exact z
    · have h4 := s4 _ _ hx
      refine ⟨xs, h4, small1000 (by omega), fun e o h => ?_, xs ++ [y], upd_same, by rw [List.length_append, hl]; rfl, fun j z hz => ?_⟩
      · rw [upd_ne (ne_of_none h nD)]
        exact s4 _ _ (s1 _ _ h)
      · have sm : But D H4 (upd H4 D (.lst (xs ++ [y]))) := fun e o n h => by rw [upd_ne n]; exact h
        by_cases c : j < xs.length
        · rw [List.getElem?_append_left c] at hz
          exact mono j H _ z _ (hR j z hz) hx ((But.same s4).trans sm)
        · rw [List.getElem?_append_right (by omega)] at hz
          match hj : j - xs.length, hz with
          | 0, hz =>
            rw [← Option.some.inj (show some y = some z from hz)]
            obtain rfl : j = i := by omega
            exact mono j H4 _ _ _ r4 h4 sm
          | _ + 1, hz => simp at hz
  · rintro H ⟨s1, xs, hx, hl, hR⟩
    exact hd H xs s1 hx hl hR
/-- .. lists of numbers -/
theorem lc_rows {K : PySem.W.Frag} {J : It} {n : Nat} {G : Hp → Prop} {Y : Nat → Hp → V → Hp → Prop} (w : Walk J n G Y) {g : TG} {te : TE} {vs : List Nat} {σ : L2.St} {H1 : Hp} {D : Addr} {Qd : Hp → Prop} (rows : List (List Rat))
    (hl : rows.length = n) (nD : H1 D = none) (hn : n ≤ 900) (hG : ∀ H, Same H1 H → G H)
    (hs : ∀ i r x H H' (k : V → Hp → Prop), rows[i]? = some r → Same H1 H → Y i H x H' → (∀ b H4, Same H H4 → H b = none → Ls K H4 (.ref b) r → k (.ref b) H4) → g x (wipe σ vs) H' fun σ2 H2 => wipe σ2 vs = wipe σ vs ∧ te σ2 H2 k)
    (hd : ∀ H xs, Same H1 H → H D = some (.lst xs) → Lsl K H xs rows → (∀ x ∈ xs, x ≠ .ref D) → Qd H) :
    ∃ W : Nat → Nat → Hp → Prop, (∃ m, W 0 m (upd H1 D (.lst []))) ∧ ∀ i m H, W i m H →
      (J.stop i H ∧ Qd H) ∨ (J.go i H ∧ ∃ Nx : Hp → Prop, (∀ H', Nx H' → ∃ m', m' < m ∧ W (i + 1) m' H') ∧ ∀ x H', J.yld i H x H' → g x (wipe σ vs) H' fun σ2 H2 => wipe σ2 vs = wipe σ vs ∧ tYes σ2 H2 fun b H3 =>
        if b = true then te σ2 H3 fun y H4 => ∃ acc, H4 D = some (.lst acc) ∧ acc.length < sizeLine ∧ Nx (upd H4 D (.lst (acc ++ [y]))) else Nx H3) := by
  refine lc_accD w (fun i H y => y ≠ .ref D ∧ ∀ r, rows[i]? = some r → Ls K H y r) (fun i H H' y l h hD s => ⟨h.1, fun r hr => (h.2 r hr).butL hD h.1 s⟩) nD hn hG (fun i x H H' k hi s hD y hk => ?_) (fun H xs s h l hR => hd H xs s h ⟨by rw [l, hl], fun i x q h1 h2 => (hR i x h1).2 q h2⟩ fun x hx => ?_)
  · have e := List.getElem?_eq_getElem (l := rows) (i := i) (by omega)
    obtain ⟨l, hl⟩ := hD
    refine hs i _ x H H' k e s y fun b H4 s4 n4 r4 => hk _ H4 s4 ⟨fun z => ?_, fun q hq => ?_⟩
    · rw [V.ref.inj z, hl] at n4
      cases n4
    · rw [e] at hq
      rw [← Option.some.inj hq]
      exact r4
  · obtain ⟨i, hi⟩ := List.getElem?_of_mem hx
    exact (hR i x hi).1
def powL (u : List Rat) : Nat → List Rat
  | 0 => u
  | k + 1 => mulL (powL u k) u
theorem mulL_len (u w : List Rat) : (mulL u w).length = u.length := by unfold mulL; rw [List.length_map, List.length_range]
theorem powL_len (u : List Rat) : ∀ k, (powL u k).length = u.length
  | 0 => rfl
  | k + 1 => by
    show (mulL _ _).length = _
    rw [mulL_len, powL_len u k]
theorem powL_toL {n : Nat} (f : Ser) : ∀ k, powL (toL n f) k = toL n (powS f (k + 1))
  | 0 => by
    show toL n f = toL n (powS f 1)
    rw [powS_one]
  | k + 1 => by
    show mulL (powL (toL n f) k) (toL n f) = toL n (mulS (powS f (k + 1)) f)
    rw [powL_toL f k, mulL_toL]
def tabL (qs : List Rat) : List (List Rat) := (List.range qs.length).map fun k => (powL (0 :: qs) k).drop 1
theorem tabL_len (qs : List Rat) : (tabL qs).length = qs.length := by unfold tabL; rw [List.length_map, List.length_range]
theorem tabL_row {qs : List Rat} : ∀ r ∈ tabL qs, r.length = qs.length := fun r hr => by
  obtain ⟨k, _, rfl⟩ := List.mem_map.mp hr
  rw [List.length_drop, powL_len]
  rfl
/-- all powers over one lower part -/
def PowD (L B : Nat) (rs : List Rat) : Prop := ∀ k, k < rs.length → AllD L B (powL (0 :: rs) k)
theorem tabL_d {L B : Nat} {rs : List Rat} (h : PowD L B rs) : ∀ r ∈ tabL rs, AllD L B r := fun r hr => by
  unfold tabL at hr
  obtain ⟨k, hk, rfl⟩ := List.mem_map.mp hr
  exact fun q hq => h k (List.mem_range.mp hk) q (List.mem_of_mem_drop hq)
def spTab (K : PySem.W.Frag) : Sp := fun vs H Q _ => ∃ (x : V) (qs : List Rat) (L B : Nat), vs = [x] ∧ Ls K H x qs ∧ 1 ≤ qs.length ∧ qs.length ≤ 24 ∧ SmL L ∧ B ≤ 100000 ∧ PowD L B qs ∧ GivesLL K H Q (tabL qs)
abbrev nTb : List Str := ["numbers", "step", "powers", "power"]
section
variable {P : Program} {w : World} {K : PySem.W.Frag} {mg : Str → Option Value} {base : Heap} {f fL o0 : Addr} {fd fdL : FuncData}
theorem scTb : FnScope nTb ["numbers"] (defScope F_table_lines) := ⟨rfl, rfl, rfl, by decide +kernel, rfl, by decide +kernel, by decide +kernel⟩
theorem ok_tab (F : Fun K "table_lines" "table_lines" F_table_lines f fd) (k0 : KP K o0 0 1) (mZ : mg "ZERO" = some (.ref o0)) (mn : mg "len" = none) (UM : Use P w K mg base CX0 2 "multiplied" ["one", "other"] (spMulL K) []) : FnOk P w K mg base CX0 3 f fd ["numbers"] (spTab K) := by
  refine F.ok scTb (fun vs H Q E h => ?_) (fun cdv A outer s H vs Q E hr h => ?_)
  · obtain ⟨x, qs, L, B, rfl, _⟩ := h
    rfl
  obtain ⟨x, qs, L, B, rfl, ⟨xa, xs, rfl, hx, nx⟩, l1, l24, sL, lB, bq, q⟩ := h
  refine ⟨_, pss_cons (ps_set (i := 1) scTb.nd rfl (Or.inl rfl) (pe_op op_cat (pe_lst (pa_cons (C8.pe_gc (v := .ref o0) rfl ⟨_, mZ, rfl⟩) pa_nil)) (pv 0)))
    (pss_cons (ps_set (i := 2) scTb.nd rfl (Or.inl rfl) (pe_lst (pa_cons (pv 1) pa_nil)))
    (pss_cons (ps_while PassesOwn.never (pt_cmpR op_lt (pe_callB call_len_seq rfl mn PySem.boot_len (pa_cons (pv 2) pa_nil)) (pe_callB call_len_seq rfl mn PySem.boot_len (pa_cons (pv 0) pa_nil)) (nomark _))
      (pss_one (ps_expr (pe_bm PySem.F.plainAttrs_list PySem.F.slot_list_append PySem.F.type_list_append mt_append (pv 2) (pa_cons (pe_use UM hr rfl pass0 (pa_cons (pe_ix ix_list (pv 2) (pe_un un_neg pe_int) (fun _ _ => rfl)) (pa_cons (pv 1) pa_nil))) pa_nil)))))
    (pss_one (ps_ret (pe_lc (own := [("power", 3)]) (g := gName 3) (tt := tYes) rfl scTb.nd (pi_list (pv 2)) (blkOk_by (N := nTb) (sc := defScope F_table_lines) (by decide +kernel))
      (fun _ _ _ _ _ => pg_name (i := 3) scTb.nd rfl (Or.inl rfl)) (fun _ _ _ _ _ => pts_nil) (fun _ _ _ _ _ => pe_slice (sll_at K rfl) (pv 3) (po_some pe_int) po_none)))))), ?_⟩
  have lx : xs.length = qs.length := nx.1
  refine ⟨(by show 1 ≤ sizeLine; decide), fun a na => ⟨_, rfl, a, xa, _, _, rfl, rfl, upd_same, new_same na _ _ _ hx, Nat.le_of_lt (small1000 (by show 1 + _ ≤ _; omega)), fun d nd => ?_⟩⟩
  have s1 := new_same na (.lst [V.ref o0])
  have s2 := s1.trans (new_same nd (.lst ([V.ref o0] ++ xs)))
  have ed : upd (upd H a (.lst [V.ref o0])) d (.lst ([V.ref o0] ++ xs)) d = some (.lst ([V.ref o0] ++ xs)) := upd_same
  have n1 : Nl K (upd (upd H a (.lst [V.ref o0])) d (.lst ([V.ref o0] ++ xs))) ([V.ref o0] ++ xs) (0 :: qs) := Nl.cons ⟨o0, rfl, .inr k0⟩ (nx.same s2)
  generalize upd (upd H a (.lst [V.ref o0])) d (.lst ([V.ref o0] ++ xs)) = H1 at s2 ed n1
  generalize [V.ref o0] ++ xs = us at ed n1
  have lu : us.length = qs.length + 1 := n1.1
  refine ⟨_, rfl, (by show 1 ≤ sizeLine; decide), fun pa np => ?_⟩
  have z0 : AllD L B (0 :: qs) := bq 0 (by omega)
  have s3 := new_same np (.lst [V.ref d])
  have nd3 : d ≠ pa := fun z => by rw [z, np] at ed; cases ed
  refine ⟨fun m σ H' => Same H1 H' ∧ σ = [some (.ref xa), some (.ref d), some (.ref pa), none] ∧ ∃ k ps, k ≤ qs.length ∧ 1 ≤ k ∧ m = qs.length - k ∧ H' pa = some (.lst ps) ∧ Lsl K H' ps ((List.range k).map (powL (0 :: qs))) ∧ ∀ x ∈ ps, x ≠ .ref pa, ⟨_, s3, rfl, 1, [.ref d], l1, Nat.le_refl _, rfl, upd_same, ⟨rfl, ?_⟩, ?_⟩, ?_⟩
  · intro i x r h1 h2
    match i, h1, h2 with
    | 0, h1, h2 =>
      obtain rfl : V.ref d = x := Option.some.inj h1
      obtain rfl : powL (0 :: qs) 0 = r := Option.some.inj h2
      exact ⟨d, us, rfl, s3 _ _ ed, n1.same s3⟩
    | _ + 1, h1, _ => simp at h1
  · intro x hx e
    obtain rfl := List.mem_singleton.mp hx
    exact nd3 (V.ref.inj e)
  rintro m σ H' ⟨s4, rfl, k, ps, kq, k1, rfl, hp, np', hne⟩
  have lp : ps.length = k := by rw [np'.1, List.length_map, List.length_range]
  have hx4 := s4 _ _ (s2 _ _ hx)
  refine ⟨_, rfl, pa, ps, rfl, .inl (SqL.of hp), _, rfl, xa, xs, rfl, .inl (SqL.of hx4), _, _, rfl, rfl, _, rfl, ite2 (fun c => ?_) (fun c => ?_)⟩
  · have c' : ps.length < xs.length := by
      have := of_decide_eq_true c
      omega
    refine ⟨fun σ' H2 => Same H1 H2 ∧ σ' = [some (.ref xa), some (.ref d), some (.ref pa), none] ∧ ∃ ps2, H2 pa = some (.lst ps2) ∧ Lsl K H2 ps2 ((List.range (k + 1)).map (powL (0 :: qs))) ∧ ∀ x ∈ ps2, x ≠ .ref pa, ?_, ?_⟩
    · rintro σ' H2 ⟨t1, rfl, ps2, t2, t3, t4⟩
      exact ⟨qs.length - (k + 1), by omega, t1, rfl, k + 1, ps2, by omega, by omega, rfl, t2, t3, t4⟩
    · obtain ⟨y, ey, ly⟩ := np'.get' (i := k - 1) (by rw [List.length_map, List.length_range]; omega)
      have er : ((List.range k).map (powL (0 :: qs)))[k - 1]'(by rw [List.length_map, List.length_range]; omega) = powL (0 :: qs) (k - 1) := by
        rw [List.getElem_map, List.getElem_range]
      rw [er] at ly
      have ed4 := s4 _ _ ed
      have n4 := n1.same s4
      refine ⟨_, rfl, .inl ⟨rfl, _, SqL.of hp⟩, _, rfl, _, rfl, pa, ps, -1, y, rfl, rfl, SqL.of hp, ?_, _, rfl, y, _, powL (0 :: qs) (k - 1), 0 :: qs, L, B, L, B, rfl, ly, ⟨d, us, rfl, ed4, n4⟩, powL_len _ _, by rw [powL_len, List.length_cons]; omega, sL, lB, sL, lB, bq (k - 1) (by omega), z0, fun b H5 zs s5 nb hb mz => ?_⟩
      · show (ixN ps.length (-1)).bind _ = _
        have : ixN ps.length (-1) = some (ps.length - 1) := by
          unfold ixN
          rw [if_neg (by decide)]
          split
          · congr 1; omega
          · omega
        rw [this, lp]
        exact ey
      · have hp5 := s5 _ _ hp
        have nb' : b ≠ pa := fun z => by rw [z, hp] at nb; cases nb
        refine ⟨pa, ps, _, rfl, rfl, hp5, small1000 (by omega), ?_, rfl, ps ++ [.ref b], upd_same, ?_, ?_⟩
        · intro c o hc
          have nc : c ≠ pa := fun z => by rw [z, np] at hc; cases hc
          rw [upd_ne nc]
          exact s5 _ _ (s4 _ _ hc)
        · have bu : But pa H5 (upd H5 pa (.lst (ps ++ [V.ref b]))) := fun e o n h => by rw [upd_ne n]; exact h
          have L5 := np'.same s5
          have r1 : (List.range (k + 1)).map (powL (0 :: qs)) = (List.range k).map (powL (0 :: qs)) ++ [mulL (powL (0 :: qs) (k - 1)) (0 :: qs)] := by
            rw [List.range_succ, List.map_append]
            obtain ⟨j, rfl⟩ : ∃ j, k = j + 1 := ⟨k - 1, by omega⟩
            rfl
          rw [r1]
          refine Lsl.snoc ⟨L5.1, fun i x r h1 h2 => (L5.2 i x r h1 h2).butL hp5 (hne x (List.mem_of_getElem? h1)) bu⟩ ?_
          exact (Ls.butL ⟨b, zs, rfl, hb, mz⟩ hp5 (fun z => nb' (V.ref.inj z)) bu)
        · intro x hx
          rcases List.mem_append.mp hx with hx | hx
          · exact hne x hx
          · obtain rfl := List.mem_singleton.mp hx
            exact fun z => nb' (V.ref.inj z)
  · have c' : ¬ (ps.length : Int) < (xs.length : Nat) := of_decide_eq_false (Bool.eq_false_iff.mpr c)
    have kl : k = qs.length := by omega
    refine ⟨_, rfl, pa, rfl, ⟨_, SqL.of hp⟩, fun D nD => ?_⟩
    refine lc_rows (K := K) (walk_list (K := K) (a := pa) (xs := ps)) (tabL qs) (by rw [tabL_len]; omega) nD (by omega) (fun H' s => SqL.of (s _ _ hp)) ?_ (fun H5 zs s h m _ => q D H5 zs ((s2.trans s4).trans s) ((s2.trans s4).free nD) h m)
    rintro i r x H2 H3 k' hq s5 ⟨rfl, hx2⟩ hk
    obtain ⟨r0, er0, lr0⟩ := np'.get hx2
    have hi : i < k := by
      rcases Nat.lt_or_ge i k with c | c
      · exact c
      · rw [List.getElem?_eq_none (by rw [List.length_map, List.length_range]; exact c)] at er0; cases er0
    have e1 : powL (0 :: qs) i = r0 := by
      rw [List.getElem?_map, List.getElem?_range hi] at er0
      exact Option.some.inj er0
    have e2 : (powL (0 :: qs) i).drop 1 = r := by
      unfold tabL at hq
      rw [List.getElem?_map, List.getElem?_range (by omega)] at hq
      exact Option.some.inj hq
    obtain ⟨ra, rxs, rfl, hra, nra⟩ := lr0.same s5
    refine ⟨rfl, _, rfl, 1, rfl, ra, rxs, rfl, SqL.of hra, fun p np5 => ?_⟩
    rw [show cutV rxs (some 1) none = rxs.drop 1 from cut_drop rxs 1]
    refine hk p _ (new_same np5 _) np5 ⟨p, _, rfl, upd_same, ?_⟩
    rw [← e2, e1]
    exact (nra.drop 1).same (new_same np5 _)
end
end Kx
end
section
set_option maxHeartbeats 4000000
namespace Kx
open PySem PySem.Spec PyProof.Rows L2 RZ
/-! ### steps as series -/
def toT (n : Nat) (F : Ser) : List Rat := (List.range n).map fun i => F (i + 1)
def serS (qs : List Rat) : Ser := ser (0 :: qs)
theorem toT_len (n : Nat) (F : Ser) : (toT n F).length = n := by unfold toT; rw [List.length_map, List.length_range]
theorem toT_get {n i : Nat} {F : Ser} (h : i < n) : (toT n F)[i]? = some (F (i + 1)) := by
  unfold toT
  rw [List.getElem?_map, List.getElem?_range h]
  rfl
theorem toT_toL {n : Nat} (F : Ser) : F 0 :: toT n F = toL (n + 1) F := by
  unfold toT toL
  rw [List.range_succ_eq_map, List.map_cons, List.map_map]
  rfl
theorem toT_drop {n : Nat} (F : Ser) : toT n F = (toL (n + 1) F).drop 1 := by rw [← toT_toL]; rfl
theorem toT_eq {n : Nat} {F G : Ser} (h : EqTo (n + 1) F G) : toT n F = toT n G := List.map_congr_left fun i hi => h (i + 1) (by have := List.mem_range.mp hi; omega)
theorem toT_take {n m : Nat} (F : Ser) (h : m ≤ n) : (toT n F).take m = toT m F := by
  unfold toT
  rw [← List.map_take, List.take_range, Nat.min_eq_left h]
theorem serS_zero (qs : List Rat) : serS qs 0 = 0 := rfl
theorem serS_toT {n : Nat} {F : Ser} (h : F 0 = 0) : EqTo (n + 1) (serS (toT n F)) F := by
  unfold serS
  have := toT_toL (n := n) F
  rw [h] at this
  rw [this]
  exact ser_toL
theorem toT_serS (qs : List Rat) : toT qs.length (serS qs) = qs := by
  rw [toT_drop]
  unfold serS
  have : qs.length + 1 = (0 :: qs).length := rfl
  rw [this, toL_ser]
  rfl
/-- a row, or a step with its number at the place 0, behind a step -/
def bhdL (us rs : List Rat) : List Rat := toL us.length (cmpS (ser us) (serS rs))
def cmpL (qs rs : List Rat) : List Rat := toT qs.length (cmpS (serS qs) (serS rs))
theorem bhdL_len (us rs : List Rat) : (bhdL us rs).length = us.length := toL_len _ _
theorem cmpL_len (qs rs : List Rat) : (cmpL qs rs).length = qs.length := toT_len _ _
theorem pow_at {rs : List Rat} {j i : Nat} (h : i < rs.length) : ((powL (0 :: rs) j).drop 1).getD i 0 = powS (serS rs) (j + 1) (i + 1) := by
  have e : (0 :: rs) = toL (rs.length + 1) (serS rs) := (toL_ser (0 :: rs)).symm
  rw [List.getD_eq_getElem?_getD, List.getElem?_drop]
  rw [e, powL_toL, Nat.add_comm 1 i, toL_get (by omega)]
  rfl
theorem mix_at {qs rs : List Rat} (l : qs.length = rs.length) {i : Nat} (hi : i < rs.length) (q0 : Rat) : dotL qs ((tabL rs).map fun r => r.getD i 0) = cmpS (ser (q0 :: qs)) (serS rs) (i + 1) := by
  rw [← cmpS_to (serS_zero rs) (show i + 1 < rs.length + 1 by omega), sum_first]
  unfold dotL
  rw [List.length_map, tabL_len, l, Nat.min_self, dotT_sum]
  have z : ser (q0 :: qs) 0 * powS (serS rs) 0 (i + 1) = 0 := Rat.mul_zero _
  rw [z, Rat.zero_add]
  refine sum_congr fun j hj => ?_
  have e : ser ((tabL rs).map fun r => r.getD i 0) j = powS (serS rs) (j + 1) (i + 1) := by
    rw [← pow_at hi]
    show List.getD _ _ _ = _
    unfold tabL
    rw [List.getD_eq_getElem?_getD, List.getElem?_map, List.getElem?_map, List.getElem?_range hj]
    rfl
  rw [e]
  rfl
theorem mix_step {qs rs : List Rat} (l : qs.length = rs.length) : mixL rs.length qs (tabL rs) = cmpL qs rs := by
  unfold cmpL
  rw [l]
  exact List.map_congr_left fun i hi => mix_at l (List.mem_range.mp hi) 0
theorem mix_row {q0 : Rat} {qs rs : List Rat} (l : qs.length = rs.length) : q0 :: mixL rs.length qs (tabL rs) = bhdL (q0 :: qs) rs := by
  unfold bhdL
  rw [List.length_cons, ← toT_toL, cmpS_zero, l]
  congr 1
  exact List.map_congr_left fun i hi => mix_at l (List.mem_range.mp hi) q0
theorem cmpL_bhd (qs rs : List Rat) : bhdL (0 :: qs) rs = 0 :: cmpL qs rs := by
  unfold bhdL cmpL
  rw [List.length_cons, ← toT_toL, cmpS_zero]
  rfl
theorem dotL_d {L B M C : Nat} {us ws : List Rat} (h : AllD L B us) (h' : AllD M C ws) (l : min us.length ws.length ≤ 32) : Dq (L * M) (B + C + 32) (dotL us ws) := (dotT_z h h' _).mono (by omega)
theorem mixL_d {n L B M C : Nat} {qs : List Rat} {rows : List (List Rat)} (h : AllD L B qs) (h' : ∀ r ∈ rows, AllD M C r) (l : rows.length ≤ 32) : AllD (L * M) (B + C + 32) (mixL n qs rows) := by
  intro q hq
  obtain ⟨i, _, rfl⟩ := List.mem_map.mp hq
  refine dotL_d h (fun p hp => ?_) (by rw [List.length_map]; omega)
  obtain ⟨r, hr, rfl⟩ := List.mem_map.mp hp
  exact (h' r hr).getD i
end Kx
end
section
set_option maxHeartbeats 4000000
namespace Kx
open PySem PySem.Spec PyProof.Rows L2 RZ
theorem reps {K : PySem.W.Frag} {H : Hp} {v : V} {q : Rat} (h : Nq K H v q) (n : Nat) : Nl K H (List.replicate n v) (List.replicate n q) := by
  refine ⟨by rw [List.length_replicate, List.length_replicate], fun i x r h1 h2 => ?_⟩
  rw [List.getElem?_replicate] at h1 h2
  by_cases c : i < n
  · rw [if_pos c] at h1 h2
    rw [← Option.some.inj h1, ← Option.some.inj h2]
    exact h
  · rw [if_neg c] at h1
    cases h1
theorem zeros {K : PySem.W.Frag} {H : Hp} {v : V} (h : Nq K H v 0) (n : Nat) : Nl K H (List.replicate n v) (List.replicate n 0) := reps h n
/-! ### three more errors -/
section
variable {P : Program} {w : World} {K : PySem.W.Frag} {mg : Str → Option Value} {base : Heap} {f C : Addr} {fd : FuncData}
theorem scI_NotSlow : FnScope ["self", "first"] ["self", "first"] (defScope C_NotSlow_init) := ⟨rfl, rfl, rfl, by decide +kernel, rfl, by decide +kernel, by decide +kernel⟩
theorem init_NotSlow (F : Fun K "__init__" "NotSlow.__init__" C_NotSlow_init f fd) (T : XC K C) (n0 : PySem.W.findIn K (.ref C) "code" = some none) (n1 : PySem.W.findIn K (.ref C) "first" = some none) : FnOk P w K mg base CX0 1 f fd ["self", "first"] (spIn C 1 (fs1 "NotSlow" "first")) := by
  refine F.ok scI_NotSlow (fun vs H Q E h => ?_) (fun cdv A outer s H vs Q E hr h => ?_)
  · obtain ⟨a, ws, rfl, l, _⟩ := h
    exact congrArg Nat.succ l
  obtain ⟨a, ws, rfl, l, ha, q⟩ := h
  obtain ⟨v, rfl⟩ : ∃ v, ws = [v] := by match ws, l with | [v], _ => exact ⟨v, rfl⟩
  refine ⟨_, pss_cons (ps_xst (pv 0) pe_str) (pss_one (ps_xst (pv 0) (pv 1))), ?_⟩
  refine ⟨_, rfl, a, _, rfl, T, n0, .inl ⟨ha, fun e H1 ne he h1 h2 h3 => ?_⟩⟩
  refine ⟨_, rfl, _, rfl, a, _, rfl, T, n1, .inr ⟨e, _, h1, h2, (by show 1 ≤ 900; decide), ?_⟩⟩
  exact q e _ ne he (by rw [upd_ne (Ne.symm ne)]; exact h1) (by rw [upd_same]; rfl) (fun b b1 b2 => by rw [upd_ne b2]; exact h3 b b1 b2)
end
/-! ### slow or not -/
def spSn (K : PySem.W.Frag) : Sp := fun vs H Q _ => ∃ n : Nat, vs = [.int (n : Nat)] ∧ 2 ≤ n ∧ n ≤ 24 ∧ GivesL K H Q (1 :: List.replicate (n - 1) 0)
def spCkS (K : PySem.W.Frag) (S CN : Addr) : Sp := fun vs H Q E => ∃ (v : V) (qs : List Rat), vs = [v] ∧ StAt K S H v qs ∧ (serS qs 1 = 1 → Q .non H) ∧ (serS qs 1 ≠ 1 → ∀ x0, Nq K H x0 (serS qs 1) → Air H CN (fs1 "NotSlow" "first" [x0]) E)
section
variable {P : Program} {w : World} {K : PySem.W.Frag} {mg : Str → Option Value} {base : Heap} {f C S CF CO CN o0 o1 : Addr} {fd : FuncData} {H : Hp}
theorem scSn : FnScope ["order"] ["order"] (defScope F_still_numbers) := ⟨rfl, rfl, rfl, by decide +kernel, rfl, by decide +kernel, by decide +kernel⟩
theorem ok_stilln (G : Fun K "still_numbers" "still_numbers" F_still_numbers f fd) (k1 : KP K o1 1 1) (k0 : KP K o0 0 1) (mZ : mg "ZERO" = some (.ref o0)) (mO : mg "ONE" = some (.ref o1)) : FnOk P w K mg base CX0 1 f fd ["order"] (spSn K) := by
  refine G.ok scSn (fun vs H Q E h => ?_) (fun cdv A outer s H vs Q E hr h => ?_)
  · obtain ⟨n, rfl, _⟩ := h
    rfl
  obtain ⟨n, rfl, h2, h24, q⟩ := h
  refine ⟨_, pss_one (ps_ret (pe_op op_cat (pe_lst (pa_cons (C8.pe_gc (v := .ref o1) rfl ⟨_, mO, rfl⟩) pa_nil)) (pe_op op_rep (pe_lst (pa_cons (C8.pe_gc (v := .ref o0) rfl ⟨_, mZ, rfl⟩) pa_nil)) (pe_op op_sub (pv 0) pe_int)))), ?_⟩
  refine ⟨(by show 1 ≤ sizeLine; decide), fun a na => ⟨(by show 1 ≤ sizeLine; decide), fun b nb => ⟨_, rfl, (n : Int), 1, rfl, rfl, b, ((n : Int) - 1), [.ref o0], rfl, rfl, upd_same, by omega, by omega, (by show 1 * _ ≤ sizeLine; exact Nat.le_of_lt (small1000 (by omega))), fun c nc => ?_⟩⟩⟩
  have rep : (List.replicate ((n : Int) - 1).toNat [V.ref o0]).flatten = List.replicate (n - 1) (.ref o0) := by
    rw [List.flatten_replicate_singleton]
    congr 1
    omega
  rw [rep]
  refine ⟨a, c, _, _, rfl, rfl, new_same nc _ _ _ (new_same nb _ _ _ upd_same), upd_same, Nat.le_of_lt (small1000 (by rw [List.length_replicate]; show 1 + _ ≤ _; omega)), fun d nd => ?_⟩
  refine q d _ _ ((new_same na _).trans ((new_same nb _).trans ((new_same nc _).trans (new_same nd _)))) ?_ upd_same ?_
  · exact (new_same na (.lst [V.ref o1])).free ((new_same nb _).free ((new_same nc _).free nd))
  · exact Nl.cons ⟨o1, rfl, .inr k1⟩ (zeros ⟨o0, rfl, .inr k0⟩ _)
theorem StAt.ld {v : V} {qs : List Rat} (h : StAt K S H v qs) : ∃ (x dx : Addr) (fs : List (Str × V)) (x0 : V), v = .ref x ∧ H x = some (.ins S dx fs) ∧ fs.lookup ("lead" : Str) = some x0 ∧ Nq K H x0 (serS qs 1) ∧ fs.lookup ("numbers" : Str) = none ∧ fs.lookup ("power" : Str) = none := by
  obtain ⟨x, dx, b, xs, x0, fv, sv, e, h1, h2, h3, h4, h5, h6⟩ := h
  obtain ⟨y0, e0, n0⟩ := h3.get' (i := 0) (by omega)
  rw [h4] at e0
  obtain rfl := Option.some.inj e0
  have g0 : serS qs 1 = qs[0] := by
    show qs.getD 0 0 = _
    rw [List.getD_eq_getElem?_getD, List.getElem?_eq_getElem (by omega)]
    rfl
  exact ⟨x, dx, _, x0, e, h1, rfl, by rw [g0]; exact n0, rfl, rfl⟩
theorem StAt.le {v : V} {qs : List Rat} (h : StAt K S H v qs) : 2 ≤ qs.length ∧ qs.length ≤ 24 := by
  obtain ⟨_, _, _, _, _, _, _, _, _, _, _, _, h5, h6⟩ := h
  exact ⟨h5, h6⟩
theorem scCkS : FnScope ["step"] ["step"] (defScope F_check_slow) := ⟨rfl, rfl, rfl, by decide +kernel, rfl, by decide +kernel, by decide +kernel⟩
theorem ok_cslow (G : Fun K "check_slow" "check_slow" F_check_slow f fd) (k : StepK P w K mg base C S CF CO) (k1 : KP K o1 1 1) (mO : mg "ONE" = some (.ref o1)) (Z : ErrC P w K mg base "NotSlow" 1 (fs1 "NotSlow" "first") CN) : FnOk P w K mg base (L2.CX P w) 3 f fd ["step"] (spCkS K S CN) := by
  refine G.okX scCkS (fun vs H Q E h => ?_) (fun cdv A outer s H vs Q E hr h => ?_)
  · obtain ⟨v, qs, rfl, _⟩ := h
    rfl
  obtain ⟨v, qs, rfl, hX, h1, h2⟩ := h
  obtain ⟨x, dx, fs, x0, rfl, hx, fl, nq, _⟩ := hX.ld
  obtain ⟨fI, fdI, ps, i1, i2, i3, i4⟩ := Z.i
  refine ⟨_, pss_one (ps_if (pt_cmpR (op_neD hr.units) (pe_fld (pv 0) rfl) (C8.pe_gc (v := .ref o1) rfl ⟨_, mO, rfl⟩) (nomark _)) (pss_one (ps_raise rfl (takes_of rfl rfl rfl rfl) (pmk_xo Z.T Z.ty i1 i2 i3 (hr.mono (by decide)) i4 pass0 rfl Z.m (pa_cons (pe_fld (pv 0) rfl) pa_nil)))) pss_nil), ?_⟩
  refine ⟨_, rfl, x, S, dx, _, _, rfl, hx, k.c, k.nA _ (by simp [stN]), fl, tupQ (serS qs 1), tupQ 1, nq.dp, k1.dp _, rfl, rfl, _, rfl, ?_⟩
  rw [eqv_num]
  by_cases c : serS qs 1 = 1
  · rw [decide_eq_true c]
    exact iteF (h1 c)
  · rw [decide_eq_false c]
    exact iteT ⟨_, rfl, x, S, dx, _, _, rfl, hx, k.c, k.nA _ (by simp [stN]), fl, (by show 1 ≤ 1000; decide), fun a na => air_of (C := CN) (n := 1) (ws := [x0]) na rfl (h2 c x0 nq)⟩
end
end Kx
end
section
set_option maxHeartbeats 4000000
namespace Kx
open PySem PySem.Spec PyProof.Rows L2 RZ
/-! ### the differences of a step and its power by a fraction, as lists -/
def stL (n : Nat) : List Rat := 1 :: List.replicate (n - 1) 0
theorem stL_len {n : Nat} (h : 1 ≤ n) : (stL n).length = n := by
  unfold stL
  rw [List.length_cons, List.length_replicate]
  omega
theorem serS_still (n : Nat) : serS (1 :: List.replicate n 0) = xS := by
  funext i
  match i with
  | 0 => rfl
  | 1 => rfl
  | i + 2 =>
    show (List.replicate n (0 : Rat)).getD i 0 = 0
    rw [List.getD_eq_getElem?_getD, List.getElem?_replicate]
    split <;> rfl
theorem stL_toT {n : Nat} (h : 1 ≤ n) : stL n = toT n xS := by
  have e := toT_serS (stL n)
  rw [stL_len h] at e
  have : serS (stL n) = xS := serS_still (n - 1)
  rw [this] at e
  exact e.symm
theorem toT_sub {n : Nat} (f g : Ser) : (toT n f).zipWith (· - ·) (toT n g) = toT n (fun i => f i - g i) := by
  apply List.ext_getElem?
  intro i
  rw [List.getElem?_zipWith]
  rcases Nat.lt_or_ge i n with c | c
  · rw [toT_get c, toT_get c, toT_get c]
  · rw [List.getElem?_eq_none (l := toT n f) (by rw [toT_len]; exact c), List.getElem?_eq_none (l := toT n (fun i => f i - g i)) (by rw [toT_len]; exact c)]
theorem kit_tup : kitB "tuple" "int" = some false ∧ kitB "tuple" "bool" = some false := by decide +kernel
theorem Nq.inR {K : PySem.W.Frag} {H : Hp} {v : V} {q : Rat} {lo hi : Int} (h : Nq K H v q) : InR K H v lo hi false := by
  refine ⟨false, fun H' s => ?_, .inl ⟨rfl, rfl⟩⟩
  obtain ⟨a, rfl, _, ty⟩ := (h.same s).sq
  exact ⟨.type "tuple", false, false, ty, kit_ty kit_tup.1, kit_ty kit_tup.2, rfl⟩
theorem StAt.nb {K : PySem.W.Frag} {S : Addr} {H : Hp} {v : V} {qs : List Rat} (h : StAt K S H v qs) : ∃ (x dx b : Addr) (xs : List V) (fs : List (Str × V)), v = .ref x ∧ H x = some (.ins S dx fs) ∧ H b = some (.lst xs) ∧ Nl K H xs qs ∧ fs.lookup ("_numbers" : Str) = some (.ref b) ∧ fs.lookup ("order" : Str) = some (.int (qs.length : Int)) := by
  obtain ⟨x, dx, b, xs, fs, e, h1, h2, h3, h4, h5, _⟩ := h.num
  exact ⟨x, dx, b, xs, fs, e, h1, h2, h3, h4, h5⟩
section
variable {P : Program} {w : World} {K : PySem.W.Frag} {mg : Str → Option Value} {base : Heap} {f C S CF CO CN o0 o1 : Addr} {fd : FuncData} {H : Hp}
end
end Kx
end
section
set_option maxHeartbeats 4000000
namespace Kx
open PySem PySem.Spec PyProof.Rows L2 RZ
/-! ### sizes -/
theorem Dq.dv {L M B C : Nat} {a : Rat} (h : Dq L B a) (d : L ∣ M) (m0 : 0 < M) (c : M < 2 ^ C) : Dq M (B + C) a := by
  obtain ⟨k, rfl⟩ := d
  refine h.up k rfl (Nat.le_of_lt (Nat.lt_of_le_of_lt ?_ c))
  rcases Nat.eq_zero_or_pos L with z | z
  · rw [z, Nat.zero_mul] at m0
    omega
  · exact Nat.le_mul_of_pos_left k z
theorem dq_sum {L B : Nat} {f : Nat → Rat} {c : Nat} : ∀ m, (∀ i, i < m → Dq L B (f i)) → m ≤ 2 ^ c → Dq L (B + c) (sumN f m) := by
  intro m h hc
  have key : ∀ m, (∀ i, i < m → Dq L B (f i)) → ∃ z : Int, sumN f m * (L : Rat) = (z : Rat) ∧ z.natAbs ≤ m * (2 ^ B - 1) := by
    intro m
    induction m with
    | zero => intro _; exact ⟨0, by show (0 : Rat) * _ = _; rw [Rat.zero_mul]; rfl, by simp⟩
    | succ m ih =>
      intro h
      obtain ⟨z, e, l⟩ := ih fun i hi => h i (by omega)
      obtain ⟨y, e', l'⟩ := h m (by omega)
      refine ⟨z + y, ?_, ?_⟩
      · show (sumN f m + f m) * _ = _
        rw [Rat.add_mul, e, e', Rat.intCast_add]
      · have := Int.natAbs_add_le z y
        rw [Nat.succ_mul]
        omega
  obtain ⟨z, e, l⟩ := key m h
  refine ⟨z, e, ?_⟩
  have p : 0 < 2 ^ B := Nat.pow_pos (by decide)
  have p2 : 0 < 2 ^ c := Nat.pow_pos (by decide)
  have h1 : m * (2 ^ B - 1) ≤ 2 ^ c * (2 ^ B - 1) := Nat.mul_le_mul_right _ hc
  rw [Nat.add_comm B c, Nat.pow_add]
  have h2 : 2 ^ c * (2 ^ B - 1) < 2 ^ c * 2 ^ B := Nat.mul_lt_mul_of_pos_left (by omega) p2
  omega
/-- the number at the place k is whole over D ^ (k - 1), and at the place 1 it is 0, 1 or -1 -/
structure Gm (D m : Nat) (F : Ser) (n : Nat) : Prop where
  z : F 0 = 0
  g : ∀ k, k < n → Dq (D ^ k) (m * k + 1) (F (k + 1))
theorem Gm.mono {D m m' n : Nat} {F : Ser} (h : Gm D m F n) (l : m ≤ m') : Gm D m' F n := ⟨h.z, fun k hk => (h.g k hk).mono (by have := Nat.mul_le_mul_right k l; omega)⟩
theorem Gm.pow {D m n : Nat} {F : Ser} (h : Gm D m F n) (n16 : n ≤ 15) : ∀ j k, j + k < n → Dq (D ^ k) (m * k + 5 * (j + 1)) (powS F (j + 1) (j + 1 + k))
  | 0, k, hk => by
    rw [powS_one, Nat.add_comm (0 + 1) k]
    exact (h.g k (by omega)).mono (by omega)
  | j + 1, k, hk => by
    show Dq _ _ (sumN (fun i => powS F (j + 1) i * F (j + 1 + 1 + k - i)) (j + 1 + 1 + k + 1))
    refine (dq_sum (B := m * k + (5 * (j + 1) + 1)) (c := 4) _ (fun i hi => ?_) (by omega)).mono (by omega)
    rcases Nat.lt_or_ge i (j + 1) with c | c
    · rw [powS_low h.z (j + 1) i c, Rat.zero_mul]
      exact Dq.zero
    rcases Nat.lt_or_ge i (j + 1 + 1 + k) with d | d
    · have a := Gm.pow h n16 j (i - (j + 1)) (by omega)
      have b := h.g (j + 1 + k - i) (by omega)
      rw [show j + 1 + (i - (j + 1)) = i by omega] at a
      rw [show j + 1 + k - i + 1 = j + 1 + 1 + k - i by omega] at b
      have ab := a.mul b
      rw [← Nat.pow_add, show i - (j + 1) + (j + 1 + k - i) = k by omega] at ab
      refine ab.mono ?_
      have : m * (i - (j + 1)) + m * (j + 1 + k - i) = m * k := by rw [← Nat.mul_add, show i - (j + 1) + (j + 1 + k - i) = k by omega]
      omega
    · rw [show j + 1 + 1 + k - i = 0 by omega, h.z, Rat.mul_zero]
      exact Dq.zero
theorem Gm.cmp {D m n : Nat} {u F : Ser} (hu : Gm D m u n) (h : Gm D m F n) (n16 : n ≤ 15) : Gm D (m + 15) (cmpS u F) n := by
  refine ⟨by rw [cmpS_zero, hu.z], fun k hk => ?_⟩
  rw [← cmpS_to h.z (show k + 1 < k + 2 by omega), sum_first, hu.z, Rat.zero_mul, Rat.zero_add]
  match k, hk with
  | 0, hk =>
    have e : sumN (fun i => u (i + 1) * powS F (i + 1) (0 + 1)) (0 + 1) = u 1 * F 1 := by
      show (0 : Rat) + u 1 * powS F 1 1 = _
      rw [powS_one, Rat.zero_add]
    rw [e]
    obtain ⟨x, ex, lx⟩ := hu.g 0 hk
    obtain ⟨y, ey, ly⟩ := h.g 0 hk
    refine ⟨x * y, ?_, ?_⟩
    · rw [Rat.intCast_mul, ← ex, ← ey]
      have : ((D ^ 0 : Nat) : Rat) = 1 := rfl
      rw [this]
      grind
    · rw [Nat.mul_zero, Nat.zero_add] at lx ly ⊢
      rw [Int.natAbs_mul]
      have : x.natAbs * y.natAbs ≤ 1 * 1 := Nat.mul_le_mul (by omega) (by omega)
      omega
  | k + 1, hk =>
    refine (dq_sum (B := m * (k + 1) + (5 * (k + 2) + 1)) (c := 4) _ (fun i hi => ?_) (by omega)).mono (by rw [Nat.add_mul]; omega)
    have a := hu.g i (by omega)
    have b := h.pow n16 i (k + 1 - i) (by omega)
    rw [show i + 1 + (k + 1 - i) = k + 1 + 1 by omega] at b
    have ab := a.mul b
    rw [← Nat.pow_add, show i + (k + 1 - i) = k + 1 by omega] at ab
    refine ab.mono ?_
    have : m * i + m * (k + 1 - i) = m * (k + 1) := by rw [← Nat.mul_add, show i + (k + 1 - i) = k + 1 by omega]
    omega
theorem Gm.sub {D m n : Nat} {u F : Ser} (hu : Gm D m u n) (h : Gm D m F n) (e : u 1 = F 1) : Gm D (m + 1) (fun i => u i - F i) n := by
  refine ⟨?_, fun k hk => ?_⟩
  · show u 0 - F 0 = 0
    rw [hu.z, h.z]
    grind
  match k, hk with
  | 0, hk =>
    show Dq _ _ (u 1 - F 1)
    rw [e, show F 1 - F 1 = 0 by grind]
    exact Dq.zero
  | k + 1, hk => exact (hu.g (k + 1) hk).sub (h.g (k + 1) hk) (by rw [Nat.add_mul]; omega) (by rw [Nat.add_mul]; omega)
theorem Gm.x {D n : Nat} : Gm D 0 xS n := by
  refine ⟨rfl, fun k hk => ?_⟩
  match k with
  | 0 => exact Dq.one (show 1 < 2 ^ 1 by decide)
  | k + 1 => exact Dq.zero
theorem Dpow {D e : Nat} (d : D < 2 ^ 90) {n : Nat} (h : e ≤ n) (n1 : 1 ≤ n) : D ^ e < 2 ^ (90 * n) := by
  rcases Nat.eq_zero_or_pos e with rfl | e0
  · exact Nat.lt_of_lt_of_le (show 1 < 2 ^ 1 by decide) (Nat.pow_le_pow_right (by decide) (by omega))
  · rw [Nat.pow_mul]
    exact Nat.lt_of_lt_of_le (Nat.pow_lt_pow_left d (by omega)) (Nat.pow_le_pow_right (Nat.pow_pos (by decide)) h)
/-- all over D ^ (n - 1) -/
theorem Gm.one {D m n : Nat} {F : Ser} (h : Gm D m F n) (d0 : 0 < D) (d : D < 2 ^ 90) (n1 : 1 ≤ n) (n15 : n ≤ 7) {k : Nat} (hk : k < n) : Dq (D ^ (n - 1)) (15 * m + 700) (F (k + 1)) := by
  refine ((h.g k hk).dv (Nat.pow_dvd_pow D (show k ≤ n - 1 by omega)) (Nat.pow_pos d0) (Dpow d (show n - 1 ≤ n by omega) n1)).mono ?_
  have : m * k ≤ m * 15 := Nat.mul_le_mul_left m (by omega)
  omega
theorem Gm.all {D m n : Nat} {F : Ser} (h : Gm D m F n) (d0 : 0 < D) (d : D < 2 ^ 90) (n1 : 1 ≤ n) (n15 : n ≤ 7) : AllD (D ^ (n - 1)) (15 * m + 700) (toT n F) := fun q hq => by
  obtain ⟨i, hi⟩ := List.getElem?_of_mem hq
  rcases Nat.lt_or_ge i n with c | c
  · rw [toT_get c] at hi
    rw [← Option.some.inj hi]
    exact h.one d0 d n1 n15 c
  · rw [List.getElem?_eq_none (by rw [toT_len]; exact c)] at hi
    cases hi
theorem powL_S (rs : List Rat) (k : Nat) : powL (0 :: rs) k = toL (rs.length + 1) (powS (serS rs) (k + 1)) := by
  have e : (0 :: rs) = toL (rs.length + 1) (serS rs) := (toL_ser (0 :: rs)).symm
  rw [e, powL_toL]
theorem Gm.pows {D m : Nat} {qs : List Rat} (h : Gm D m (serS qs) qs.length) (d0 : 0 < D) (d : D < 2 ^ 90) (n1 : 1 ≤ qs.length) (n15 : qs.length ≤ 7) : PowD (D ^ (qs.length - 1)) (15 * m + 900) qs := fun j hj q hq => by
  rw [powL_S] at hq
  obtain ⟨i, hi⟩ := List.getElem?_of_mem hq
  rcases Nat.lt_or_ge i (qs.length + 1) with c | c
  · rw [toL_get c] at hi
    rw [← Option.some.inj hi]
    rcases Nat.lt_or_ge i (j + 1) with e | e
    · rw [powS_low rfl (j + 1) i e]
      exact Dq.zero
    · have a := h.pow (by omega) j (i - (j + 1)) (by omega)
      rw [show j + 1 + (i - (j + 1)) = i by omega] at a
      refine (a.dv (Nat.pow_dvd_pow D (show i - (j + 1) ≤ qs.length - 1 by omega)) (Nat.pow_pos d0) (Dpow d (show qs.length - 1 ≤ qs.length by omega) n1)).mono ?_
      have : m * (i - (j + 1)) ≤ m * 15 := Nat.mul_le_mul_left m (by omega)
      omega
  · rw [List.getElem?_eq_none (by rw [toL_len]; exact c)] at hi
    cases hi
theorem sm_pow {D n : Nat} (d0 : 0 < D) (d : D < 2 ^ 90) (n15 : n ≤ 15) : SmL (D ^ (n - 1)) := ⟨Nat.pow_pos d0, Nat.lt_of_lt_of_le (Dpow d (show n - 1 ≤ n + 1 by omega) (by omega)) (Nat.pow_le_pow_right (by decide) (by omega))⟩
/-! ### binomials -/
structure Tb (t : Rat) : Prop where
  u : t.num.natAbs < 2 ^ 400
  l : t.den < 2 ^ 400
theorem Tb.ok {t : Rat} (h : Tb t) : Ok t := ⟨Nat.lt_of_lt_of_le h.u (Nat.pow_le_pow_right (by decide) (by decide)), Nat.lt_of_lt_of_le h.l (Nat.pow_le_pow_right (by decide) (by decide))⟩
theorem tb_d {t : Rat} (h : Tb t) {k : Nat} (hk : k ≤ 12) : Dq t.den 405 (t - (k : Rat)) := by
  refine (Dq.self t h.u).sub (B := 400) (C := 404) ?_ (by omega) (by omega)
  refine Dq.int (k : Int) ?_
  rw [Int.natAbs_mul, Int.natAbs_natCast, Int.natAbs_natCast]
  have h1 : k * t.den ≤ 12 * t.den := Nat.mul_le_mul_right _ hk
  have h2 := h.l
  have h3 : (2 : Nat) ^ 404 = 16 * 2 ^ 400 := by rw [show (404 : Nat) = 4 + 400 by rfl, Nat.pow_add]
  omega
theorem sm_den {t : Rat} (h : Tb t) {k : Nat} (hk : k < 12) : SmL (t.den * (k + 1)) := by
  refine ⟨Nat.mul_pos (Nat.pos_of_ne_zero t.den_nz) (Nat.succ_pos k), ?_⟩
  have : t.den * (k + 1) < 2 ^ 400 * 2 ^ 4 := Nat.mul_lt_mul'' h.l (by omega)
  rw [← Nat.pow_add] at this
  exact Nat.lt_of_lt_of_le this (Nat.pow_le_pow_right (by decide) (by decide))
theorem sm_den1 {t : Rat} (h : Tb t) : SmL t.den := ⟨Nat.pos_of_ne_zero t.den_nz, Nat.lt_of_lt_of_le h.l (Nat.pow_le_pow_right (by decide) (by decide))⟩
/-- a slow step of small sizes -/
def Slw (n : Nat) (F : Ser) : Prop := ∃ D m : Nat, 0 < D ∧ D < 2 ^ 90 ∧ m ≤ 1000 ∧ Gm D m F n
end Kx
end
section
set_option maxHeartbeats 4000000
namespace Kx
open PySem PySem.Spec PyProof.Rows L2 RZ
/-! ### slopes, logs and powers of a unit series -/
theorem Nl.rev {K : PySem.W.Frag} {H : Hp} {xs : List V} {qs : List Rat} (h : Nl K H xs qs) : Nl K H xs.reverse qs.reverse := by
  refine ⟨by rw [List.length_reverse, List.length_reverse, h.1], fun i x q h1 h2 => ?_⟩
  have hl : i < xs.length := by
    rcases Nat.lt_or_ge i xs.length with c | c
    · exact c
    · rw [List.getElem?_eq_none (by rw [List.length_reverse]; exact c)] at h1; cases h1
  rw [List.getElem?_reverse hl] at h1
  have e := h.1
  rw [List.getElem?_reverse (by omega), ← e] at h2
  exact h.2 _ x q h1 h2
theorem Nl.seg {K : PySem.W.Frag} {H : Hp} {xs : List V} {qs : List Rat} (h : Nl K H xs qs) (k : Nat) : Nl K H (segL xs k) (segL qs k) := ((h.take (k + 1)).drop 1).rev
theorem AllD.take {L B : Nat} {qs : List Rat} (h : AllD L B qs) (n : Nat) : AllD L B (qs.take n) := fun q hq => h q (List.mem_of_mem_take hq)
theorem AllD.seg {L B : Nat} {qs : List Rat} (h : AllD L B qs) (k : Nat) : AllD L B (segL qs k) := fun q hq => h q (List.mem_of_mem_take (List.mem_of_mem_drop (List.mem_reverse.mp hq)))
theorem AllD.rev {L B : Nat} {qs : List Rat} (h : AllD L B qs) : AllD L B qs.reverse := fun q hq => h q (List.mem_reverse.mp hq)
theorem recL_take (f : List Rat → Rat) (k : Nat) : ∀ n, k ≤ n → (recL f n).take k = recL f k := by
  intro n h
  induction h with
  | refl => exact List.take_of_length_le (by rw [recL_len]; exact Nat.le_refl _)
  | step h ih =>
    rename_i m
    have h' : k ≤ m := h
    show (recL f m ++ [_]).take k = _
    rw [List.take_append_of_le_length (by rw [recL_len]; exact h'), ih]
theorem AllD.rec {L B : Nat} {f : List Rat → Rat} {n k : Nat} (h : AllD L B (recL f n)) (l : k ≤ n) : AllD L B (recL f k) := by
  rw [← recL_take f k n l]
  exact h.take k
theorem Nq.setL {K : PySem.W.Frag} {H : Hp} {fb : Addr} {zs ys : List V} {v : V} {q : Rat} (h : Nq K H v q) (hD : H fb = some (.lst zs)) : Nq K (upd H fb (.lst ys)) v q := h.butL hD (fun b o n e => by rw [upd_ne n]; exact e)
theorem Nl.setL {K : PySem.W.Frag} {H : Hp} {fb : Addr} {zs ys xs : List V} {qs : List Rat} (h : Nl K H xs qs) (hD : H fb = some (.lst zs)) : Nl K (upd H fb (.lst ys)) xs qs := ⟨h.1, fun j x r h1 h2 => (h.2 j x r h1 h2).setL hD⟩
theorem ser_at {qs : List Rat} {k : Nat} (h : k < qs.length) : qs[k]? = some (ser qs k) := by
  show _ = some (qs.getD k 0)
  rw [List.getD_eq_getElem?_getD, List.getElem?_eq_getElem h]
  rfl
theorem nR_d {n : Nat} (l : n ≤ 32) : Dq 1 6 (nR n) := ⟨(n : Int), by rw [show ((1 : Nat) : Rat) = 1 from rfl, Rat.mul_one]; rfl, by rw [Int.natAbs_natCast]; exact Nat.lt_of_le_of_lt l (by decide)⟩
theorem sm1 : SmL 1 := ⟨by decide, Nat.one_lt_two_pow (by decide)⟩
theorem sm14 {L : Nat} (l0 : 0 < L) (l : L < 2 ^ 1400) : SmL L := ⟨l0, Nat.lt_of_lt_of_le l (Nat.pow_le_pow_right (by decide) (by decide))⟩
theorem sm14' {L : Nat} (l0 : 0 < L) (l : L < 2 ^ 1400) : SmL (1 * L) := by rw [Nat.one_mul]; exact sm14 l0 l
theorem sm28 {L : Nat} (l0 : 0 < L) (l : L < 2 ^ 1400) : SmL (L * L) := ⟨Nat.mul_pos l0 l0, Nat.lt_of_lt_of_le (Nat.mul_lt_mul_of_lt_of_lt l l) (by rw [← Nat.pow_add]; exact Nat.pow_le_pow_right (by decide) (by decide))⟩
theorem sm42 {L : Nat} (l0 : 0 < L) (l : L < 2 ^ 1400) : SmL (L * (L * L)) := ⟨Nat.mul_pos l0 (Nat.mul_pos l0 l0), Nat.lt_of_lt_of_le (Nat.mul_lt_mul_of_lt_of_lt l (Nat.mul_lt_mul_of_lt_of_lt l l)) (by rw [← Nat.pow_add, ← Nat.pow_add]; exact Nat.pow_le_pow_right (by decide) (by decide))⟩
theorem dotL_e {L B M C : Nat} {us ws : List Rat} (h : AllD L B us) (h' : AllD M C ws) (l : min us.length ws.length ≤ 32) : Dq (L * M) (B + C + 32) (dotL us ws) := (dotT_z h h' _).mono (by omega)
def LsC (us : List Rat) : Prop := ∃ L B, 0 < L ∧ L < 2 ^ 1400 ∧ B ≤ 20000 ∧ AllD L B us ∧ AllD L B (lsL us)
def PwC (us : List Rat) (t : Rat) : Prop := ∃ L B, 0 < L ∧ L < 2 ^ 1400 ∧ B ≤ 20000 ∧ AllD L B us ∧ AllD L B (lsL us) ∧ AllD L B (pwL us t) ∧ Dq L B t
theorem PwC.ls {us : List Rat} {t : Rat} (h : PwC us t) : LsC us := by
  obtain ⟨L, B, l0, l, b, h1, h2, _⟩ := h
  exact ⟨L, B, l0, l, b, h1, h2⟩
def spLsL (K : PySem.W.Frag) : Sp := fun vs H Q _ => ∃ (x : V) (us : List Rat), vs = [x] ∧ Ls K H x us ∧ 1 ≤ us.length ∧ us.length ≤ 25 ∧ ser us 0 = 1 ∧ LsC us ∧ GivesL K H Q (lsL us)
def spLgL (K : PySem.W.Frag) : Sp := fun vs H Q _ => ∃ (x : V) (us : List Rat), vs = [x] ∧ Ls K H x us ∧ 1 ≤ us.length ∧ us.length ≤ 25 ∧ ser us 0 = 1 ∧ LsC us ∧ GivesL K H Q (lgL us)
def spPwL (K : PySem.W.Frag) : Sp := fun vs H Q _ => ∃ (x y : V) (us : List Rat) (t : Rat), vs = [x, y] ∧ Ls K H x us ∧ Nq K H y t ∧ 1 ≤ us.length ∧ us.length ≤ 25 ∧ ser us 0 = 1 ∧ PwC us t ∧ GivesL K H Q (pwL us t)
abbrev nRc : List Str := ["numbers", "found", "place", "have"]
abbrev nLg : List Str := ["numbers", "at", "number"]
abbrev nPw : List Str := ["numbers", "t", "slopes", "found", "place"]
section
variable {P : Program} {w : World} {K : PySem.W.Frag} {mg : Str → Option Value} {base : Heap} {f o0 o1 : Addr} {fd : FuncData}
theorem scLsl : FnScope nRc ["numbers"] (defScope F_log_slopes) := ⟨rfl, rfl, rfl, by decide +kernel, rfl, by decide +kernel, by decide +kernel⟩
theorem nR_at {K : PySem.W.Frag} {H : Hp} {t : Addr} {k : Int} {n : Nat} (e : k = (n : Int)) : Nq K (upd H t (.tup [.int k, .int 1])) (.ref t) (nR n) := ⟨t, rfl, .inl (by rw [e]; exact upd_same)⟩
theorem ok_lsl (F : Fun K "log_slopes" "log_slopes" F_log_slopes f fd) (mn : mg "len" = none) (mr : mg "range" = none) (UD : Use P w K mg base CX0 2 "dot" ["ones", "others"] (spDot K) []) (UF : Use P w K mg base CX0 2 "difference_of" ["one", "other"] (spTwoQ K (· - ·)) []) (UP : Use P w K mg base CX0 2 "product_of" ["one", "other"] (spTwoQ K (· * ·)) []) :
    FnOk P w K mg base CX0 3 f fd ["numbers"] (spLsL K) := by
  refine F.ok scLsl (fun vs H Q E h => ?_) (fun cdv A outer s H vs Q E hr h => ?_)
  · obtain ⟨x, us, rfl, _⟩ := h
    rfl
  obtain ⟨x, us, rfl, ⟨xa, xs, rfl, hx, nx⟩, l1, l25, u0, ⟨L, B, l0, l14, b2, ze, zg⟩, q⟩ := h
  refine ⟨_, pss_cons (ps_set (i := 1) scLsl.nd rfl (Or.inl rfl) (pe_lst pa_nil))
    (pss_cons (ps_for PassesOwn.never rfl (pi_range2 rfl mr (pa_cons pe_int (pa_cons (pe_callB call_len_seq rfl mn PySem.boot_len (pa_cons (pv 0) pa_nil)) pa_nil))) (pg_name (i := 2) scLsl.nd rfl (Or.inl rfl))
      (pss_cons (ps_set (i := 3) scLsl.nd rfl (Or.inl rfl) (pe_use UD hr rfl pass0 (pa_cons (pv 1) (pa_cons (pe_backL (pv 0) (pe_op op_sub (pv 2) pe_int)) pa_nil))))
      (pss_one (ps_expr (pe_bm PySem.F.plainAttrs_list PySem.F.slot_list_append PySem.F.type_list_append mt_append (pv 1) (pa_cons (pe_use UF hr rfl pass0 (pa_cons (pe_use UP hr rfl pass0 (pa_cons (pe_tup (pa_cons (pv 2) (pa_cons pe_int pa_nil))) (pa_cons (pe_ix ix_list (pv 0) (pv 2) (fun _ _ => rfl)) pa_nil))) (pa_cons (pv 3) pa_nil))) pa_nil))))))
    (pss_one (ps_ret (pv 1)))), ?_⟩
  have lx : xs.length = us.length := nx.1
  refine ⟨(by show 0 ≤ sizeLine; decide), fun fb nf => ?_⟩
  have sf := new_same nf (HO.lst [])
  refine ⟨_, rfl, xa, xs, rfl, .inl (SqL.of (sf _ _ hx)), 1, ((xs.length : Nat) : Int), rfl, ⟨by omega, by omega, by omega, by omega⟩, for_range (lo := 1) (n := (((xs.length : Nat) : Int) - 1).toNat) (fun i σ H' => Same H H' ∧ (∃ v2 v3, σ = [some (.ref xa), some (.ref fb), v2, v3]) ∧ ∃ zs, H' fb = some (.lst zs) ∧ Nl K H' zs (recL (lsF us) i)) ⟨sf, ⟨none, none, rfl⟩, [], upd_same, Nl.nil⟩ ?_ ?_⟩
  · rintro i σ H3 hi ⟨s3, ⟨v2, v3, rfl⟩, zs, hz, nz⟩
    have hi' : i + 1 < us.length := by omega
    have zl : zs.length = i := by rw [nz.1, recL_len]
    refine ⟨_, rfl, _, rfl, _, rfl, (1 + (i : Int)), 1, rfl, rfl, (1 + (i : Int) - 1), rfl, xa, xs, i, rfl, (by show some (1 + (i : Int) - 1) = some ((i : Nat) : Int); congr 1; omega), SqL.of (s3 _ _ hx), by omega, fun p np => ?_⟩
    have sp := new_same np (HO.lst (segL xs i))
    have zr : AllD L B (recL (lsF us) i) := AllD.rec zg (by omega)
    refine ⟨.ref fb, .ref p, recL (lsF us) i, segL us i, L, B, L, B, rfl, ⟨fb, zs, rfl, sp _ _ hz, nz.same sp⟩, ⟨p, _, rfl, upd_same, (nx.seg i).same (s3.trans sp)⟩, by rw [recL_len]; omega, sm14 l0 l14, by omega, sm14 l0 l14, by omega, zr, ze.seg _, fun td H4 s4 n4 e4 => ?_⟩
    have hz4 := s4 _ _ (sp _ _ hz)
    have hx4 := s4 _ _ (sp _ _ (s3 _ _ hx))
    have nxt : ser (lsL us) i = nR (i + 1) * ser us (i + 1) - dotL (recL (lsF us) i) (segL us i) := by
      have e0 : ser (lsL us) i = lsF us (recL (lsF us) i) := recL_at _ (by omega)
      rw [e0, lsF_eq, recL_len]
      rfl
    have zp : Ok (nR (i + 1) * ser us (i + 1)) := ((nR_d (show i + 1 ≤ 32 by omega)).mul (ze.getD (i + 1))).ok (sm14' l0 l14) (by omega)
    have bd : Ok (dotL (recL (lsF us) i) (segL us i)) := (dotL_e zr (ze.seg i) (by rw [recL_len]; omega)).ok (sm28 l0 l14) (by omega)
    obtain ⟨y1, ey, ny⟩ := nx.get' (i := i + 1) hi'
    have s1' : us[i + 1] = ser us (i + 1) := by
      have := ser_at hi'
      rw [List.getElem?_eq_getElem hi'] at this
      exact Option.some.inj this
    rw [s1'] at ny
    refine ⟨_, rfl, .inl ⟨rfl, _, SqL.of hz4⟩, _, rfl, (by show 2 ≤ sizeLine; decide), fun tt ntt => ?_⟩
    have s5 := new_same ntt (HO.tup [V.int (1 + (i : Int)), .int 1])
    have nn : Nq K (upd H4 tt (HO.tup [V.int (1 + (i : Int)), .int 1])) (.ref tt) (nR (i + 1)) := nR_at (by omega)
    have s345 := s3.trans (sp.trans (s4.trans s5))
    refine ⟨_, rfl, _, rfl, xa, xs, _, y1, rfl, rfl, SqL.of (s5 _ _ hx4), at_of (j := i + 1) (by omega) ey, .ref tt, y1, nR (i + 1), ser us (i + 1), rfl, nn, ny.same s345, (nR_d (by omega)).ok sm1 (by decide), (ze.getD (i + 1)).ok (sm14 l0 l14) (by omega), fun tp H6 s6 n6 e6 => ?_⟩
    refine ⟨_, rfl, .ref tp, .ref td, _, _, rfl, .at e6, (show Nq K H4 (.ref td) _ from .at e4).same (s5.trans s6), zp, bd, fun tq H7 s7 n7 e7 => ?_⟩
    have e7 : H7 tq = some (rT (nR (i + 1) * ser us (i + 1) - dotL (recL (lsF us) i) (segL us i))) := e7
    rw [← nxt] at e7
    have hz7 := s7 _ _ (s6 _ _ (s5 _ _ hz4))
    refine ⟨fb, zs, _, rfl, rfl, hz7, small1000 (by omega), ?_, ⟨_, _, rfl⟩, zs ++ [.ref tq], upd_same, ?_⟩
    · intro d o hd
      have nd : d ≠ fb := fun z => by rw [z, nf] at hd; cases hd
      rw [upd_ne nd]
      exact s7 _ _ (s6 _ _ (s345 _ _ hd))
    · refine Nl.setL ?_ hz7
      have e8 : recL (lsF us) (i + 1) = recL (lsF us) i ++ [ser (lsL us) i] := by
        have e0 : ser (lsL us) i = lsF us (recL (lsF us) i) := recL_at _ (by omega)
        rw [e0]
        rfl
      rw [e8]
      exact ((nz.same (sp.trans (s4.trans (s5.trans (s6.trans s7)))))).snoc (.at e7)
  · rintro σ H3 ⟨s3, ⟨v2, v3, rfl⟩, zs, hz, nz⟩
    rw [show (((xs.length : Nat) : Int) - 1).toNat = us.length - 1 by omega] at nz
    exact ⟨_, rfl, q fb H3 zs s3 nf hz nz⟩
theorem scLgl : FnScope nLg ["numbers"] (defScope F_unit_log) := ⟨rfl, rfl, rfl, by decide +kernel, rfl, by decide +kernel, by decide +kernel⟩
theorem ok_lgl (F : Fun K "unit_log" "unit_log" F_unit_log f fd) (me : mg "enumerate" = none) (k0 : KP K o0 0 1) (mZ : mg "ZERO" = some (.ref o0)) (UL : Use P w K mg base CX0 3 "log_slopes" ["numbers"] (spLsL K) []) (UQ : Use P w K mg base CX0 2 "quotient_of" ["one", "other"] (spDivQ K) []) :
    FnOk P w K mg base CX0 4 f fd ["numbers"] (spLgL K) := by
  refine F.ok scLgl (fun vs H Q E h => ?_) (fun cdv A outer s H vs Q E hr h => ?_)
  · obtain ⟨x, us, rfl, _⟩ := h
    rfl
  obtain ⟨x, us, rfl, hL, l1, l25, u0, hc, q⟩ := h
  obtain ⟨L, B, l0, l14, b2, ze, zg⟩ := id hc
  refine ⟨_, pss_one (ps_ret (pe_op op_cat (pe_lst (pa_cons (C8.pe_gc (v := .ref o0) rfl ⟨_, mZ, rfl⟩) pa_nil)) (pe_lc (own := [("at", 1), ("number", 2)]) (g := gTup K 2 (gCons (gName 1) (gCons (gName 2) gNil))) (tt := tYes) rfl scLgl.nd (pi_enum rfl me (pa_cons (pe_use UL hr rfl pass0 (pa_cons (pv 0) pa_nil)) pa_nil)) (blkOk_by (N := nLg) (sc := defScope F_unit_log) (by decide +kernel))
      (fun _ _ _ _ _ => pg_tup rfl (pgs_cons (pg_name (i := 1) scLgl.nd rfl (Or.inl rfl)) (pgs_cons (pg_name (i := 2) scLgl.nd rfl (Or.inl rfl)) pgs_nil))) (fun _ _ _ _ _ => pts_nil)
      (fun _ _ _ _ _ => pe_use UQ (hr.mono (by decide)) rfl pass0 (pa_cons (pv 2) (pa_cons (pe_tup (pa_cons (pe_op op_add (pv 1) pe_int) (pa_cons pe_int pa_nil))) pa_nil)))))), ?_⟩
  refine ⟨(by show 1 ≤ sizeLine; decide), fun a na => ?_⟩
  have s1 := new_same na (HO.lst [V.ref o0])
  refine ⟨_, rfl, x, us, rfl, hL.same s1, l1, l25, u0, hc, fun fb H2 zs s2 n2 hz nz => ?_⟩
  have lz : zs.length = us.length - 1 := by rw [nz.1, lsL_len]
  refine ⟨fb, zs, rfl, SqL.of hz, fun D nD => ?_⟩
  refine lc_nums (K := K) (walk_enum (K := K) (a := fb) (xs := zs)) ((List.range (us.length - 1)).map fun k => ser (lsL us) k / nR (k + 1)) (by rw [List.length_map, List.length_range, lz]) nD (by omega) (fun H' s => SqL.of (s _ _ hz)) ?_ (fun H' ws s hD nw => ?_)
  · rintro i r x H3 H4 k hq s3 ⟨T, y, z, rfl, hT, rfl, hy, hz3⟩ hk
    obtain rfl : y = .int ((i : Nat) : Int) := (Option.some.inj hy).symm
    have sT := new_same hT (.tup [V.int (i : Nat), z])
    have hi : i < us.length - 1 := by
      rcases Nat.lt_or_ge i (us.length - 1) with c | c
      · exact c
      · rw [List.getElem?_eq_none (by rw [List.length_map, List.length_range]; exact c)] at hq; cases hq
    rw [List.getElem?_map, List.getElem?_range hi] at hq
    obtain rfl := Option.some.inj hq
    have nz' := nz.2 i z (ser (lsL us) i) hz3 (ser_at (by rw [lsL_len]; exact hi))
    refine ⟨T, _, rfl, SqT.of upd_same, rfl, _, _, rfl, _, _, rfl, rfl, rfl, _, rfl, _, rfl, _, _, rfl, rfl, (by show 2 ≤ sizeLine; decide), fun tt ntt => ?_⟩
    have s5 := new_same ntt (HO.tup [V.int ((i : Nat) + 1 : Int), .int 1])
    refine ⟨z, .ref tt, ser (lsL us) i, nR (i + 1), rfl, (nz'.same (s3.trans sT)).same s5, nR_at (by omega), (zg.getD i).ok (sm14 l0 l14) (by omega), (nR_d (by omega)).ok sm1 (by decide), nR_ne (by omega), Nat.lt_of_lt_of_le ((nR_d (n := i + 1) (by omega)).num (by decide)) (Nat.pow_le_pow_right (by decide) (by decide)), fun tq H6 s6 n6 e6 => hk _ _ (sT.trans (s5.trans s6)) (.at e6)⟩
  · have s12 := s1.trans (s2.trans s)
    refine ⟨a, D, _, _, rfl, rfl, s _ _ (s2 _ _ upd_same), hD, Nat.le_of_lt (small1000 (by rw [nw.1, List.length_map, List.length_range]; show 1 + _ ≤ _; omega)), fun c nc => ?_⟩
    have s3 := new_same nc (HO.lst ([V.ref o0] ++ ws))
    have z0 : ∀ {G : Hp}, Nq K G (.ref o0) 0 := ⟨_, rfl, .inr k0⟩
    exact q c _ _ (s12.trans s3) (s12.free nc) upd_same ((Nl.cons z0 nw).same s3)
theorem scPwl : FnScope nPw ["numbers", "t"] (defScope F_unit_power) := ⟨rfl, rfl, rfl, by decide +kernel, rfl, by decide +kernel, by decide +kernel⟩
theorem ok_pwl (F : Fun K "unit_power" "unit_power" F_unit_power f fd) (mn : mg "len" = none) (mr : mg "range" = none) (k1 : KP K o1 1 1) (mO : mg "ONE" = some (.ref o1)) (UL : Use P w K mg base CX0 3 "log_slopes" ["numbers"] (spLsL K) []) (UD : Use P w K mg base CX0 2 "dot" ["ones", "others"] (spDot K) []) (UP : Use P w K mg base CX0 2 "product_of" ["one", "other"] (spTwoQ K (· * ·)) []) (UQ : Use P w K mg base CX0 2 "quotient_of" ["one", "other"] (spDivQ K) []) :
    FnOk P w K mg base CX0 4 f fd ["numbers", "t"] (spPwL K) := by
  refine F.ok scPwl (fun vs H Q E h => ?_) (fun cdv A outer s H vs Q E hr h => ?_)
  · obtain ⟨x, y, us, t, rfl, _⟩ := h
    rfl
  obtain ⟨x, y, us, t, rfl, hL, nt, l1, l25, u0, pc, q⟩ := h
  obtain ⟨L, B, l0, l14, b2, ze, zg, zh, zt⟩ := id pc
  have hc := pc.ls
  have hr2 := hr.mono (show 2 ≤ 3 by decide)
  refine ⟨_, C8.pss_cut (ps_set (i := 2) scPwl.nd rfl (Or.inl rfl) (pe_use UL hr rfl pass0 (pa_cons (pv 0) pa_nil)))
    (pss_cons (ps_set (i := 3) scPwl.nd rfl (Or.inl rfl) (pe_lst (pa_cons (C8.pe_gc (v := .ref o1) rfl ⟨_, mO, rfl⟩) pa_nil)))
    (pss_cons (ps_for PassesOwn.never rfl (pi_range2 rfl mr (pa_cons pe_int (pa_cons (pe_callB call_len_seq rfl mn PySem.boot_len (pa_cons (pv 0) pa_nil)) pa_nil))) (pg_name (i := 4) scPwl.nd rfl (Or.inl rfl))
      (pss_one (ps_expr (pe_bm PySem.F.plainAttrs_list PySem.F.slot_list_append PySem.F.type_list_append mt_append (pv 3) (pa_cons (pe_use UQ hr2 rfl pass0 (pa_cons (pe_use UP hr2 rfl pass0 (pa_cons (pv 1) (pa_cons (pe_use UD hr2 rfl pass0 (pa_cons (pv 2) (pa_cons (pe_revL (pv 3)) pa_nil))) pa_nil))) (pa_cons (pe_tup (pa_cons (pv 4) (pa_cons pe_int pa_nil))) pa_nil))) pa_nil)))))
    (pss_one (ps_ret (pv 3))))), ?_⟩
  refine ⟨fun σ G => ∃ v2, σ = [some x, some y, some v2, none, none] ∧ Same H G ∧ Ls K G v2 (lsL us), ?_, ?_⟩
  · exact ⟨_, rfl, x, us, rfl, hL, l1, l25, u0, hc, fun fb H2 zs s2 n2 hz nz => ⟨.ref fb, rfl, s2, ⟨fb, zs, rfl, hz, nz⟩⟩⟩
  rintro σ H0 ⟨v2, rfl, s0, hS⟩
  have hL0 := hL.same s0
  have nt0 := nt.same s0
  obtain ⟨xa, xs, rfl, hx, nx⟩ := hL0
  have lx : xs.length = us.length := nx.1
  refine ⟨(by show 1 ≤ sizeLine; decide), fun fb nf => ?_⟩
  have sf := new_same nf (HO.lst [V.ref o1])
  have o1n : ∀ {G : Hp}, Nq K G (.ref o1) 1 := ⟨_, rfl, .inr k1⟩
  refine ⟨_, rfl, xa, xs, rfl, .inl (SqL.of (sf _ _ hx)), 1, ((xs.length : Nat) : Int), rfl, ⟨by omega, by omega, by omega, by omega⟩, for_range (lo := 1) (n := (((xs.length : Nat) : Int) - 1).toNat) (fun i σ H' => Same H0 H' ∧ (∃ v4, σ = [some (.ref xa), some y, some v2, some (.ref fb), v4]) ∧ ∃ zs, H' fb = some (.lst zs) ∧ Nl K H' zs (recL (pwF (lsL us) t) (i + 1))) ⟨sf, ⟨none, rfl⟩, [.ref o1], upd_same, Nl.cons o1n Nl.nil⟩ ?_ ?_⟩
  · rintro i σ H3 hi ⟨s3, ⟨v4, rfl⟩, zs, hz, nz⟩
    have hi' : i + 1 < us.length := by omega
    have zl : zs.length = i + 1 := by rw [nz.1, recL_len]
    have zr : AllD L B (recL (pwF (lsL us) t) (i + 1)) := AllD.rec zh (by omega)
    refine ⟨_, rfl, .inl ⟨rfl, _, SqL.of hz⟩, _, rfl, _, rfl, _, rfl, fb, zs, rfl, SqL.of hz, fun p np => ?_⟩
    have sp := new_same np (HO.lst zs.reverse)
    refine ⟨v2, .ref p, lsL us, (recL (pwF (lsL us) t) (i + 1)).reverse, L, B, L, B, rfl, (hS.same s3).same sp, ⟨p, _, rfl, upd_same, nz.rev.same sp⟩, by rw [lsL_len]; omega, sm14 l0 l14, by omega, sm14 l0 l14, by omega, zg, zr.rev, fun td H4 s4 n4 e4 => ?_⟩
    have dd := dotL_e zg zr.rev (by rw [lsL_len]; omega)
    have ed : dotL (lsL us) (recL (pwF (lsL us) t) (i + 1)).reverse = mulS (ser (lsL us)) (ser (pwL us t)) i := by
      have l := recL_len (pwF (lsL us) t) (i + 1)
      rw [dot_at (k := i + 1) (by rw [lsL_len]; omega) (by rw [List.length_reverse, l])]
      exact sum_congr fun j hj => by rw [ser_rev (by omega), l, show i + 1 - 1 - j = i - j by omega, ← recL_pre (pwF (lsL us) t) (i + 1) us.length (by omega) (i - j) (by omega)]; rfl
    rw [ed] at e4 dd
    have hz4 := s4 _ _ (sp _ _ hz)
    refine ⟨y, .ref td, t, _, rfl, (nt0.same s3).same (sp.trans s4), .at e4, zt.ok (sm14 l0 l14) (by omega), dd.ok (sm28 l0 l14) (by omega), fun tp H5 s5 n5 e5 => ?_⟩
    refine ⟨_, rfl, (by show 2 ≤ sizeLine; decide), fun tt ntt => ?_⟩
    have s6 := new_same ntt (HO.tup [V.int (1 + (i : Int)), .int 1])
    refine ⟨.ref tp, .ref tt, _, nR (i + 1), rfl, (show Nq K H5 (.ref tp) _ from .at e5).same s6, nR_at (by omega), (zt.mul dd).ok (sm42 l0 l14) (by omega), (nR_d (by omega)).ok sm1 (by decide), nR_ne (by omega), Nat.lt_of_lt_of_le ((nR_d (n := i + 1) (by omega)).num (by decide)) (Nat.pow_le_pow_right (by decide) (by decide)), fun tq H7 s7 n7 e7 => ?_⟩
    rw [← pw_succ t (by omega)] at e7
    have s47 := s4.trans (s5.trans (s6.trans s7))
    have hz7 := s7 _ _ (s6 _ _ (s5 _ _ hz4))
    refine ⟨fb, zs, _, rfl, rfl, hz7, small1000 (by omega), ?_, ⟨_, rfl⟩, zs ++ [.ref tq], upd_same, ?_⟩
    · intro d o hd
      have nd : d ≠ fb := fun z => by rw [z, nf] at hd; cases hd
      rw [upd_ne nd]
      exact s47 _ _ (sp _ _ (s3 _ _ hd))
    · refine Nl.setL ?_ hz7
      have e8 : recL (pwF (lsL us) t) (i + 1 + 1) = recL (pwF (lsL us) t) (i + 1) ++ [ser (pwL us t) (i + 1)] := by
        have e0 : ser (pwL us t) (i + 1) = pwF (lsL us) t (recL (pwF (lsL us) t) (i + 1)) := recL_at _ hi'
        rw [e0]
        rfl
      rw [e8]
      exact ((nz.same (sp.trans s47))).snoc (.at e7)
  · rintro σ H3 ⟨s3, ⟨v4, rfl⟩, zs, hz, nz⟩
    rw [show (((xs.length : Nat) : Int) - 1).toNat + 1 = us.length by omega] at nz
    exact ⟨_, rfl, q fb H3 zs (s0.trans s3) (s0.free nf) hz nz⟩
end
end Kx
end
section
set_option maxHeartbeats 4000000
namespace Kx
open PySem PySem.Spec PyProof.Rows L2 RZ
section
variable {P : Program} {w : World} {K : PySem.W.Frag} {mg : Str → Option Value} {base : Heap} {f fI C S CF CO o1 o0 : Addr} {fd : FuncData}
theorem scRI : FnScope nIn ["self", "numbers"] (defScope C_Row_init) := ⟨rfl, rfl, rfl, by decide +kernel, rfl, by decide +kernel, by decide +kernel⟩
theorem ok_rwinit (G : Fun K "__init__" "Row.__init__" C_Row_init f fd) (c : Cls K C) (nA : ∀ n ∈ rwN, NoAttr K C n) (mn : mg "len" = none)
    (UN : Use P w K mg base (L2.CX P w) 5 "checked_numbers" ["numbers", "further"] (spCn K CF CO) []) (UL : Use P w K mg base CX0 1 "least_place" ["numbers", "first"] (spLp K) []) :
    FnOk P w K mg base (L2.CX P w) 6 f fd ["self", "numbers"] (spRI K C CF CO) := by
  refine G.okX scRI (fun vs H Q E h => ?_) (fun cdv A outer s H vs Q E hr h => ?_)
  · obtain ⟨x, dx, v, rfl, _⟩ := h
    rfl
  obtain ⟨x, dx, v, rfl, nv, hx, hg⟩ := h
  have hr1 := hr.mono (show 1 ≤ 5 by decide)
  have n1 := nA "_numbers" (by simp [rwN])
  have n2 := nA "order" (by simp [rwN])
  have n3 := nA "height" (by simp [rwN])
  refine ⟨_, pss_cons (ps_fld (pv 0) (pe_use (E := E) UN hr rfl (passes_call (takes_of rfl rfl rfl rfl) (fun _ _ _ _ h => h)) (pa_cons (pv 1) (pa_cons (pe_un un_neg pe_int) pa_nil))) rfl)
    (pss_cons (ps_fld (pv 0) (pe_op op_sub (pe_callB call_len_seq rfl mn PySem.boot_len (pa_cons (pv 1) pa_nil)) pe_int) rfl)
    (pss_one (ps_fld (pv 0) (pe_use UL hr1 rfl pass0 (pa_cons (pe_fld (pv 0) rfl) (pa_cons pe_int pa_nil))) rfl))), ?_⟩
  refine ⟨_, rfl, 1, rfl, v, -1, rfl, ?_⟩
  refine hg.cn fun a xs qs H1 b ev ha nx g l1 l2 s1 nb hb => ?_
  subst ev
  have hx1 := s1 _ _ hx
  have xb : b ≠ x := fun e => by rw [e, hx] at nb; cases nb
  have xa : a ≠ x := fun e => nv (by rw [e])
  have lq : xs.length = qs.length := nx.1
  refine ⟨_, rfl, x, C, dx, _, rfl, hx1, c, n1, by decide, ?_⟩
  have ha2 : SqH (upd H1 x (.ins C dx (putF "_numbers" (.ref b) []))) a xs := by
    unfold SqH
    rw [upd_ne xa]
    exact ha.same s1
  have nx2 : Nl K (upd H1 x (.ins C dx (putF "_numbers" (.ref b) []))) xs qs := (nx.same s1).but hx1 but_put
  have hb2 : (upd H1 x (.ins C dx (putF "_numbers" (.ref b) []))) b = some (.lst xs) := by rw [upd_ne xb]; exact hb
  have u2 : But x H (upd H1 x (.ins C dx (putF "_numbers" (.ref b) []))) := (But.same s1).trans but_put
  have hx2 : (upd H1 x (.ins C dx (putF "_numbers" (.ref b) []))) x = some (.ins C dx (putF "_numbers" (.ref b) [])) := upd_same
  generalize upd H1 x (.ins C dx (putF "_numbers" (.ref b) [])) = H2 at ha2 nx2 hb2 u2 hx2
  refine ⟨_, rfl, a, _, rfl, ha2.imp SqL.of SqT.of, _, 1, rfl, rfl, _, rfl, x, C, dx, _, rfl, hx2, c, n2, (by show 1 < 1000; decide), ?_⟩
  have nx3 : Nl K (upd H2 x (.ins C dx (putF "order" (.int ((xs.length : Nat) - 1)) (putF "_numbers" (.ref b) [])))) xs qs := nx2.but hx2 but_put
  have hb3 : (upd H2 x (.ins C dx (putF "order" (.int ((xs.length : Nat) - 1)) (putF "_numbers" (.ref b) [])))) b = some (.lst xs) := by rw [upd_ne xb]; exact hb2
  have u3 : But x H (upd H2 x (.ins C dx (putF "order" (.int ((xs.length : Nat) - 1)) (putF "_numbers" (.ref b) [])))) := u2.trans but_put
  refine ⟨_, rfl, x, C, dx, _, _, rfl, upd_same, c, n1, rfl, .ref b, qs, 0, rfl, ⟨b, xs, rfl, hb3, nx3⟩, fun H4 s4 => ?_⟩
  have hx4 := s4 _ _ (show upd H2 x (.ins C dx (putF "order" (.int ((xs.length : Nat) - 1)) (putF "_numbers" (.ref b) []))) x = _ from upd_same)
  refine ⟨_, rfl, x, C, dx, _, rfl, hx4, c, n3, (by show 2 < 1000; decide), ?_⟩
  rw [← lq] at g
  exact g _ b ((u3.trans (But.same s4)).trans but_put) nb upd_same (by rw [upd_ne xb]; exact s4 _ _ hb3)
end
end Kx
end
section
set_option maxHeartbeats 4000000
namespace Kx
open PySem PySem.Spec PyProof.Rows L2 RZ
/-! ### the law's lists of numbers -/
abbrev nPl : List Str := ["_law_u", "_law_w", "_law_p", "_law_q"]
abbrev nSl : List Str := ["_law_u", "_law_p", "_law_q"]
def spMulsL (K : PySem.W.Frag) : Sp := fun vs H Q _ => ∃ (x y : V) (qs : List Rat) (t : Rat), vs = [x, y] ∧ Ls K H x qs ∧ Nq K H y t ∧ qs.length ≤ 100 ∧ AllO qs ∧ Ok t ∧ GivesL K H Q (qs.map (· * t))
def spZeros (K : PySem.W.Frag) : Sp := fun vs H Q _ => ∃ n : Nat, vs = [.int (n : Nat)] ∧ n ≤ 100 ∧ GivesL K H Q (List.replicate n 0)
def xL (n : Nat) : List Rat := 0 :: stL n
def spX (K : PySem.W.Frag) : Sp := fun vs H Q _ => ∃ n : Nat, vs = [.int (n : Nat)] ∧ 1 ≤ n ∧ n ≤ 100 ∧ GivesL K H Q (xL n)
section
variable {P : Program} {w : World} {K : PySem.W.Frag} {mg : Str → Option Value} {base : Heap} {f o0 : Addr} {fd : FuncData}
theorem scLPl : FnScope nPl ["_law_u", "_law_w"] (defScope L_plus) := ⟨rfl, rfl, rfl, by decide +kernel, rfl, by decide +kernel, by decide +kernel⟩
theorem ok_lplus (G : Fun K "_law_plus" "_law_plus" L_plus f fd) (mz : mg "zip" = none) (UA : Use P w K mg base CX0 2 "_law_add" ["_law_p", "_law_q"] (spTwoQ K (· + ·)) []) : FnOk P w K mg base CX0 3 f fd ["_law_u", "_law_w"] (spTwoL K (· + ·)) := by
  refine G.ok scLPl (fun vs H Q E h => ?_) (fun cdv A outer s H vs Q E hr h => ?_)
  · obtain ⟨x, y, qs, rs, rfl, _⟩ := h
    rfl
  obtain ⟨x, y, qs, rs, rfl, ⟨xa, xs, rfl, hx, nx⟩, ⟨ya, ys, rfl, hy, ny⟩, le, l1, bq, br, q⟩ := h
  refine ⟨_, pss_one (ps_ret (pe_lc (own := [("_law_p", 2), ("_law_q", 3)]) (g := gTup K 2 (gCons (gName 2) (gCons (gName 3) gNil))) (tt := tYes) rfl scLPl.nd (pi_zip rfl mz (pa_cons (pv 0) (pa_cons (pv 1) pa_nil))) (blkOk_by (N := nPl) (sc := defScope L_plus) (by decide +kernel))
      (fun _ _ _ _ _ => pg_tup rfl (pgs_cons (pg_name (i := 2) scLPl.nd rfl (Or.inl rfl)) (pgs_cons (pg_name (i := 3) scLPl.nd rfl (Or.inl rfl)) pgs_nil))) (fun _ _ _ _ _ => pts_nil)
      (fun _ _ _ _ _ => pe_use UA hr rfl pass0 (pa_cons (pv 2) (pa_cons (pv 3) pa_nil))))), ?_⟩
  refine ⟨_, rfl, _, rfl, xa, ya, xs, ys, rfl, SqL.of hx, SqL.of hy, fun D nD => ?_⟩
  have lx : xs.length = qs.length := nx.1
  have ly : ys.length = rs.length := ny.1
  refine lc_nums (K := K) (walk_zip (K := K) (a := xa) (b := ya) (xs := xs) (ys := ys) (n := xs.length) (by omega)) (qs.zipWith (· + ·) rs) (by rw [List.length_zipWith]; omega) nD (by omega) (fun H' s => ⟨SqL.of (s _ _ hx), SqL.of (s _ _ hy)⟩) ?_ (fun H' zs s h n => q D H' zs s nD h n)
  rintro i r x H2 H3 k hq s2 ⟨T, y, z, rfl, hT, rfl, hy2, hz2⟩ hk
  obtain ⟨a, b, ea, eb, rfl⟩ := zip_get hq
  have sT := new_same hT (.tup [y, z])
  exact ⟨T, _, rfl, SqT.of upd_same, rfl, _, _, rfl, _, _, rfl, rfl, rfl, _, rfl, _, rfl, _, _, a, b, rfl, (nx.2 i y a hy2 ea).same (s2.trans sT), (ny.2 i z b hz2 eb).same (s2.trans sT), bq a (List.mem_of_getElem? ea), br b (List.mem_of_getElem? eb), fun t H4 s4 n4 h4 => hk _ _ (sT.trans s4) (.at h4)⟩
theorem scLZe : FnScope ["_law_many_y"] ["_law_many_y"] (defScope L_zeros) := ⟨rfl, rfl, rfl, by decide +kernel, rfl, by decide +kernel, by decide +kernel⟩
theorem ok_lzeros (G : Fun K "_law_zeros" "_law_zeros" L_zeros f fd) : FnOk P w K mg base CX0 1 f fd ["_law_many_y"] (spZeros K) := by
  refine G.ok scLZe (fun vs H Q E h => ?_) (fun cdv A outer s H vs Q E hr h => ?_)
  · obtain ⟨n, rfl, _⟩ := h
    rfl
  obtain ⟨n, rfl, l1, q⟩ := h
  refine ⟨_, pss_one (ps_ret (pe_op op_rep (pe_lst (pa_cons (pe_tup (pa_cons pe_int (pa_cons pe_int pa_nil))) pa_nil)) (pv 0))), ?_⟩
  refine ⟨(by show 2 ≤ sizeLine; decide), fun t nt => ⟨(by show 1 ≤ sizeLine; decide), fun c nc => ?_⟩⟩
  have s1 := new_same nt (HO.tup [.int 0, .int 1])
  have s2 := new_same nc (HO.lst [V.ref t])
  refine ⟨_, rfl, c, (n : Nat), [.ref t], rfl, rfl, upd_same, by omega, by omega, (by show 1 * _ ≤ sizeLine; exact Nat.le_of_lt (small1000 (by omega))), fun d nd => ?_⟩
  have rep : (List.replicate (((n : Nat) : Int)).toNat [V.ref t]).flatten = List.replicate n (.ref t) := by
    rw [List.flatten_replicate_singleton, Int.toNat_natCast]
  rw [rep]
  have s3 := new_same nd (HO.lst (List.replicate n (V.ref t)))
  refine q d _ _ (s1.trans (s2.trans s3)) (s1.free (s2.free nd)) upd_same (reps (.at (K := K) ((s2.trans s3) _ _ (show _ = some (rT 0) from upd_same))) n)
theorem scLX : FnScope ["_law_deg"] ["_law_deg"] (defScope L_x) := ⟨rfl, rfl, rfl, by decide +kernel, rfl, by decide +kernel, by decide +kernel⟩
theorem ok_lx (G : Fun K "_law_x" "_law_x" L_x f fd) : FnOk P w K mg base CX0 1 f fd ["_law_deg"] (spX K) := by
  refine G.ok scLX (fun vs H Q E h => ?_) (fun cdv A outer s H vs Q E hr h => ?_)
  · obtain ⟨n, rfl, _⟩ := h
    rfl
  obtain ⟨n, rfl, l0, l1, q⟩ := h
  refine ⟨_, pss_one (ps_ret (pe_op op_cat (pe_lst (pa_cons (pe_tup (pa_cons pe_int (pa_cons pe_int pa_nil))) (pa_cons (pe_tup (pa_cons pe_int (pa_cons pe_int pa_nil))) pa_nil))) (pe_op op_rep (pe_lst (pa_cons (pe_tup (pa_cons pe_int (pa_cons pe_int pa_nil))) pa_nil)) (pe_op op_sub (pv 0) pe_int)))), ?_⟩
  refine ⟨(by show 2 ≤ sizeLine; decide), fun t0 nt0 => ⟨(by show 2 ≤ sizeLine; decide), fun t1 nt1 => ⟨(by show 2 ≤ sizeLine; decide), fun a na => ⟨(by show 2 ≤ sizeLine; decide), fun t nt => ⟨(by show 1 ≤ sizeLine; decide), fun c nc => ?_⟩⟩⟩⟩⟩
  have s0 := new_same nt0 (HO.tup [.int 0, .int 1])
  have s1 := new_same nt1 (HO.tup [.int 1, .int 1])
  have s2 := new_same na (HO.lst [V.ref t0, V.ref t1])
  have s3 := new_same nt (HO.tup [.int 0, .int 1])
  have s4 := new_same nc (HO.lst [V.ref t])
  refine ⟨_, rfl, (n : Nat), 1, rfl, rfl, c, ((n : Nat) : Int) - 1, [.ref t], rfl, rfl, upd_same, by omega, by omega, (by show 1 * _ ≤ sizeLine; exact Nat.le_of_lt (small1000 (by omega))), fun d nd => ?_⟩
  have rep : (List.replicate (((n : Nat) : Int) - 1).toNat [V.ref t]).flatten = List.replicate (n - 1) (.ref t) := by
    rw [List.flatten_replicate_singleton]
    congr 1
    omega
  rw [rep]
  have s5 := new_same nd (HO.lst (List.replicate (n - 1) (V.ref t)))
  refine ⟨a, d, _, _, rfl, rfl, s5 _ _ (s4 _ _ (s3 _ _ upd_same)), upd_same, Nat.le_of_lt (small1000 (by rw [List.length_replicate]; show 2 + _ ≤ _; omega)), fun k nk => ?_⟩
  have s6 := new_same nk (HO.lst ([V.ref t0, V.ref t1] ++ List.replicate (n - 1) (V.ref t)))
  have z0 : Nq K _ (.ref t0) 0 := .at (K := K) ((s1.trans (s2.trans (s3.trans (s4.trans (s5.trans s6))))) _ _ (show _ = some (rT 0) from upd_same))
  have z1 : Nq K _ (.ref t1) 1 := .at (K := K) ((s2.trans (s3.trans (s4.trans (s5.trans s6)))) _ _ (show _ = some (rT 1) from upd_same))
  have z : Nq K _ (.ref t) 0 := .at (K := K) ((s4.trans (s5.trans s6)) _ _ (show _ = some (rT 0) from upd_same))
  have sA := s0.trans (s1.trans (s2.trans (s3.trans (s4.trans (s5.trans s6)))))
  exact q k _ _ sA ((s0.trans (s1.trans (s2.trans (s3.trans (s4.trans s5))))).free nk) upd_same (Nl.cons z0 (Nl.cons z1 (reps z _)))
end
end Kx
end
section
set_option maxHeartbeats 4000000
namespace Kx
open PySem PySem.Spec PyProof.Rows L2 RZ
/-! ### the law's common lower part -/
abbrev nWh : List Str := ["_law_u", "_law_den", "_law_p", "_law_high", "_law_rest"]
theorem lcm_i (a b : Nat) : ((a : Nat) : Int) / ((Nat.gcd a b : Nat) : Int) * ((b : Nat) : Int) = ((Nat.lcm a b : Nat) : Int) := by
  have : Nat.lcm a b = a / Nat.gcd a b * b := by
    unfold Nat.lcm
    exact Nat.mul_div_right_comm (Nat.gcd_dvd_left a b) b
  rw [this, Int.natCast_mul, Int.natCast_ediv]
theorem small_log {a : Nat} {n : Nat} (h : a < 2 ^ n) (n0 : 0 < n) (n9 : n ≤ 9000) : ((a : Nat) : Int).natAbs.log2 < 9000 := Nat.lt_of_lt_of_le (log_bd (by rw [Int.natAbs_natCast]; exact h) n0) n9
section
variable {P : Program} {w : World} {K : PySem.W.Frag} {mg : Str → Option Value} {base : Heap} {f o0 : Addr} {fd : FuncData}
theorem scWhl : FnScope nWh ["_law_u"] (defScope L_whole) := ⟨rfl, rfl, rfl, by decide +kernel, rfl, by decide +kernel, by decide +kernel⟩
theorem ok_lwhole (F : Fun K "_law_whole" "_law_whole" L_whole f fd) (mi : mg "int" = none) : FnOk P w K mg base CX0 1 f fd ["_law_u"] (spOol K) := by
  refine F.ok scWhl (fun vs H Q E h => ?_) (fun cdv A outer s H vs Q E hr h => ?_)
  · obtain ⟨x, qs, L, B, rfl, _⟩ := h
    rfl
  obtain ⟨x, qs, L, B, rfl, ⟨xa, xs, rfl, hx, nx⟩, l1, sL, lB, bz, q⟩ := h
  have bq : AllO qs := bz.ok sL lB
  refine ⟨_, pss_cons (ps_set (i := 1) scWhl.nd rfl (Or.inr rfl) pe_int)
    (pss_cons (ps_for PassesOwn.never rfl (pi_list (pv 0)) (pg_name (i := 2) scWhl.nd rfl (Or.inl rfl))
      (pss_cons (ps_par (i := 3) (j := 4) rfl scWhl.nd rfl rfl (by decide) rfl rfl (pa_cons (pv 1) (pa_cons (pe_ix ix_tup (pv 2) pe_int (fun _ _ => rfl)) pa_nil)) rfl)
      (C8.pss_cut (ps_while PassesOwn.never (pt_cmpR op_gt (pv 4) pe_int (nomark _)) (pss_one (ps_par (i := 3) (j := 4) rfl scWhl.nd rfl rfl (by decide) rfl rfl (pa_cons (pv 4) (pa_cons (pe_op op_mod (pe_callTy call_int1 rfl mi (by decide +kernel) (pa_cons (pv 3) pa_nil)) (pv 4)) pa_nil)) rfl)))
      (pss_one (ps_set (i := 1) scWhl.nd rfl (Or.inr rfl) (pe_op op_mulW (pe_op op_fdivA (pv 1) (pv 3)) (pe_ix ix_tup (pv 2) pe_int (fun _ _ => rfl))))))))
    (pss_one (ps_ret (pe_tup (pa_cons (pe_lc (own := [("_law_p", 2)]) (g := gName 2) (tt := tYes) rfl scWhl.nd (pi_list (pv 0)) (blkOk_by (N := nWh) (sc := defScope L_whole) (by decide +kernel))
      (fun _ _ _ _ _ => pg_name (i := 2) scWhl.nd rfl (Or.inl rfl)) (fun _ _ _ _ _ => pts_nil)
      (fun _ _ _ _ _ => pe_op op_mulW (pe_ix (ixt_at K rfl) (pv 2) pe_int (fun _ _ => rfl)) (pe_op op_fdivA (pv 1) (pe_ix (ixt_at K rfl) (pv 2) pe_int (fun _ _ => rfl))))) (pa_cons (pv 1) pa_nil)))))), ?_⟩
  have lx : xs.length = qs.length := nx.1
  have lcb : ∀ i, lcmL 1 (qs.take i) < 2 ^ 4450 := fun i => Nat.lt_of_le_of_lt (Nat.le_of_dvd sL.1 (AllD.lcm sL.1 (qs.take i) 1 (fun r hr => bz r (List.mem_of_mem_take hr)) (Nat.one_dvd _))) sL.2
  refine ⟨_, rfl, xa, rfl, ⟨_, SqL.of hx⟩, for_list (K := K) (a := xa) (xs := xs) (fun i σ H' => H' = H ∧ ∃ v2 v3 v4, σ = [some (.ref xa), some (.int (lcmL 1 (qs.take i) : Nat)), v2, v3, v4]) ⟨rfl, none, none, none, rfl⟩ (fun i σ H' _ h => by rw [h.1]; exact SqL.of hx) ?_ ?_⟩
  · rintro i x σ H' hi ⟨rfl, v2, v3, v4, rfl⟩
    obtain ⟨a, ea, na⟩ := nx.get hi
    obtain ⟨va, rfl, sa, _⟩ := na.sq
    have oa := bq a (List.mem_of_getElem? ea)
    have Lb := lcb i
    have Lp := lcmL_pos (qs.take i) 1 (by decide)
    have nxt : lcmL 1 (qs.take (i + 1)) = Nat.lcm (lcmL 1 (qs.take i)) a.den := by
      rw [List.take_add_one, ea, lcmL_app]
      rfl
    rw [nxt]
    generalize lcmL 1 (qs.take i) = M at *
    refine ⟨_, rfl, _, rfl, va, _, 1, _, rfl, rfl, sa, rfl, _, _, rfl, ?_⟩
    refine ⟨fun σ H2 => H2 = H' ∧ σ = [some (.ref xa), some (.int (M : Nat)), some (.ref va), some (.int (Nat.gcd M a.den : Nat)), some (.int 0)], ?_, ?_⟩
    · refine ⟨fun m σ H2 => H2 = H' ∧ ∃ x y : Nat, σ = [some (.ref xa), some (.int (M : Nat)), some (.ref va), some (.int x), some (.int y)] ∧ Nat.gcd x y = Nat.gcd M a.den ∧ y = m, ⟨a.den, rfl, M, a.den, rfl, rfl, rfl⟩, ?_⟩
      rintro m σ H2 ⟨rfl, x, y, rfl, hg, rfl⟩
      refine ⟨_, rfl, y, 0, rfl, rfl, _, rfl, ite2 (fun c => ?_) (fun c => ?_)⟩
      · have hb : (0 : Int) < (y : Nat) := of_decide_eq_true c
        refine ⟨fun σ' H3 => H3 = H2 ∧ σ' = [some (.ref xa), some (.int (M : Nat)), some (.ref va), some (.int y), some (.int ((x % y : Nat) : Int))], ?_, ?_⟩
        · rintro σ' H3 ⟨rfl, rfl⟩
          exact ⟨x % y, Nat.mod_lt _ (by omega), rfl, y, x % y, rfl, by rw [← hg, Nat.gcd_comm x y, Nat.gcd_rec y x, Nat.gcd_comm], rfl⟩
        · exact ⟨_, rfl, _, rfl, .inl ⟨_, rfl, _, rfl, x, y, rfl, rfl, hb, _, _, rfl, rfl, rfl⟩⟩
      · have hb : ¬ (0 : Int) < (y : Nat) := of_decide_eq_false (Bool.eq_false_iff.mpr c)
        obtain rfl : y = 0 := by omega
        rw [Nat.gcd_zero_right] at hg
        subst hg
        exact ⟨rfl, rfl⟩
    rintro σ H2 ⟨rfl, rfl⟩
    have g0 : 0 < Nat.gcd M a.den := Nat.gcd_pos_of_pos_left _ Lp
    refine ⟨_, rfl, _, rfl, (M : Nat), (Nat.gcd M a.den : Nat), rfl, rfl, ⟨by omega, small_log (n := 4450) (Nat.lt_of_le_of_lt (Nat.le_of_dvd Lp (Nat.gcd_dvd_left _ _)) Lb) (by decide) (by decide)⟩, _, rfl, _, _, 1, _, rfl, rfl, sa, rfl, _, _, rfl, rfl, ?_, rfl, some (.ref va), some (.int (Nat.gcd M a.den : Nat)), some (.int 0), ?_⟩
    · rw [Int.fdiv_eq_ediv_of_nonneg _ (by omega)]
      refine wide_mul (a := 4450) ?_ oa.dn (by decide) (by decide) (by decide)
      rw [← Int.natCast_ediv, Int.natAbs_natCast]
      exact Nat.lt_of_le_of_lt (Nat.div_le_self _ _) Lb
    · rw [Int.fdiv_eq_ediv_of_nonneg _ (by omega)]
      show [some (V.ref xa), some (V.int (((M : Nat) : Int) / ((Nat.gcd M a.den : Nat) : Int) * ((a.den : Nat) : Int))), some (V.ref va), some (V.int (Nat.gcd M a.den : Nat)), some (V.int 0)] = _
      rw [lcm_i]
  · rintro σ H' ⟨rfl, v2, v3, v4, rfl⟩
    rw [lx, List.take_length]
    refine ⟨_, rfl, xa, rfl, ⟨_, SqL.of hx⟩, fun D nD => ?_⟩
    have e0 := lcmL_pos qs 1 (by decide)
    have dv := (lcmL_dvd qs 1).2
    refine lc_acc (walk_list (K := K) (a := xa) (xs := xs)) (fun i _ y => ∀ a, qs[i]? = some a → y = .int (a.num * ((lcmL 1 qs : Nat) / (a.den : Nat)))) (fun i H H' y l h _ _ => h) nD (by omega) (fun H2 s => SqL.of (s _ _ hx)) ?_ ?_
    · rintro i x H2 H3 k hi s2 ⟨rfl, hx2⟩ hk
      obtain ⟨a, ea, na⟩ := nx.get hx2
      obtain ⟨va, rfl, sa, _⟩ := (na.same s2).sq
      have ba := bq a (List.mem_of_getElem? ea)
      have z : lcmL 1 qs < 2 ^ 4450 := Nat.lt_of_le_of_lt (Nat.le_of_dvd sL.1 (AllD.lcm sL.1 qs 1 bz (Nat.one_dvd _))) sL.2
      have cd : ((lcmL 1 qs : Nat) : Int) / ((a.den : Nat) : Int) = ((lcmL 1 qs / a.den : Nat) : Int) := rfl
      refine ⟨rfl, _, rfl, va, _, 0, _, rfl, rfl, sa, rfl, _, rfl, _, rfl, va, _, 1, _, rfl, rfl, sa, rfl, _, _, rfl, rfl, ⟨den_ne a, small_log ba.2 (by decide) (by decide)⟩, _, _, rfl, rfl, ?_, hk _ _ (Same.refl _) fun a' ha' => ?_⟩
      · rw [Int.fdiv_eq_ediv_of_nonneg _ (by omega), cd]
        refine wide_mul ba.1 (b := 4450) ?_ (by decide) (by decide) (by decide)
        rw [Int.natAbs_natCast]
        exact Nat.lt_of_le_of_lt (Nat.div_le_self _ _) z
      · rw [ea] at ha'
        rw [← Option.some.inj ha', Int.fdiv_eq_ediv_of_nonneg _ (by omega)]
    · intro H2 zs s2 hD hl hR
      have ez : zs = (upL (lcmL 1 qs) qs).map V.int := by
        apply List.ext_getElem?
        intro i
        unfold upL
        rw [List.map_map, List.getElem?_map]
        by_cases c : i < qs.length
        · rw [List.getElem?_eq_getElem c]
          have e := List.getElem?_eq_getElem (l := zs) (i := i) (by omega)
          rw [e]
          have := hR i _ e _ (List.getElem?_eq_getElem c)
          rw [this]
          rfl
        · rw [List.getElem?_eq_none (by omega), List.getElem?_eq_none (by omega)]
          rfl
      refine ⟨_, rfl, (by show 2 ≤ sizeLine; decide), fun p np => q D p _ (s2.trans (new_same np _)) nD (new_same np _ _ _ (by rw [hD, ez])) upd_same⟩
end
/-! ### products of lists of whole numbers -/
def cvp (xs ys : List Int) (k : Nat) : Nat → Int
  | 0 => 0
  | i + 1 => cvp xs ys k i + (if i ≤ k then xs.getD i 0 * ys.getD (k - i) 0 else 0)
def cvI (xs ys : List Int) : List Int := (List.range xs.length).map fun k => cvp xs ys k xs.length
theorem cvI_len (xs ys : List Int) : (cvI xs ys).length = xs.length := by unfold cvI; rw [List.length_map, List.length_range]
def spConv (K : PySem.W.Frag) : Sp := fun vs H Q _ => ∃ (a b : Addr) (xs ys : List Int) (A B : Nat), vs = [.ref a, .ref b] ∧ SqL K H a (xs.map V.int) ∧ SqL K H b (ys.map V.int) ∧ xs.length = ys.length ∧ ys.length ≤ 40 ∧ (∀ x ∈ xs, x.natAbs < 2 ^ A) ∧ (∀ y ∈ ys, y.natAbs < 2 ^ B) ∧ A + B ≤ 900000 ∧
  ∀ c H', Same H H' → H c = none → H' c = some (.lst ((cvI xs ys).map V.int)) → Q (.ref c) H'
abbrev nCv : List Str := ["_law_xs", "_law_ys", "_law_found", "_law_i", "_law_j"]
theorem set_range {n i : Nat} (f : Nat → Int) (v : Int) (h : i < n) : ((List.range n).map fun k => V.int (f k)).set i (.int v) = (List.range n).map fun k => V.int (if k = i then v else f k) := by
  apply List.ext_getElem?
  intro j
  rw [List.getElem?_set, List.getElem?_map, List.getElem?_map, List.length_map, List.length_range]
  by_cases c : i = j
  · subst c
    rw [if_pos rfl, if_pos h, List.getElem?_range h]
    show _ = some (V.int (if i = i then v else f i))
    rw [if_pos rfl]
  · rw [if_neg c]
    rcases Nat.lt_or_ge j n with d | d
    · rw [List.getElem?_range d]
      show some (V.int (f j)) = some (V.int (if j = i then v else f j))
      rw [if_neg (fun z => c z.symm)]
    · rw [List.getElem?_eq_none (by rw [List.length_range]; exact d)]
      rfl
theorem cvp_stay (xs ys : List Int) (k : Nat) : ∀ m, k + 1 ≤ m → cvp xs ys k m = cvp xs ys k (k + 1) := fun m h => by
  induction h with
  | refl => rfl
  | step h ih =>
    rename_i m
    show cvp xs ys k m + (if m ≤ k then _ else 0) = _
    have h' : k + 1 ≤ m := h
    rw [ih, if_neg (by omega), Int.add_zero]
theorem cvp_bd {xs ys : List Int} {A B : Nat} (hx : ∀ x ∈ xs, x.natAbs < 2 ^ A) (hy : ∀ y ∈ ys, y.natAbs < 2 ^ B) (k : Nat) : ∀ i, (cvp xs ys k i).natAbs ≤ i * 2 ^ (A + B)
  | 0 => by simp [cvp]
  | i + 1 => by
    have ih := cvp_bd hx hy k i
    have gx : ∀ j, (xs.getD j 0).natAbs < 2 ^ A := fun j => by
      rw [List.getD_eq_getElem?_getD]
      cases e : xs[j]? with
      | none => exact Nat.pow_pos (by decide)
      | some x => exact hx x (List.mem_of_getElem? e)
    have gy : ∀ j, (ys.getD j 0).natAbs < 2 ^ B := fun j => by
      rw [List.getD_eq_getElem?_getD]
      cases e : ys[j]? with
      | none => exact Nat.pow_pos (by decide)
      | some y => exact hy y (List.mem_of_getElem? e)
    show (cvp xs ys k i + (if i ≤ k then xs.getD i 0 * ys.getD (k - i) 0 else 0)).natAbs ≤ _
    have h1 := Int.natAbs_add_le (cvp xs ys k i) (if i ≤ k then xs.getD i 0 * ys.getD (k - i) 0 else 0)
    have h2 : (if i ≤ k then xs.getD i 0 * ys.getD (k - i) 0 else 0 : Int).natAbs ≤ 2 ^ (A + B) := by
      split
      · exact Nat.le_of_lt (lt_mul (gx i) (gy (k - i)))
      · exact Nat.zero_le _
    rw [Nat.succ_mul]
    omega
section
variable {P : Program} {w : World} {K : PySem.W.Frag} {mg : Str → Option Value} {base : Heap} {f o0 : Addr} {fd : FuncData}
theorem scCvl : FnScope nCv ["_law_xs", "_law_ys"] (defScope L_conv) := ⟨rfl, rfl, rfl, by decide +kernel, rfl, by decide +kernel, by decide +kernel⟩
theorem int_at {xs : List Int} {i : Nat} (h : i < xs.length) : (xs.map V.int)[i]? = some (.int (xs.getD i 0)) := by
  rw [List.getElem?_map, List.getElem?_eq_getElem h, List.getD_eq_getElem?_getD, List.getElem?_eq_getElem h]
  rfl
theorem getD_mem {xs : List Int} {i : Nat} (h : i < xs.length) : xs.getD i 0 ∈ xs := by
  rw [List.getD_eq_getElem?_getD, List.getElem?_eq_getElem h]
  exact List.getElem_mem h
theorem ok_lconv (F : Fun K "_law_conv" "_law_conv" L_conv f fd) (mn : mg "len" = none) (mr : mg "range" = none) : FnOk P w K mg base CX0 1 f fd ["_law_xs", "_law_ys"] (spConv K) := by
  refine F.ok scCvl (fun vs H Q E h => ?_) (fun cdv A outer s H vs Q E hr h => ?_)
  · obtain ⟨a, b, xs, ys, A, B, rfl, _⟩ := h
    rfl
  obtain ⟨a, b, xs, ys, A, B, rfl, ha, hb, le, l40, bx, by', ab, q⟩ := h
  refine ⟨_, pss_cons (ps_set (i := 2) scCvl.nd rfl (Or.inl rfl) (pe_op op_rep (pe_lst (pa_cons pe_int pa_nil)) (pe_callB call_len_seq rfl mn PySem.boot_len (pa_cons (pv 0) pa_nil))))
    (pss_cons (ps_for PassesOwn.never rfl (pi_range1 rfl mr (pa_cons (pe_callB call_len_seq rfl mn PySem.boot_len (pa_cons (pv 0) pa_nil)) pa_nil)) (pg_name (i := 3) scCvl.nd rfl (Or.inl rfl))
      (pss_one (ps_if (pt_cmpR op_ne (pe_ix ix_list (pv 0) (pv 3) (fun _ _ => rfl)) pe_int (nomark _))
        (pss_one (ps_for PassesOwn.never rfl (pi_range1 rfl mr (pa_cons (pe_op op_sub (pe_callB call_len_seq rfl mn PySem.boot_len (pa_cons (pv 0) pa_nil)) (pv 3)) pa_nil)) (pg_name (i := 4) scCvl.nd rfl (Or.inl rfl))
          (pss_one (ps_asg (pe_op op_add (pe_ix ix_list (pv 2) (pe_op op_add (pv 3) (pv 4)) (fun _ _ => rfl)) (pe_op op_mulW (pe_ix ix_list (pv 0) (pv 3) (fun _ _ => rfl)) (pe_ix ix_list (pv 1) (pv 4) (fun _ _ => rfl)))) (pg_sub (pv 2) (pe_op op_add (pv 3) (pv 4)) set_list))))) pss_nil)))
    (pss_one (ps_ret (pv 2)))), ?_⟩
  have lxs : (xs.map V.int).length = xs.length := List.length_map _
  refine ⟨(by show 1 ≤ sizeLine; decide), fun c nc => ?_⟩
  have s1 := new_same nc (HO.lst [V.int 0])
  refine ⟨_, rfl, a, _, rfl, .inl (s1.seq ha), c, (((xs.map V.int).length : Nat) : Int), [.int 0], rfl, rfl, upd_same, by omega, by omega, (by show 1 * _ ≤ sizeLine; exact Nat.le_of_lt (small1000 (by omega))), fun d nd => ?_⟩
  have rep : (List.replicate ((((xs.map V.int).length : Nat) : Int)).toNat [V.int 0]).flatten = (List.range xs.length).map fun k => V.int (cvp xs ys k 0) := by
    rw [List.flatten_replicate_singleton, Int.toNat_natCast, lxs]
    apply List.ext_getElem?
    intro j
    rw [List.getElem?_replicate, List.getElem?_map]
    rcases Nat.lt_or_ge j xs.length with h | h
    · rw [if_pos h, List.getElem?_range h]
      rfl
    · rw [if_neg (by omega), List.getElem?_eq_none (by rw [List.length_range]; exact h)]
      rfl
  rw [rep]
  have s2 := s1.trans (new_same nd (HO.lst ((List.range xs.length).map fun k => V.int (cvp xs ys k 0))))
  have nd0 : H d = none := s1.free nd
  refine ⟨_, rfl, a, _, rfl, .inl (s2.seq ha), ?_⟩
  refine ⟨_, rfl, by omega, by omega, for_range (lo := 0) (n := ((((xs.map V.int).length : Nat) : Int)).toNat) (fun i σ H' => Same H H' ∧ (∃ v3 v4, σ = [some (.ref a), some (.ref b), some (.ref d), v3, v4]) ∧ H' d = some (.lst ((List.range xs.length).map fun k => V.int (cvp xs ys k i)))) ⟨s2, ⟨none, none, rfl⟩, upd_same⟩ ?_ ?_⟩
  · rintro i σ H3 hi ⟨s3, ⟨v3, v4, rfl⟩, hd⟩
    have hi' : i < xs.length := by omega
    refine ⟨_, rfl, _, rfl, a, _, 0 + (i : Int), _, rfl, rfl, s3.seq ha, at_of (j := i) (by omega) (int_at hi'), rfl, _, rfl, ?_⟩
    by_cases cz : xs.getD i 0 = 0
    · rw [decide_eq_true (congrArg V.int cz)]
      refine iteF ⟨s3, ⟨_, v4, rfl⟩, ?_⟩
      rw [hd]
      congr 2
      refine List.map_congr_left fun k _ => ?_
      show V.int (cvp xs ys k i) = V.int (cvp xs ys k i + (if i ≤ k then xs.getD i 0 * ys.getD (k - i) 0 else 0))
      rw [cz, Int.zero_mul]
      split <;> rw [Int.add_zero]
    rw [decide_eq_false (fun e => cz (V.int.inj e))]
    refine iteT ⟨_, rfl, a, _, rfl, .inl (s3.seq ha), _, rfl, _, 0 + (i : Int), rfl, rfl, ?_⟩
    refine ⟨_, rfl, by omega, by omega, for_range (lo := 0) (n := ((((xs.map V.int).length : Nat) : Int) - (0 + (i : Int))).toNat) (fun j σ H' => Same H H' ∧ (∃ v4, σ = [some (.ref a), some (.ref b), some (.ref d), some (.int (0 + (i : Int))), v4]) ∧ H' d = some (.lst ((List.range xs.length).map fun k => V.int (if i ≤ k ∧ k < i + j then cvp xs ys k (i + 1) else cvp xs ys k i)))) ⟨s3, ⟨v4, rfl⟩, ?_⟩ ?_ ?_⟩
    · rw [hd]
      congr 2
      refine List.map_congr_left fun k _ => ?_
      rw [if_neg (by omega)]
    · rintro j σ H4 hj ⟨s4, ⟨v4, rfl⟩, hd4⟩
      have hij : i + j < xs.length := by omega
      have g4 : ((List.range xs.length).map fun k => V.int (if i ≤ k ∧ k < i + j then cvp xs ys k (i + 1) else cvp xs ys k i))[i + j]? = some (.int (cvp xs ys (i + j) i)) := by
        rw [List.getElem?_map, List.getElem?_range hij]
        show some (V.int (if i ≤ i + j ∧ i + j < i + j then _ else _)) = _
        rw [if_neg (by omega)]
      have gx := bx _ (getD_mem hi')
      have gy := by' _ (getD_mem (xs := ys) (i := j) (by omega))
      have cm : CMulW (xs.getD i 0) (ys.getD j 0) := wide_mul (a := A + 1) (b := B + 1) (Nat.lt_of_lt_of_le gx (Nat.pow_le_pow_right (by decide) (by omega))) (Nat.lt_of_lt_of_le gy (Nat.pow_le_pow_right (by decide) (by omega))) (by omega) (by omega) (by omega)
      refine ⟨_, rfl, _, rfl, _, rfl, 0 + (i : Int), 0 + (j : Int), rfl, rfl, d, _, _, _, rfl, rfl, SqL.of hd4, at_of (j := i + j) (by omega) g4, _, rfl, _, rfl, a, _, 0 + (i : Int), _, rfl, rfl, s4.seq ha, at_of (j := i) (by omega) (int_at hi'), _, rfl, _, rfl, b, _, 0 + (j : Int), _, rfl, rfl, s4.seq hb, at_of (j := j) (by omega) (int_at (by omega)), _, _, rfl, rfl, cm, _, _, rfl, rfl, _, rfl, _, rfl, _, rfl, 0 + (i : Int), 0 + (j : Int), rfl, rfl, d, _, _, i + j, rfl, rfl, hd4, ?_, ?_⟩
      · show ixN _ _ = _
        rw [List.length_map, List.length_range, show (0 + (i : Int) + (0 + (j : Int))) = ((i + j : Nat) : Int) by omega]
        unfold ixN
        rw [if_pos (by omega), if_pos (by omega)]
        congr 1
      · refine ⟨?_, ⟨_, rfl⟩, ?_⟩
        · intro e o he
          have ne : e ≠ d := fun z => by rw [z, nd0] at he; cases he
          rw [upd_ne ne]
          exact s4 _ _ he
        · rw [upd_same, set_range _ _ hij]
          congr 2
          refine List.map_congr_left fun k hk => ?_
          by_cases ck : k = i + j
          · subst ck
            rw [if_pos rfl, if_pos (by omega)]
            show V.int (_ + _) = V.int (cvp xs ys (i + j) i + (if i ≤ i + j then xs.getD i 0 * ys.getD (i + j - i) 0 else 0))
            rw [if_pos (by omega), show i + j - i = j by omega]
          · rw [if_neg ck]
            by_cases c2 : i ≤ k ∧ k < i + j
            · rw [if_pos c2, if_pos (by omega)]
            · rw [if_neg c2, if_neg (by omega)]
    · rintro σ H4 ⟨s4, ⟨v4, rfl⟩, hd4⟩
      refine ⟨s4, ⟨_, v4, rfl⟩, ?_⟩
      rw [hd4]
      congr 2
      refine List.map_congr_left fun k hk => ?_
      have hk' := List.mem_range.mp hk
      by_cases c : i ≤ k
      · rw [if_pos ⟨c, by omega⟩]
      · rw [if_neg (fun z => c z.1)]
        show V.int (cvp xs ys k i) = V.int (cvp xs ys k i + (if i ≤ k then _ else 0))
        rw [if_neg c, Int.add_zero]
  · rintro σ H3 ⟨s3, ⟨v3, v4, rfl⟩, hd⟩
    rw [Int.toNat_natCast, lxs] at hd
    refine ⟨_, rfl, q d H3 s3 nd0 ?_⟩
    rw [hd]
    unfold cvI
    rw [List.map_map]
    rfl
end
end Kx
end
section
set_option maxHeartbeats 4000000
namespace Kx
open PySem PySem.Spec PyProof.Rows L2 RZ
/-! ### the law's putting in, from the highest number down -/
def hS (us : List Rat) (f : Ser) : Nat → Ser
  | 0 => fun _ => 0
  | i + 1 => fun k => mulS (hS us f i) f k + (if k = 0 then us.getD (us.length - 1 - i) 0 else 0)
theorem mul_sum (c : Nat → Rat) (g : Nat → Ser) (f : Ser) (N n : Nat) : mulS (fun i => sumN (fun k => c k * g k i) N) f n = sumN (fun k => c k * mulS (g k) f n) N := by
  have e1 : mulS (fun i => sumN (fun k => c k * g k i) N) f n = sumN (fun j => sumN (fun k => c k * (g k j * f (n - j))) N) (n + 1) := sum_congr fun j _ => by
    rw [← sum_mulR]
    exact sum_congr fun k _ => Rat.mul_assoc _ _ _
  rw [e1, sum_swap]
  exact sum_congr fun k _ => sum_mul (c k) _ _
theorem hS_eq (us : List Rat) (f : Ser) : ∀ i, i ≤ us.length → ∀ k, hS us f i k = sumN (fun j => ser us (us.length - i + j) * powS f j k) i
  | 0, _, _ => rfl
  | i + 1, hi, k => by
    show mulS (hS us f i) f k + (if k = 0 then us.getD (us.length - 1 - i) 0 else 0) = _
    have e : hS us f i = fun k => sumN (fun j => ser us (us.length - i + j) * powS f j k) i := funext (hS_eq us f i (by omega))
    rw [e, mul_sum (fun j => ser us (us.length - i + j)) (fun j => powS f j) f i k, sum_first, Rat.add_comm]
    congr 1
    · show (if k = 0 then us.getD (us.length - 1 - i) 0 else 0) = ser us (us.length - (i + 1) + 0) * (if k = 0 then 1 else 0)
      rw [show us.length - (i + 1) + 0 = us.length - 1 - i by omega]
      split
      · exact (Rat.mul_one _).symm
      · exact (Rat.mul_zero _).symm
    · refine sum_congr fun j hj => ?_
      show ser us (us.length - i + j) * mulS (powS f j) f k = ser us (us.length - (i + 1) + (j + 1)) * powS f (j + 1) k
      rw [show us.length - (i + 1) + (j + 1) = us.length - i + j by omega]
      rfl
theorem hS_end {us : List Rat} {f : Ser} (f0 : f 0 = 0) {k : Nat} (hk : k < us.length) : hS us f us.length k = cmpS (ser us) f k := by
  rw [hS_eq us f us.length (Nat.le_refl _), ← cmpS_to f0 hk]
  refine sum_congr fun j _ => ?_
  rw [Nat.sub_self, Nat.zero_add]
theorem cvp_val {zs ys : List Int} {h f : Ser} {d e : Rat} {k : Nat} (hz : ∀ a, a ≤ k → ((zs.getD a 0 : Int) : Rat) = h a * d) (hy : ∀ a, ((ys.getD a 0 : Int) : Rat) = f a * e) : ∀ m, m ≤ k + 1 → ((cvp zs ys k m : Int) : Rat) = sumN (fun a => h a * f (k - a)) m * (d * e)
  | 0, _ => by
    show ((0 : Int) : Rat) = 0 * _
    rw [Rat.zero_mul]
    rfl
  | m + 1, hm => by
    show ((cvp zs ys k m + (if m ≤ k then zs.getD m 0 * ys.getD (k - m) 0 else 0) : Int) : Rat) = (sumN _ m + h m * f (k - m)) * _
    rw [if_pos (show m ≤ k by omega), Rat.intCast_add, cvp_val hz hy m (by omega), Rat.intCast_mul, hz m (by omega), hy]
    grind
def spPutL (K : PySem.W.Frag) : Sp := fun vs H Q _ => ∃ (x y : V) (us fs : List Rat) (L B M C : Nat), vs = [x, y] ∧ Ls K H x us ∧ Ls K H y fs ∧ us.length = fs.length ∧ 1 ≤ us.length ∧ us.length ≤ 28 ∧ ser fs 0 = 0 ∧ SmL L ∧ B ≤ 20000 ∧ SmL M ∧ C ≤ 20000 ∧ L * M ^ us.length < 2 ^ 9000 ∧ AllD L B us ∧ AllD M C fs ∧
  GivesL K H Q (toL us.length (cmpS (ser us) (ser fs)))
abbrev nPu : List Str := ["_law_u", "_law_f", "_law_xs", "_law_den_x", "_law_ys", "_law_den_y", "_law_found", "_law_scale_y", "_law_n"]
theorem upL_part {L B : Nat} {qs : List Rat} (h : AllD L B qs) (l0 : 0 < L) : ∀ x ∈ upL (lcmL 1 qs) qs, x.natAbs < 2 ^ B := fun x hx => by
  unfold upL at hx
  obtain ⟨q, hq, rfl⟩ := List.mem_map.mp hx
  exact (h q hq).part l0 (AllD.lcm l0 qs 1 h (Nat.one_dvd _)) (up_val ((lcmL_dvd qs 1).2 q hq))
theorem upL_val (qs : List Rat) (a : Nat) : (((upL (lcmL 1 qs) qs).getD a 0 : Int) : Rat) = ser qs a * ((lcmL 1 qs : Nat) : Rat) := getD_up (lcmL_dvd qs 1).2 a
theorem div_of' {u : Int} {L : Nat} {r : Rat} (L0 : 0 < L) (hu : (u : Rat) = r * (L : Rat)) : Rat.divInt u (L : Int) = r := div_of L0 hu
theorem ints_rev {xs : List Int} {i : Nat} (h : i < xs.length) : ((xs.map V.int).reverse)[i]? = some (.int (xs.getD (xs.length - 1 - i) 0)) := by
  rw [List.getElem?_reverse (by rw [List.length_map]; exact h), List.length_map]
  exact int_at (by omega)
section
variable {P : Program} {w : World} {K : PySem.W.Frag} {mg : Str → Option Value} {base : Heap} {f o0 : Addr} {fd : FuncData}
end
end Kx
end
section
set_option maxHeartbeats 4000000
namespace Kx
open PySem PySem.Spec PyProof.Rows L2 RZ
/-! ### the rises of a step -/
theorem cmpS_sub (u w f : Ser) (k : Nat) : cmpS (fun i => u i - w i) f k = cmpS u f k - cmpS w f k := by
  have h := congrFun (cmpS_add (fun i => u i - w i) w f) k
  have e : addS (fun i => u i - w i) w = u := funext fun i => by
    show u i - w i + w i = u i
    grind
  rw [e] at h
  have h2 : cmpS u f k = cmpS (fun i => u i - w i) f k + cmpS w f k := h
  rw [h2]
  grind
/-- with 0 at the place 0 -/
theorem toT0 {n : Nat} {F : Ser} (h : F 0 = 0) : 0 :: toT n F = toL (n + 1) F := by rw [← toT_toL, h]
theorem AllD.cons0 {L B : Nat} {qs : List Rat} (h : AllD L B qs) : AllD L B (0 :: qs) := fun q hq => by
  rcases List.mem_cons.mp hq with rfl | hq
  · exact Dq.zero
  · exact h q hq
/-- .. new lists of numbers -/
theorem lc_rowsN {K : PySem.W.Frag} {J : It} {n : Nat} {G : Hp → Prop} {Y : Nat → Hp → V → Hp → Prop} (w : Walk J n G Y) {g : TG} {te : TE} {vs : List Nat} {σ : L2.St} {H1 : Hp} {D : Addr} {Qd : Hp → Prop} (rows : List (List Rat))
    (hl : rows.length = n) (nD : H1 D = none) (hn : n ≤ 900) (hG : ∀ H, Same H1 H → G H)
    (hs : ∀ i r x H H' (k : V → Hp → Prop), rows[i]? = some r → Same H1 H → Y i H x H' → (∀ b H4, Same H H4 → H b = none → Ls K H4 (.ref b) r → k (.ref b) H4) → g x (wipe σ vs) H' fun σ2 H2 => wipe σ2 vs = wipe σ vs ∧ te σ2 H2 k)
    (hd : ∀ H xs, Same H1 H → H D = some (.lst xs) → Lsl K H xs rows → (∀ x ∈ xs, x ≠ .ref D ∧ ∃ b, x = .ref b ∧ H1 b = none) → Qd H) :
    ∃ W : Nat → Nat → Hp → Prop, (∃ m, W 0 m (upd H1 D (.lst []))) ∧ ∀ i m H, W i m H →
      (J.stop i H ∧ Qd H) ∨ (J.go i H ∧ ∃ Nx : Hp → Prop, (∀ H', Nx H' → ∃ m', m' < m ∧ W (i + 1) m' H') ∧ ∀ x H', J.yld i H x H' → g x (wipe σ vs) H' fun σ2 H2 => wipe σ2 vs = wipe σ vs ∧ tYes σ2 H2 fun b H3 =>
        if b = true then te σ2 H3 fun y H4 => ∃ acc, H4 D = some (.lst acc) ∧ acc.length < sizeLine ∧ Nx (upd H4 D (.lst (acc ++ [y]))) else Nx H3) := by
  refine lc_accD w (fun i H y => (y ≠ .ref D ∧ ∃ b, y = .ref b ∧ H1 b = none) ∧ ∀ r, rows[i]? = some r → Ls K H y r) (fun i H H' y l h hD s => ⟨h.1, fun r hr => (h.2 r hr).butL hD h.1.1 s⟩) nD hn hG (fun i x H H' k hi s hD y hk => ?_) (fun H xs s h l hR => hd H xs s h ⟨by rw [l, hl], fun i x q h1 h2 => (hR i x h1).2 q h2⟩ fun x hx => ?_)
  · have e := List.getElem?_eq_getElem (l := rows) (i := i) (by omega)
    obtain ⟨l, hl⟩ := hD
    refine hs i _ x H H' k e s y fun b H4 s4 n4 r4 => hk _ H4 s4 ⟨⟨fun z => ?_, b, rfl, s.free n4⟩, fun q hq => ?_⟩
    · rw [V.ref.inj z, hl] at n4
      cases n4
    · rw [e] at hq
      rw [← Option.some.inj hq]
      exact r4
  · obtain ⟨i, hi⟩ := List.getElem?_of_mem hx
    exact (hR i x hi).1
def GivesLv (K : PySem.W.Frag) (H : Hp) (Q : VK) (rows : List (List Rat)) : Prop := ∀ v H', Same H H' → Lss K H' v rows → Q v H'
theorem rows_snoc {K : PySem.W.Frag} {H : Hp} {pa b : Addr} {ps : List V} {rows : List (List Rat)} {r : List Rat} (h : Lsl K H ps rows) (hp : H pa = some (.lst ps)) (hne : ∀ x ∈ ps, x ≠ .ref pa) (hb : Ls K H (.ref b) r) (nb : b ≠ pa) :
    Lsl K (upd H pa (.lst (ps ++ [V.ref b]))) (ps ++ [.ref b]) (rows ++ [r]) ∧ ∀ x ∈ ps ++ [.ref b], x ≠ .ref pa := by
  have bu : But pa H (upd H pa (.lst (ps ++ [V.ref b]))) := fun e o n h => by rw [upd_ne n]; exact h
  refine ⟨Lsl.snoc ⟨h.1, fun i x r h1 h2 => (h.2 i x r h1 h2).butL hp (hne x (List.mem_of_getElem? h1)) bu⟩ (hb.butL hp (fun z => nb (V.ref.inj z)) bu), fun x hx => ?_⟩
  rcases List.mem_append.mp hx with hx | hx
  · exact hne x hx
  · obtain rfl := List.mem_singleton.mp hx
    exact fun z => nb (V.ref.inj z)
section
variable {P : Program} {w : World} {K : PySem.W.Frag} {mg : Str → Option Value} {base : Heap} {f o0 : Addr} {fd : FuncData}
end
end Kx
end
section
set_option maxHeartbeats 4000000
namespace Kx
open PySem PySem.Spec PyProof.Rows L2 RZ
theorem ser_L {n : Nat} {f : Ser} {us : List Rat} (h : us = toL n f) : EqTo n (ser us) f := by
  subst h
  exact ser_toL
theorem bhdL_eq {n : Nat} {us rs : List Rat} {u f : Ser} (l : us.length = n) (h : EqTo n (ser us) u) (h' : EqTo n (serS rs) f) : bhdL us rs = toL n (cmpS u f) := by
  unfold bhdL
  rw [l]
  exact toL_eq (h.cmp h')
theorem cmpL_eq {n : Nat} {qs rs : List Rat} {u f : Ser} (l : qs.length = n) (h : EqTo (n + 1) (serS qs) u) (h' : EqTo (n + 1) (serS rs) f) : cmpL qs rs = toT n (cmpS u f) := by
  unfold cmpL
  rw [l]
  exact toT_eq (h.cmp h')
theorem bhd_mul {us ws rs : List Rat} (l : us.length = ws.length) : bhdL (mulL us ws) rs = mulL (bhdL us rs) (bhdL ws rs) := by
  rw [bhdL_eq (n := us.length) (by rw [mulL_len]) (by rw [mulL_ser]; exact ser_toL) (fun _ _ => rfl), cmpS_mul (serS_zero rs)]
  unfold bhdL
  rw [← l, mulL_toL]
theorem ser_take (us : List Rat) (m : Nat) : EqTo m (ser (us.take m)) (ser us) := fun i hi => by
  show List.getD _ _ _ = List.getD _ _ _
  rw [List.getD_eq_getElem?_getD, List.getD_eq_getElem?_getD, List.getElem?_take, if_pos hi]
theorem serS_take (qs : List Rat) (m : Nat) : EqTo (m + 1) (serS (qs.take m)) (serS qs) := ser_take (0 :: qs) (m + 1)
theorem bhd_take {us rs : List Rat} {m : Nat} (h : m + 1 ≤ us.length) : bhdL (us.take (m + 1)) (rs.take m) = (bhdL us rs).take (m + 1) := by
  rw [bhdL_eq (n := m + 1) (by rw [List.length_take]; omega) (ser_take us (m + 1)) (serS_take rs m)]
  unfold bhdL
  rw [toL_take _ h]
theorem cmp_take {qs rs : List Rat} {m : Nat} (h : m ≤ qs.length) : cmpL (qs.take m) (rs.take m) = (cmpL qs rs).take m := by
  rw [cmpL_eq (n := m) (by rw [List.length_take]; omega) (serS_take qs m) (serS_take rs m)]
  unfold cmpL
  rw [toT_take _ h]
theorem bhd_still (us : List Rat) (n : Nat) : bhdL us (1 :: List.replicate n 0) = us := by
  unfold bhdL
  rw [serS_still, cmpS_xr, toL_ser]
theorem cmp_still (qs : List Rat) (n : Nat) : cmpL qs (1 :: List.replicate n 0) = qs := by
  unfold cmpL
  rw [serS_still, cmpS_xr, toT_serS]
theorem still_cmp (qs : List Rat) (n : Nat) (h : n + 1 = qs.length) : cmpL (1 :: List.replicate n 0) qs = qs := by
  unfold cmpL
  rw [serS_still, List.length_cons, List.length_replicate, h]
  refine Eq.trans ?_ (toT_serS qs)
  exact List.map_congr_left fun i _ => cmpS_xl (serS qs) (i + 1) (Nat.succ_pos i)
theorem cmpS0 {u f : Ser} (h : u 0 = 0) : cmpS u f 0 = 0 := by rw [cmpS_zero, h]
theorem serS_cmp (qs rs : List Rat) : EqTo (qs.length + 1) (serS (cmpL qs rs)) (cmpS (serS qs) (serS rs)) := by
  unfold cmpL
  exact serS_toT (cmpS0 (serS_zero qs))
theorem cmp_assoc {qs rs ts : List Rat} (l : qs.length = rs.length) : cmpL (cmpL qs rs) ts = cmpL qs (cmpL rs ts) := by
  rw [cmpL_eq (n := qs.length) (cmpL_len qs rs) (serS_cmp qs rs) (fun _ _ => rfl), cmpS_assoc (serS_zero rs) (serS_zero ts), cmpL_eq (n := qs.length) rfl (fun _ _ => rfl) (by rw [l]; exact serS_cmp rs ts)]
theorem bhd_assoc {us qs rs : List Rat} (l : us.length = qs.length + 1) : bhdL (bhdL us qs) rs = bhdL us (cmpL qs rs) := by
  rw [bhdL_eq (n := us.length) (bhdL_len us qs) (by unfold bhdL; exact ser_toL) (fun _ _ => rfl), cmpS_assoc (serS_zero qs) (serS_zero rs), bhdL_eq (n := us.length) rfl (fun _ _ => rfl) (by rw [l]; exact serS_cmp qs rs)]
/-! ### lines solved, one place after another -/
def colL (rows : List (List Rat)) (k : Nat) : List Rat := rows.map fun r => r.getD k 0
def tt (rows : List (List Rat)) (i k : Nat) : Rat := (rows.getD i []).getD k 0
theorem colL_len (rows : List (List Rat)) (k : Nat) : (colL rows k).length = rows.length := by unfold colL; rw [List.length_map]
theorem col_at (rows : List (List Rat)) (k i : Nat) : ser (colL rows k) i = tt rows i k := by
  show List.getD _ _ _ = _
  unfold colL tt
  rw [List.getD_eq_getElem?_getD, List.getElem?_map, List.getD_eq_getElem?_getD (l := rows)]
  cases h : rows[i]? with
  | none => rfl
  | some r => rfl
def slvL (rows : List (List Rat)) (ws : List Rat) : Nat → List Rat
  | 0 => []
  | k + 1 => slvL rows ws k ++ [(ws.getD k 0 - dotL (slvL rows ws k) (colL rows k)) / tt rows k k]
theorem slvL_len (rows : List (List Rat)) (ws : List Rat) : ∀ k, (slvL rows ws k).length = k
  | 0 => rfl
  | k + 1 => by
    show (slvL rows ws k ++ [_]).length = _
    rw [List.length_append, slvL_len rows ws k]
    rfl
theorem slvL_pre (rows : List (List Rat)) (ws : List Rat) (k : Nat) : ∀ n, k ≤ n → ∀ i, i < k → ser (slvL rows ws n) i = ser (slvL rows ws k) i := by
  intro n h
  induction h with
  | refl => exact fun _ _ => rfl
  | step h ih =>
    rename_i m
    intro i hi
    rw [← ih i hi]
    have l := slvL_len rows ws m
    have h' : k ≤ m := h
    show List.getD (slvL rows ws m ++ [_]) i 0 = List.getD (slvL rows ws m) i 0
    rw [List.getD_eq_getElem?_getD, List.getElem?_append_left (by omega), ← List.getD_eq_getElem?_getD]
theorem slvL_last (rows : List (List Rat)) (ws : List Rat) (k : Nat) : ser (slvL rows ws (k + 1)) k = (ws.getD k 0 - dotL (slvL rows ws k) (colL rows k)) / tt rows k k := by
  show List.getD (slvL rows ws k ++ [_]) k 0 = _
  have l := slvL_len rows ws k
  rw [List.getD_eq_getElem?_getD, List.getElem?_append_right (by omega), l, Nat.sub_self]
  rfl
theorem dot_pre {rows : List (List Rat)} {ws : List Rat} {n k : Nat} (l : rows.length = n) (hk : k ≤ n) (c : Nat) : dotL (slvL rows ws k) (colL rows c) = sumN (fun i => ser (slvL rows ws n) i * tt rows i c) k := by
  unfold dotL
  rw [slvL_len, colL_len, l, Nat.min_eq_left hk, dotT_sum]
  exact sum_congr fun i hi => by rw [slvL_pre rows ws k n hk i hi, col_at]
/-- the factors mix the lines to what is wanted -/
theorem slv_mix {rows : List (List Rat)} {ws : List Rat} {n : Nat} (l : rows.length = n) (lw : ws.length = n) (low : ∀ i k, k < i → i < n → tt rows i k = 0) (dg : ∀ k, k < n → tt rows k k ≠ 0) : mixL n (slvL rows ws n) rows = ws := by
  apply List.ext_getElem?
  intro k
  rcases Nat.lt_or_ge k n with c | c
  · unfold mixL
    rw [List.getElem?_map, List.getElem?_range c]
    show some (dotL (slvL rows ws n) (colL rows k)) = _
    rw [dot_pre l (Nat.le_refl n)]
    have e1 : sumN (fun i => ser (slvL rows ws n) i * tt rows i k) n = sumN (fun i => ser (slvL rows ws n) i * tt rows i k) (k + 1) := by
      have : ∀ m, k + 1 ≤ m → m ≤ n → sumN (fun i => ser (slvL rows ws n) i * tt rows i k) m = sumN (fun i => ser (slvL rows ws n) i * tt rows i k) (k + 1) := by
        intro m h
        induction h with
        | refl => exact fun _ => rfl
        | step h ih =>
          rename_i m
          intro hm
          show sumN _ m + ser (slvL rows ws n) m * tt rows m k = _
          have h' : k + 1 ≤ m := h
          rw [ih (by omega), low m k (by omega) (by omega), Rat.mul_zero, Rat.add_zero]
      exact this n (by omega) (Nat.le_refl _)
    rw [e1]
    show some (sumN _ k + ser (slvL rows ws n) k * tt rows k k) = _
    rw [← dot_pre l (by omega) k, slvL_pre rows ws (k + 1) n (by omega) k (by omega), slvL_last, Rat.div_mul_cancel (dg k c)]
    have ew := List.getElem?_eq_getElem (l := ws) (i := k) (by omega)
    rw [List.getD_eq_getElem?_getD, ew]
    show some (_ + (ws[k] - _)) = some ws[k]
    congr 1
    grind
  · rw [List.getElem?_eq_none (by rw [mixL_len]; exact c), List.getElem?_eq_none (by omega)]
/-! ### steps turned back -/
def invL (rs : List Rat) : List Rat := slvL (tabL rs) (stL rs.length) rs.length
theorem invL_len (rs : List Rat) : (invL rs).length = rs.length := slvL_len _ _ _
theorem tt_tab {rs : List Rat} {i k : Nat} (hi : i < rs.length) (hk : k < rs.length) : tt (tabL rs) i k = powS (serS rs) (i + 1) (k + 1) := by
  have e : (tabL rs).getD i [] = (powL (0 :: rs) i).drop 1 := by
    unfold tabL
    rw [List.getD_eq_getElem?_getD, List.getElem?_map, List.getElem?_range hi]
    rfl
  unfold tt
  rw [e]
  exact pow_at hk
theorem rat_ne {a b : Rat} (ha : a ≠ 0) (hb : b ≠ 0) : a * b ≠ 0 := fun h => by
  have h2 : a * b / b = 0 := by rw [h, Rat.div_def, Rat.zero_mul]
  rw [Rat.mul_div_cancel hb] at h2
  exact ha h2
/-- the lead's powers stand on the diagonal -/
theorem pow_dg {f : Ser} (f0 : f 0 = 0) : ∀ k, powS f (k + 1) (k + 1) = powS f k k * f 1 := fun k => by
  show sumN (fun i => powS f k i * f (k + 1 - i)) (k + 1 + 1) = _
  show sumN (fun i => powS f k i * f (k + 1 - i)) (k + 1) + powS f k (k + 1) * f (k + 1 - (k + 1)) = _
  rw [Nat.sub_self, f0, Rat.mul_zero, Rat.add_zero]
  show sumN (fun i => powS f k i * f (k + 1 - i)) k + powS f k k * f (k + 1 - k) = _
  rw [sum_zero fun i hi => by rw [powS_low f0 k i hi, Rat.zero_mul], Rat.zero_add, show k + 1 - k = 1 by omega]
theorem pow_dg_ne {f : Ser} (f0 : f 0 = 0) (h : f 1 ≠ 0) : ∀ k, powS f k k ≠ 0
  | 0 => by
    show (if (0 : Nat) = 0 then (1 : Rat) else 0) ≠ 0
    rw [if_pos rfl]
    decide
  | k + 1 => by
    rw [pow_dg f0]
    exact rat_ne (pow_dg_ne f0 h k) h
def Trn (rs : List Rat) : Prop := serS rs 1 ≠ 0
theorem inv_cmp {rs : List Rat} (l1 : 1 ≤ rs.length) (h : Trn rs) : cmpL (invL rs) rs = stL rs.length := by
  rw [← mix_step (invL_len rs)]
  refine slv_mix (tabL_len rs) (stL_len l1) (fun i k hk hi => ?_) (fun k hk => ?_)
  · rw [tt_tab hi (by omega)]
    exact powS_low (serS_zero rs) _ _ (by omega)
  · rw [tt_tab hk hk]
    exact pow_dg_ne (serS_zero rs) h _
theorem stL_eq {n : Nat} (h : 1 ≤ n) : serS (stL n) = xS := serS_still (n - 1)
theorem cmp_st (qs : List Rat) (n : Nat) : cmpL qs (stL n) = qs := cmp_still qs (n - 1)
theorem st_cmp (qs : List Rat) (h : 1 ≤ qs.length) : cmpL (stL qs.length) qs = qs := still_cmp qs (qs.length - 1) (by omega)
theorem cmp_lead {qs rs : List Rat} (l : qs.length = rs.length) (l1 : 1 ≤ qs.length) : serS (cmpL qs rs) 1 = serS qs 1 * serS rs 1 := by
  rw [serS_cmp qs rs 1 (by omega)]
  show sumN (fun j => serS qs j * powS (serS rs) j 1) 2 = _
  show (0 : Rat) + serS qs 0 * powS (serS rs) 0 1 + serS qs 1 * powS (serS rs) 1 1 = _
  rw [powS_one, show serS qs 0 = 0 from rfl, Rat.zero_mul, Rat.add_zero, Rat.zero_add]
theorem inv_trn {rs : List Rat} (l1 : 1 ≤ rs.length) (h : Trn rs) : serS (invL rs) 1 * serS rs 1 = 1 := by
  rw [← cmp_lead (invL_len rs) (by rw [invL_len]; exact l1), inv_cmp l1 h]
  rfl
theorem inv_turn {rs : List Rat} (l1 : 1 ≤ rs.length) (h : Trn rs) : Trn (invL rs) := fun z => by
  have := inv_trn l1 h
  rw [z, Rat.zero_mul] at this
  exact absurd this (by decide)
/-- turned back twice -/
theorem inv_inv {rs : List Rat} (l1 : 1 ≤ rs.length) (h : Trn rs) : invL (invL rs) = rs := by
  have e1 := inv_cmp l1 h
  have e2 := inv_cmp (rs := invL rs) (by rw [invL_len]; exact l1) (inv_turn l1 h)
  have l : (invL (invL rs)).length = rs.length := by rw [invL_len, invL_len]
  have := cmp_assoc (qs := invL (invL rs)) (rs := invL rs) (ts := rs) (by rw [l, invL_len])
  rw [e2, e1, cmp_st, invL_len, st_cmp rs l1] at this
  exact this.symm
theorem cmp_inv {rs : List Rat} (l1 : 1 ≤ rs.length) (h : Trn rs) : cmpL rs (invL rs) = stL rs.length := by
  have e2 := inv_cmp (rs := invL rs) (by rw [invL_len]; exact l1) (inv_turn l1 h)
  rw [inv_inv l1 h, invL_len] at e2
  exact e2
/-- there is one alone -/
theorem inv_uni {xs rs : List Rat} (l : xs.length = rs.length) (l1 : 1 ≤ rs.length) (h : Trn rs) (e : cmpL xs rs = stL rs.length) : xs = invL rs := by
  have a := cmp_assoc (qs := xs) (rs := rs) (ts := invL rs) l
  rw [e, cmp_inv l1 h, cmp_st] at a
  have z := st_cmp (invL rs) (by rw [invL_len]; exact l1)
  rw [invL_len] at z
  rw [z] at a
  exact a.symm
theorem cmp_trn {qs rs : List Rat} (l : qs.length = rs.length) (l1 : 1 ≤ qs.length) (h : Trn qs) (h' : Trn rs) : Trn (cmpL qs rs) := by
  show serS (cmpL qs rs) 1 ≠ 0
  rw [cmp_lead l l1]
  exact rat_ne h h'
theorem inv_mul {qs rs : List Rat} (l : qs.length = rs.length) (l1 : 1 ≤ qs.length) (h : Trn qs) (h' : Trn rs) : invL (cmpL qs rs) = cmpL (invL rs) (invL qs) := by
  symm
  refine inv_uni (by rw [cmpL_len, cmpL_len, invL_len]; exact l.symm) (by rw [cmpL_len]; exact l1) (cmp_trn l l1 h h') ?_
  rw [cmp_assoc (by rw [invL_len, invL_len]; exact l.symm), ← cmp_assoc (qs := invL qs) (rs := qs) (ts := rs) (invL_len qs), inv_cmp l1 h, l, st_cmp rs (by omega), inv_cmp (by omega) h', cmpL_len, l]
theorem stL_take {n m : Nat} (h1 : 1 ≤ m) (h : m ≤ n) : (stL n).take m = stL m := by
  unfold stL
  obtain ⟨m', rfl⟩ : ∃ m', m = m' + 1 := ⟨m - 1, by omega⟩
  rw [List.take_succ_cons, List.take_replicate]
  congr 2
  omega
theorem inv_take {rs : List Rat} {m : Nat} (m1 : 1 ≤ m) (hm : m ≤ rs.length) (h : Trn rs) : invL (rs.take m) = (invL rs).take m := by
  have lt : (rs.take m).length = m := by rw [List.length_take]; omega
  have ht : Trn (rs.take m) := by
    show serS _ 1 ≠ 0
    rw [serS_take rs m 1 (by omega)]
    exact h
  symm
  refine inv_uni (by rw [List.length_take, invL_len, List.length_take]) (by omega) ht ?_
  rw [cmp_take (by rw [invL_len]; exact hm), inv_cmp (by omega) h, lt, stL_take m1 hm]
/-- done so many times -/
def itL (qs : List Rat) : Nat → List Rat
  | 0 => stL qs.length
  | k + 1 => cmpL qs (itL qs k)
theorem itL_len {qs : List Rat} (h : 1 ≤ qs.length) : ∀ k, (itL qs k).length = qs.length
  | 0 => stL_len h
  | k + 1 => cmpL_len _ _
theorem itL_one {qs : List Rat} : itL qs 1 = qs := cmp_st qs _
theorem itL_add {qs : List Rat} (h : 1 ≤ qs.length) (a : Nat) : ∀ b, itL qs (b + a) = cmpL (itL qs b) (itL qs a)
  | 0 => by
    rw [Nat.zero_add]
    show _ = cmpL (stL qs.length) (itL qs a)
    have := st_cmp (itL qs a) (by rw [itL_len h]; exact h)
    rw [itL_len h] at this
    exact this.symm
  | b + 1 => by
    rw [Nat.add_right_comm b 1 a]
    show cmpL qs (itL qs (b + a)) = cmpL (cmpL qs (itL qs b)) (itL qs a)
    rw [itL_add h a b, cmp_assoc (by rw [itL_len h])]
theorem itL_snoc {qs : List Rat} (h : 1 ≤ qs.length) (k : Nat) : itL qs (k + 1) = cmpL (itL qs k) qs := by
  have := itL_add h 1 k
  rw [itL_one] at this
  exact this
theorem it_inv {qs : List Rat} (l1 : 1 ≤ qs.length) (h : Trn qs) : ∀ k, cmpL (itL qs k) (itL (invL qs) k) = stL qs.length
  | 0 => by
    show cmpL (stL qs.length) (stL (invL qs).length) = _
    rw [cmp_st]
  | k + 1 => by
    have li : 1 ≤ (invL qs).length := by rw [invL_len]; exact l1
    rw [itL_snoc l1 k]
    show cmpL (cmpL (itL qs k) qs) (cmpL (invL qs) (itL (invL qs) k)) = _
    rw [cmp_assoc (itL_len l1 k), ← cmp_assoc (qs := qs) (rs := invL qs) (by rw [invL_len]), cmp_inv l1 h]
    have z := st_cmp (itL (invL qs) k) (by rw [itL_len li]; exact li)
    rw [itL_len li, invL_len] at z
    rw [z]
    exact it_inv l1 h k
end Kx
end
section
set_option maxHeartbeats 4000000
namespace Kx
open PySem PySem.Spec PyProof.Rows L2 RZ
/-! ### lines solved -/
theorem div_1 (x : Rat) : x / 1 = x := by grind
theorem SmL.left {L M : Nat} (h : SmL (L * M)) : SmL L := ⟨Nat.pos_of_mul_pos_right h.1, Nat.lt_of_le_of_lt (Nat.le_mul_of_pos_right _ (Nat.pos_of_mul_pos_left h.1)) h.2⟩
theorem SmL.right {L M : Nat} (h : SmL (L * M)) : SmL M := SmL.left (by rw [Nat.mul_comm]; exact h)
theorem still_o (n : Nat) : AllO (stL n) := fun q hq => by
  rcases List.mem_cons.mp hq with rfl | hq
  · exact Ok.one
  · obtain rfl := List.eq_of_mem_replicate hq
    exact Ok.zero
theorem pow_dg_one {f : Ser} (f0 : f 0 = 0) (h : f 1 = 1) : ∀ k, powS f k k = 1
  | 0 => rfl
  | k + 1 => by rw [pow_dg f0, pow_dg_one f0 h k, h, Rat.mul_one]
theorem trn_one {rs : List Rat} (h : serS rs 1 = 1) : Trn rs := fun z => by
  rw [h] at z
  exact absurd z (by decide)
def spSolv (K : PySem.W.Frag) : Sp := fun vs H Q _ => ∃ (x y : V) (rows : List (List Rat)) (ws : List Rat) (L B M Z : Nat), vs = [x, y] ∧ Lss K H x rows ∧ Ls K H y ws ∧ rows.length = ws.length ∧ 1 ≤ ws.length ∧ ws.length ≤ 24 ∧ (∀ r ∈ rows, r.length = ws.length) ∧ SmL (L * M) ∧ B + Z + 32 ≤ 100000 ∧
  AllD L B (slvL rows ws ws.length) ∧ (∀ r ∈ rows, AllD M Z r) ∧ AllO ws ∧ (∀ k, k < ws.length → tt rows k k ≠ 0 ∧ (tt rows k k).num.natAbs < 2 ^ 4450) ∧ GivesL K H Q (slvL rows ws ws.length)
abbrev nSv : List Str := ["lines", "wanted", "found", "at", "number", "have", "line"]
theorem slv_d {rows : List (List Rat)} {ws : List Rat} {L B n : Nat} (h : AllD L B (slvL rows ws n)) {k : Nat} (hk : k ≤ n) : AllD L B (slvL rows ws k) := fun q hq => by
  obtain ⟨i, hi⟩ := List.getElem?_of_mem hq
  have l := slvL_len rows ws k
  have hl : i < k := by
    rcases Nat.lt_or_ge i k with c | c
    · exact c
    · rw [List.getElem?_eq_none (by omega)] at hi; cases hi
  have e1 := slvL_pre rows ws k n hk i hl
  have e2 : ser (slvL rows ws k) i = q := by
    show List.getD _ _ _ = q
    rw [List.getD_eq_getElem?_getD, hi]
    rfl
  rw [← e2, ← e1]
  exact h.getD i
section
variable {P : Program} {w : World} {K : PySem.W.Frag} {mg : Str → Option Value} {base : Heap} {f C S CF CO CU o0 : Addr} {fd : FuncData}
theorem scSv : FnScope nSv ["lines", "wanted"] (defScope F_solved) := ⟨rfl, rfl, rfl, by decide +kernel, rfl, by decide +kernel, by decide +kernel⟩
theorem ok_solved (F : Fun K "solved" "solved" F_solved f fd) (me : mg "enumerate" = none) (UD : Use P w K mg base CX0 2 "dot" ["ones", "others"] (spDot K) []) (UF : Use P w K mg base CX0 2 "difference_of" ["one", "other"] (spTwoQ K (· - ·)) []) (UQ : Use P w K mg base CX0 2 "quotient_of" ["one", "other"] (spDivQ K) []) : FnOk P w K mg base CX0 3 f fd ["lines", "wanted"] (spSolv K) := by
  refine F.ok scSv (fun vs H Q E h => ?_) (fun cdv A outer s H vs Q E hr h => ?_)
  · obtain ⟨x, y, rows, ws, L, B, M, Z, rfl, _⟩ := h
    rfl
  obtain ⟨x, y, rows, ws, L, B, M, Z, rfl, ⟨la, ls, rfl, hl, ml⟩, ⟨wa, wv, rfl, hw, mw⟩, lr, l1, l24, sq, sL, bl, ze, zg, zw, dg, q⟩ := h
  refine ⟨_, pss_cons (ps_set (i := 2) scSv.nd rfl (Or.inl rfl) (pe_lst pa_nil))
    (pss_cons (ps_for PassesOwn.never rfl (pi_enumA rfl me (pa_cons (pv 1) pa_nil)) (pg_tup rfl (pgs_cons (pg_name (i := 3) scSv.nd rfl (Or.inr rfl)) (pgs_cons (pg_name (i := 4) scSv.nd rfl (Or.inl rfl)) pgs_nil)))
      (C8.pss_cut (ps_set (i := 5) scSv.nd rfl (Or.inl rfl) (pe_use UD hr rfl pass0 (pa_cons (pv 2) (pa_cons (pe_lc (own := [("line", 6)]) (g := gName 6) (tt := tYes) rfl scSv.nd (pi_list (pv 0)) (blkOk_by (N := nSv) (sc := defScope F_solved) (by decide +kernel)) (fun _ _ _ _ _ => pg_name (i := 6) scSv.nd rfl (Or.inl rfl)) (fun _ _ _ _ _ => pts_nil) (fun _ _ _ _ _ => pe_ix (ixl_at K rfl) (pv 6) (pv 3) (fun _ _ => rfl))) pa_nil))))
      (pss_one (ps_expr (pe_bm PySem.F.plainAttrs_list PySem.F.slot_list_append PySem.F.type_list_append mt_append (pv 2) (pa_cons (pe_use UQ hr rfl pass0 (pa_cons (pe_use UF hr rfl pass0 (pa_cons (pv 4) (pa_cons (pv 5) pa_nil))) (pa_cons (pe_ix ix_list (pe_ix ix_list (pv 0) (pv 3) (fun _ _ => rfl)) (pv 3) (fun _ _ => rfl)) pa_nil))) pa_nil))))))
    (pss_one (ps_ret (pv 2)))), ?_⟩
  have ll := ml.1
  have lw := mw.1
  refine ⟨(by show 0 ≤ sizeLine; decide), fun fb nf => ?_⟩
  have s1 := new_same nf (HO.lst [])
  refine ⟨_, rfl, wa, wv, rfl, .inl ⟨SqL.of (s1 _ _ hw), ?_⟩⟩
  refine for_it (walk_enum (K := K) (a := wa) (xs := wv)) (fun i σ H' => Same H H' ∧ (∃ v3 v4 v5 v6, σ = [some (.ref la), some (.ref wa), some (.ref fb), v3, v4, v5, v6]) ∧ ∃ zs, H' fb = some (.lst zs) ∧ Nl K H' zs (slvL rows ws i)) ⟨s1, ⟨none, none, none, none, rfl⟩, [], upd_same, Nl.nil⟩ (fun i σ H' _ h => SqL.of (h.1 _ _ hw)) ?_ ?_
  · rintro k x σ H2 H3 hk ⟨s2, ⟨v3, v4, v5, v6, rfl⟩, zs, hz, mz⟩ ⟨T, y, z, rfl, hT, rfl, hy, hzz⟩
    obtain rfl : y = .int ((k : Nat) : Int) := (Option.some.inj hy).symm
    have hk' : k < ws.length := by omega
    have s3 := s2.trans (new_same hT (.tup [.int (k : Nat), z]))
    have hz3 := new_same hT (.tup [.int (k : Nat), z]) _ _ hz
    have mz3 := mz.same (new_same hT (.tup [.int (k : Nat), z]))
    obtain ⟨wq, ewq, nwq⟩ := mw.get hzz
    have lz : zs.length = k := by rw [mz.1, slvL_len]
    refine ⟨T, [_, _], rfl, SqT.of upd_same, rfl, _, [_], rfl, _, [], rfl, rfl, ?_⟩
    generalize upd H2 T (.tup [.int (k : Nat), z]) = H3 at s3 hz3 mz3
    have nwq3 := nwq.same s3
    refine ⟨fun σ G => Same H3 G ∧ ∃ hv v6, σ = [some (.ref la), some (.ref wa), some (.ref fb), some (.int (k : Nat)), some z, some hv, v6] ∧ Nq K G hv (dotL (slvL rows ws k) (colL rows k)), ?_, ?_⟩
    · refine ⟨_, rfl, _, rfl, la, rfl, ⟨_, SqL.of (s3 _ _ hl)⟩, fun D nD => ?_⟩
      refine lc_nums (K := K) (walk_list (K := K) (a := la) (xs := ls)) (colL rows k) (by rw [colL_len]; omega) nD (by omega) (fun H' s => SqL.of (s _ _ (s3 _ _ hl))) ?_ (fun H5 cs s5 hD md => ?_)
      · rintro i qi x H4 H5 kk hq s4 ⟨rfl, hx2⟩ hkk
        obtain ⟨r, er, ra, rxs, rfl, hra, nra⟩ := ml.get hx2
        have lr' := sq r (List.mem_of_getElem? er)
        obtain ⟨v, ev, nv⟩ := nra.get' (i := k) (by omega)
        have eq' : r[k]'(by omega) = qi := by
          unfold colL at hq
          rw [List.getElem?_map, er] at hq
          have := Option.some.inj hq
          rw [← this]
          show _ = r.getD k 0
          rw [List.getD_eq_getElem?_getD, List.getElem?_eq_getElem (by omega)]
          rfl
        rw [eq'] at nv
        exact ⟨rfl, _, rfl, _, rfl, ra, rxs, (k : Nat), v, rfl, rfl, SqL.of ((s3.trans s4) _ _ hra), at_of (j := k) rfl ev, hkk v _ (Same.refl _) (nv.same (s3.trans s4))⟩
      · have zc : AllD M Z (colL rows k) := fun p hp => by
          obtain ⟨r, hr', rfl⟩ := List.mem_map.mp hp
          exact (zg r hr').getD k
        refine ⟨.ref fb, .ref D, slvL rows ws k, colL rows k, L, B, M, Z, rfl, ⟨fb, zs, rfl, s5 _ _ hz3, mz3.same s5⟩, ⟨D, cs, rfl, hD, md⟩, by rw [slvL_len, colL_len]; omega, sL.left, by omega, sL.right, by omega, slv_d ze (by omega), zc, fun d H6 s6 n6 e6 => ⟨s5.trans s6, .ref d, _, rfl, .at e6⟩⟩
    · rintro σ G ⟨s4, hv, v6', rfl, nh⟩
      have sG := s3.trans s4
      have hzG := s4 _ _ hz3
      have zc : AllD M Z (colL rows k) := fun p hp => by
        obtain ⟨r, hr', rfl⟩ := List.mem_map.mp hp
        exact (zg r hr').getD k
      have zh : Ok (dotL (slvL rows ws k) (colL rows k)) := (dotL_d (slv_d ze (by omega)) zc (by rw [slvL_len, colL_len]; omega)).ok sL bl
      have ewq' : ws.getD k 0 = wq := by rw [List.getD_eq_getElem?_getD, ewq]; rfl
      have ed : wq - dotL (slvL rows ws k) (colL rows k) = ser (slvL rows ws ws.length) k * tt rows k k := by
        rw [slvL_pre rows ws (k + 1) ws.length (by omega) k (by omega), slvL_last, ewq', Rat.div_mul_cancel (dg k hk').1]
      have zt : Dq M Z (tt rows k k) := by
        have er := List.getElem?_eq_getElem (l := rows) (i := k) (by omega)
        have := (zg _ (List.getElem_mem (l := rows) (n := k) (by omega))).getD k
        unfold tt
        rw [List.getD_eq_getElem?_getD (l := rows), er]
        exact this
      have zd : Ok (wq - dotL (slvL rows ws k) (colL rows k)) := by
        rw [ed]
        exact ((ze.getD k).mul zt).ok sL (by omega)
      obtain ⟨lv, elv, llv⟩ := ml.get' (i := k) (by omega)
      have er := List.getElem?_eq_getElem (l := rows) (i := k) (by omega)
      have lrk := sq _ (List.getElem_mem (l := rows) (n := k) (by omega))
      obtain ⟨ra, rxs, rfl, hra, nra⟩ := llv
      obtain ⟨v, ev, nv⟩ := nra.get' (i := k) (by omega)
      have et : (rows[k]'(by omega))[k]'(by omega) = tt rows k k := by
        unfold tt
        rw [List.getD_eq_getElem?_getD (l := rows), er]
        show _ = (rows[k]'(by omega)).getD k 0
        rw [List.getD_eq_getElem?_getD, List.getElem?_eq_getElem (by omega)]
        rfl
      rw [et] at nv
      refine ⟨_, rfl, .inl ⟨rfl, _, SqL.of hzG⟩, _, rfl, _, rfl, z, hv, wq, dotL (slvL rows ws k) (colL rows k), rfl, nwq3.same s4, nh, ?_, zh, fun d H6 s6 n6 e6 => ?_⟩
      · exact zw wq (List.mem_of_getElem? ewq)
      have sG6 := sG.trans s6
      refine ⟨_, rfl, _, rfl, la, ls, (k : Nat), _, rfl, rfl, SqL.of (sG6 _ _ hl), at_of (j := k) rfl elv, _, rfl, ra, rxs, (k : Nat), v, rfl, rfl, SqL.of (sG6 _ _ hra), at_of (j := k) rfl ev, ?_⟩
      refine ⟨.ref d, v, _, tt rows k k, rfl, .at e6, nv.same sG6, zd, zt.ok sL.right (by omega), (dg k hk').1, (dg k hk').2, fun d2 H7 s7 n7 e7 => ?_⟩
      have s67 := s6.trans s7
      refine ⟨fb, zs, _, rfl, rfl, s67 _ _ hzG, small1000 (by omega), fun b o hb => ?_, ⟨_, _, _, _, rfl⟩, zs ++ [.ref d2], upd_same, ?_⟩
      · rw [upd_ne (fun y => by rw [y, nf] at hb; cases hb)]
        exact (sG.trans s67) b o hb
      · have nb : Nl K H7 (zs ++ [V.ref d2]) (slvL rows ws (k + 1)) := by
          show Nl K H7 _ (slvL rows ws k ++ [(ws.getD k 0 - dotL (slvL rows ws k) (colL rows k)) / tt rows k k])
          rw [ewq']
          exact (mz3.same (s4.trans s67)).snoc (.at e7)
        exact ⟨nb.1, fun j x r h1 h2 => (nb.2 j x r h1 h2).butL (s67 _ _ hzG) (fun b o n h => by rw [upd_ne n]; exact h)⟩
  · rintro σ H2 ⟨s2, ⟨v3, v4, v5, v6, rfl⟩, zs, hz, mz⟩
    rw [lw] at mz
    exact ⟨_, rfl, q fb H2 zs s2 nf hz mz⟩
end
/-! ### turned back -/
def spTrn (K : PySem.W.Frag) : Sp := fun vs H Q _ => ∃ (x : V) (rs : List Rat) (L B M Z : Nat), vs = [x] ∧ Ls K H x rs ∧ 2 ≤ rs.length ∧ rs.length ≤ 24 ∧ Trn rs ∧ (∀ k, k < rs.length → (powS (serS rs) (k + 1) (k + 1)).num.natAbs < 2 ^ 4450) ∧ SmL (L * M) ∧ B + Z + 32 ≤ 100000 ∧ AllD L B (invL rs) ∧ PowD M Z rs ∧ GivesL K H Q (invL rs)
section
variable {P : Program} {w : World} {K : PySem.W.Frag} {mg : Str → Option Value} {base : Heap} {f C S CF CO CU o0 : Addr} {fd : FuncData}
theorem scTrb : FnScope ["numbers"] ["numbers"] (defScope F_turned_back) := ⟨rfl, rfl, rfl, by decide +kernel, rfl, by decide +kernel, by decide +kernel⟩
theorem ok_turned (F : Fun K "turned_back" "turned_back" F_turned_back f fd) (mn : mg "len" = none) (US : Use P w K mg base CX0 3 "solved" ["lines", "wanted"] (spSolv K) []) (UT : Use P w K mg base CX0 3 "table_lines" ["numbers"] (spTab K) []) (UN : Use P w K mg base CX0 1 "still_numbers" ["order"] (spSn K) []) : FnOk P w K mg base CX0 4 f fd ["numbers"] (spTrn K) := by
  refine F.ok scTrb (fun vs H Q E h => ?_) (fun cdv A outer s H vs Q E hr h => ?_)
  · obtain ⟨x, rs, L, B, M, Z, rfl, _⟩ := h
    rfl
  obtain ⟨x, rs, L, B, M, Z, rfl, hx, l2, l24, ht, dgb, sL, bl, ze, zp, q⟩ := h
  refine ⟨_, pss_one (ps_ret (pe_use US hr rfl pass0 (pa_cons (pe_use UT hr rfl pass0 (pa_cons (pv 0) pa_nil)) (pa_cons (pe_use UN (hr.mono (by decide)) rfl pass0 (pa_cons (pe_callB call_len_seq rfl mn PySem.boot_len (pa_cons (pv 0) pa_nil)) pa_nil)) pa_nil)))), ?_⟩
  refine ⟨_, rfl, x, rs, M, Z, rfl, hx, by omega, l24, sL.right, by omega, zp, fun b H1 xs s1 nb hb mb => ?_⟩
  obtain ⟨xa, xv, rfl, hxa, nx⟩ := id hx
  have lx := nx.1
  refine ⟨_, rfl, xa, xv, rfl, .inl (SqL.of (s1 _ _ hxa)), xv.length, rfl, by omega, by omega, fun c H2 ys s2 nc hc mc => ?_⟩
  rw [lx] at mc
  have lst := stL_len (n := rs.length) (by omega)
  refine ⟨.ref b, .ref c, tabL rs, stL rs.length, L, B, M, Z, rfl, ⟨b, xs, rfl, s2 _ _ hb, mb.same s2⟩, ⟨c, ys, rfl, hc, mc⟩, by rw [tabL_len, lst], by omega, by omega, fun r hr' => by rw [tabL_row r hr', lst], sL, bl, ?_, tabL_d zp, still_o _, fun k hk => ?_, fun d H3 zs s3 nd hd md => ?_⟩
  · rw [lst]
    exact ze
  · rw [lst] at hk
    rw [tt_tab hk hk]
    exact ⟨pow_dg_ne (serS_zero rs) ht _, dgb k hk⟩
  · rw [lst] at md
    exact q d H3 zs (s1.trans (s2.trans s3)) (s1.free (s2.free nd)) hd md
end
end Kx
end
section
set_option maxHeartbeats 4000000
namespace Kx
open PySem PySem.Spec PyProof.Rows L2 RZ
/-! ### letters behind a creep and their gains -/
theorem ls_step {us : List Rat} (u0 : ser us 0 = 1) {k : Nat} (hk : k < us.length - 1) : ser (lsL us) k = nR (k + 1) * ser us (k + 1) - sumN (fun i => ser (lsL us) i * ser us (k - i)) k := by
  have e := ls_eq u0 k hk
  have e : sumN (fun i => ser (lsL us) i * ser us (k - i)) k + ser (lsL us) k * ser us (k - k) = nR (k + 1) * ser us (k + 1) := e
  rw [Nat.sub_self, u0, Rat.mul_one] at e
  grind
section
variable {us : List Rat} {fl : Nat} (u0 : ser us 0 = 1) (hl : ∀ j, 1 ≤ j → j < fl → ser us j = 0) (fn : fl < us.length) (f1 : 1 ≤ fl)
include u0 hl fn f1
theorem ls_low : ∀ k, k + 1 < fl → ser (lsL us) k = 0 := fun k => by
  induction k using Nat.strongRecOn with
  | _ k ih =>
    intro hk
    rw [ls_step u0 (by omega), hl (k + 1) (by omega) hk, Rat.mul_zero, sum_zero fun i hi => by rw [ih i hi (by omega), Rat.zero_mul]]
    decide +kernel
theorem ls_at : ser (lsL us) (fl - 1) = nR fl * ser us fl := by
  rw [ls_step u0 (by omega), sum_zero fun i hi => by rw [ls_low u0 hl fn f1 i (by omega), Rat.zero_mul], show fl - 1 + 1 = fl by omega]
  grind
theorem pw_low (t : Rat) : ∀ j, 1 ≤ j → j < fl → ser (pwL us t) j = 0 := fun j j1 hj => by
  obtain ⟨k, rfl⟩ : ∃ k, j = k + 1 := ⟨j - 1, by omega⟩
  have z : mulS (ser (lsL us)) (ser (pwL us t)) k = 0 := sum_zero fun i hi => by rw [ls_low u0 hl fn f1 i (by omega), Rat.zero_mul]
  rw [pw_succ t (by omega), z, Rat.mul_zero, Rat.div_def, Rat.zero_mul]
theorem pw_at (t : Rat) : ser (pwL us t) fl = t * ser us fl := by
  obtain ⟨k, rfl⟩ : ∃ k, fl = k + 1 := ⟨fl - 1, by omega⟩
  have z : mulS (ser (lsL us)) (ser (pwL us t)) k = nR (k + 1) * ser us (k + 1) := by
    show sumN (fun i => ser (lsL us) i * ser (pwL us t) (k - i)) k + ser (lsL us) k * ser (pwL us t) (k - k) = _
    have e := ls_at u0 hl fn f1
    rw [show k + 1 - 1 = k by omega] at e
    rw [sum_zero fun i hi => by rw [ls_low u0 hl fn f1 i (by omega), Rat.zero_mul], Nat.sub_self, pw_zero t (by omega), e]
    grind
  rw [pw_succ t (by omega), z, Rat.div_def]
  have := Rat.mul_inv_cancel _ (nR_ne (show k + 1 ≠ 0 by omega))
  grind
theorem lg_low : ∀ j, j < fl → ser (lgL us) j = 0 := fun j hj => by
  match j with
  | 0 => rfl
  | k + 1 => rw [lg_at (by omega), ls_low u0 hl fn f1 k hj, Rat.div_def, Rat.zero_mul]
theorem lg_fl : ser (lgL us) fl = ser us fl := by
  obtain ⟨k, rfl⟩ : ∃ k, fl = k + 1 := ⟨fl - 1, by omega⟩
  have e := ls_at u0 hl fn f1
  rw [show k + 1 - 1 = k by omega] at e
  rw [lg_at (by omega), e, Rat.div_def]
  have := Rat.mul_inv_cancel _ (nR_ne (show k + 1 ≠ 0 by omega))
  grind
end
/-- the exponent of the letter i -/
def tR (i fl : Nat) : Rat := (((i : Int) - (fl : Int) : Int) : Rat)
/-- what the letter i gains at the place m -/
def gnE (us : List Rat) (fl i m : Nat) : Rat := if i = fl then ser (lgL us) m else if m + fl ≤ i then 0 else ser (pwL us (tR i fl)) (m + fl - i)
def gnR (us : List Rat) (fl i : Nat) : List Rat := (List.range (us.length - fl)).map (gnE us fl i)
def gnL (us : List Rat) (fl : Nat) : List (List Rat) := (List.range (us.length - fl)).map (gnR us fl)
theorem gnR_len (us : List Rat) (fl i : Nat) : (gnR us fl i).length = us.length - fl := by unfold gnR; rw [List.length_map, List.length_range]
theorem gnL_len (us : List Rat) (fl : Nat) : (gnL us fl).length = us.length - fl := by unfold gnL; rw [List.length_map, List.length_range]
theorem gn_tt {us : List Rat} {fl i k : Nat} (hi : i < us.length - fl) (hk : k < us.length - fl) : tt (gnL us fl) i k = gnE us fl i k := by
  have e1 : (gnL us fl).getD i [] = gnR us fl i := by
    rw [List.getD_eq_getElem?_getD]
    unfold gnL
    rw [List.getElem?_map, List.getElem?_range hi]
    rfl
  unfold tt
  rw [e1, List.getD_eq_getElem?_getD]
  unfold gnR
  rw [List.getElem?_map, List.getElem?_range hk]
  rfl
theorem tR_ne {i fl : Nat} (h : i ≠ fl) : tR i fl ≠ 0 := fun z => by
  have : ((i : Int) - (fl : Int)) = 0 := Rat.intCast_inj.mp (show (((i : Int) - (fl : Int) : Int) : Rat) = ((0 : Int) : Rat) from z)
  omega
/-- by what the letter i's number is multiplied at its own place -/
def byR (i fl : Nat) : Rat := if i = fl then 1 else tR i fl
theorem byR_ne (i fl : Nat) : byR i fl ≠ 0 := by
  unfold byR
  by_cases c : i = fl
  · rw [if_pos c]; decide
  · rw [if_neg c]; exact tR_ne c
section
variable {us : List Rat} {fl : Nat} (u0 : ser us 0 = 1) (hl : ∀ j, 1 ≤ j → j < fl → ser us j = 0) (fn : fl < us.length) (f1 : 1 ≤ fl)
include u0 hl fn f1
theorem gn_low {i m : Nat} (h : m < i) : gnE us fl i m = 0 := by
  unfold gnE
  by_cases c : i = fl
  · rw [if_pos c, lg_low u0 hl fn f1 m (by omega)]
  · rw [if_neg c]
    by_cases d : m + fl ≤ i
    · rw [if_pos d]
    · rw [if_neg d, pw_low u0 hl fn f1 _ (m + fl - i) (by omega) (by omega)]
theorem gn_dg (i : Nat) : gnE us fl i i = byR i fl * ser us fl := by
  unfold gnE byR
  by_cases c : i = fl
  · rw [if_pos c, if_pos c, c, lg_fl u0 hl fn f1, Rat.one_mul]
  · rw [if_neg c, if_neg c, if_neg (by omega), show i + fl - i = fl by omega, pw_at u0 hl fn f1]
end
/-- the clock's numbers -/
def oneL (n : Nat) : List Rat := 1 :: List.replicate (n - 1) 0
theorem oneL_len {n : Nat} (h : 1 ≤ n) : (oneL n).length = n := by unfold oneL; rw [List.length_cons, List.length_replicate]; omega
def clkL (us : List Rat) (fl : Nat) : List Rat := slvL (gnL us fl) (oneL (us.length - fl)) (us.length - fl)
theorem clkL_len (us : List Rat) (fl : Nat) : (clkL us fl).length = us.length - fl := slvL_len _ _ _
def gaL (us : List Rat) (fl : Nat) (cs : List Rat) : List Rat := mixL (us.length - fl) cs (gnL us fl)
theorem gaL_len (us : List Rat) (fl : Nat) (cs : List Rat) : (gaL us fl cs).length = us.length - fl := mixL_len _ _ _
theorem clk_ga {us : List Rat} {fl : Nat} (u0 : ser us 0 = 1) (hl : ∀ j, 1 ≤ j → j < fl → ser us j = 0) (fn : fl < us.length) (f1 : 1 ≤ fl) (a0 : ser us fl ≠ 0) : gaL us fl (clkL us fl) = oneL (us.length - fl) := by
  refine slv_mix (gnL_len us fl) (oneL_len (by omega)) (fun i k h hi => ?_) fun k hk => ?_
  · rw [gn_tt hi (by omega), gn_low u0 hl fn f1 h]
  · rw [gn_tt hk hk, gn_dg u0 hl fn f1]
    intro z
    rcases Rat.mul_eq_zero.mp z with h | h
    · exact byR_ne k fl h
    · exact a0 h
theorem ga_at {us : List Rat} {fl m : Nat} {cs : List Rat} (l : cs.length = us.length - fl) (hm : m < us.length - fl) : (gaL us fl cs)[m]? = some (sumN (fun i => ser cs i * gnE us fl i m) (us.length - fl)) := by
  unfold gaL mixL
  rw [List.getElem?_map, List.getElem?_range hm]
  show some (dotL cs (colL (gnL us fl) m)) = _
  congr 1
  unfold dotL
  rw [colL_len, gnL_len, l, Nat.min_self, dotT_sum]
  exact sum_congr fun i hi => by rw [col_at, gn_tt hi hm]
end Kx
end
section
set_option maxHeartbeats 4000000
namespace Kx
open PySem PySem.Spec PyProof.Rows L2 RZ
/-! ### sizes of powers, logs, gains, of what solves them -/
def fc : Nat → Nat
  | 0 => 1
  | n + 1 => fc n * (n + 1)
theorem fc_pos : ∀ n, 0 < fc n
  | 0 => by decide
  | n + 1 => Nat.mul_pos (fc_pos n) (Nat.succ_pos n)
theorem fc_add (a : Nat) : ∀ j, a + j ≤ 16 → ∃ r, fc (a + j) = fc a * r ∧ r ≤ 2 ^ (4 * j)
  | 0, _ => ⟨1, (Nat.mul_one _).symm, by decide⟩
  | j + 1, h => by
    obtain ⟨r, e, l⟩ := fc_add a j (by omega)
    refine ⟨r * (a + j + 1), by show fc (a + j) * (a + j + 1) = _; rw [e, Nat.mul_assoc], ?_⟩
    rw [show 4 * (j + 1) = 4 * j + 4 by omega, Nat.pow_add]
    exact Nat.mul_le_mul l (by omega)
theorem fc_le {k : Nat} (h : k ≤ 16) : fc k ≤ 2 ^ (4 * k) := by
  obtain ⟨r, e, l⟩ := fc_add 0 k (by omega)
  rw [Nat.zero_add] at e
  rw [e, show fc 0 = 1 from rfl, Nat.one_mul]
  exact l
theorem Dq.divn {L B : Nat} {q : Rat} (h : Dq L B q) (k : Nat) : Dq (L * (k + 1)) B (q / nR (k + 1)) := by
  obtain ⟨z, e, l⟩ := h
  refine ⟨z, ?_, l⟩
  have n0 := nR_ne (show k + 1 ≠ 0 by omega)
  have c : ((L * (k + 1) : Nat) : Rat) = (L : Rat) * nR (k + 1) := Rat.natCast_mul _ _
  rw [c, ← e, Rat.div_def]
  have := Rat.mul_inv_cancel _ n0
  grind
structure CrS (D m : Nat) (us : List Rat) : Prop where
  u0 : ser us 0 = 1
  g : ∀ j, j < us.length → Dq (D ^ j) (m * j + 1) (ser us j)
section
variable {D m : Nat} {us : List Rat} (h : CrS D m us) (l16 : us.length ≤ 16)
include h l16
theorem ls_d : ∀ k, k + 1 < us.length → Dq (D ^ (k + 1)) ((m + 12) * (k + 1)) (ser (lsL us) k) := fun k => by
  induction k using Nat.strongRecOn with
  | _ k ih =>
    intro hk
    rw [ls_step h.u0 (by omega)]
    have hm : (m + 12) * (k + 1) = m * (k + 1) + 12 * (k + 1) := Nat.add_mul _ _ _
    have a := (nR_d (n := k + 1) (by omega)).mul (h.g (k + 1) hk)
    rw [Nat.one_mul] at a
    have b : Dq (D ^ (k + 1)) (m * (k + 1) + 12 * k + 1 + 4) (sumN (fun i => ser (lsL us) i * ser us (k - i)) k) := by
      refine dq_sum (c := 4) _ (fun i hi => ?_) (by omega)
      have x := (ih i hi (by omega)).mul (h.g (k - i) (by omega))
      rw [← Nat.pow_add, show i + 1 + (k - i) = k + 1 by omega] at x
      refine x.mono ?_
      have e1 : (m + 12) * (i + 1) = m * (i + 1) + 12 * (i + 1) := Nat.add_mul _ _ _
      have e2 : m * (i + 1) + m * (k - i) = m * (k + 1) := by rw [← Nat.mul_add]; congr 1; omega
      omega
    refine a.sub b ?_ ?_ <;> omega
theorem pw_d {t : Rat} (ht : Dq 1 6 t) : ∀ k, k < us.length → Dq (fc k * D ^ k) ((m + 30) * k + 1) (ser (pwL us t) k) := fun k => by
  induction k using Nat.strongRecOn with
  | _ k ih =>
    intro hk
    match k, ih, hk with
    | 0, _, hk =>
      rw [pw_zero t (by omega)]
      exact Dq.one (by show 1 * 1 < 2 ^ _; rw [Nat.mul_zero]; decide)
    | k + 1, ih, hk =>
      rw [pw_succ t (by omega)]
      have hm : (m + 30) * (k + 1) = m * (k + 1) + 30 * (k + 1) := Nat.add_mul _ _ _
      have b : Dq (fc k * D ^ (k + 1)) (m * (k + 1) + 30 * k + 13 + 4) (mulS (ser (lsL us)) (ser (pwL us t)) k) := by
        refine dq_sum (c := 4) _ (fun j hj => ?_) (by omega)
        have x := (ls_d h l16 j (by omega)).mul (ih (k - j) (by omega) (by omega))
        obtain ⟨r, er, lr⟩ := fc_add (k - j) j (by omega)
        rw [show k - j + j = k by omega] at er
        refine (x.up (M := fc k * D ^ (k + 1)) (C := 4 * j) r ?_ lr).mono ?_
        · rw [er, show k + 1 = (j + 1) + (k - j) by omega, Nat.pow_add]
          simp only [Nat.mul_comm, Nat.mul_left_comm, Nat.mul_assoc]
        · have e1 : (m + 12) * (j + 1) = m * (j + 1) + 12 * (j + 1) := Nat.add_mul _ _ _
          have e3 : (m + 30) * (k - j) = m * (k - j) + 30 * (k - j) := Nat.add_mul _ _ _
          have e2 : m * (j + 1) + m * (k - j) = m * (k + 1) := by rw [← Nat.mul_add]; congr 1; omega
          omega
      have c := (ht.mul b).divn k
      rw [Nat.one_mul, show fc k * D ^ (k + 1) * (k + 1) = fc (k + 1) * D ^ (k + 1) by show _ = fc k * (k + 1) * _; rw [Nat.mul_assoc, Nat.mul_comm (D ^ (k + 1)), ← Nat.mul_assoc]] at c
      exact c.mono (by omega)
theorem lg_d : ∀ k, k < us.length → Dq (fc k * D ^ k) ((m + 30) * k + 1) (ser (lgL us) k) := fun k hk => by
  match k with
  | 0 => exact Dq.zero
  | k + 1 =>
    rw [lg_at (by omega)]
    have c := ((ls_d h l16 k hk).divn k).up (M := fc (k + 1) * D ^ (k + 1)) (C := 4 * k) (fc k) (by show fc k * (k + 1) * _ = _; simp only [Nat.mul_comm, Nat.mul_left_comm, Nat.mul_assoc]) (fc_le (by omega))
    have e1 : (m + 12) * (k + 1) = m * (k + 1) + 12 * (k + 1) := Nat.add_mul _ _ _
    have e3 : (m + 30) * (k + 1) = m * (k + 1) + 30 * (k + 1) := Nat.add_mul _ _ _
    exact c.mono (by omega)
end
def cM (D : Nat) : Nat := fc 10 * D ^ 10
theorem cM_pos {D : Nat} (d0 : 0 < D) : 0 < cM D := Nat.mul_pos (fc_pos 10) (Nat.pow_pos d0)
theorem cM_lt {D : Nat} (d : D ≤ 2 ^ 13) : cM D < 2 ^ 180 := by
  have h1 : D ^ 10 ≤ (2 ^ 13) ^ 10 := Nat.pow_le_pow_left d 10
  have h2 := Nat.mul_le_mul (fc_le (show 10 ≤ 16 by decide)) h1
  exact Nat.lt_of_le_of_lt h2 (by rw [← Nat.pow_mul, ← Nat.pow_add]; exact Nat.pow_lt_pow_right (by decide) (by decide))
theorem cM_up {D k B : Nat} {q : Rat} (h : Dq (fc k * D ^ k) B q) (d : D ≤ 2 ^ 13) (k10 : k ≤ 10) : Dq (cM D) (B + 170) q := by
  obtain ⟨r, er, lr⟩ := fc_add k (10 - k) (by omega)
  rw [show k + (10 - k) = 10 by omega] at er
  refine (h.up (M := cM D) (C := 170) (r * D ^ (10 - k)) ?_ ?_)
  · unfold cM
    rw [er]
    have : D ^ 10 = D ^ k * D ^ (10 - k) := by rw [← Nat.pow_add]; congr 1; omega
    rw [this]
    simp only [Nat.mul_comm, Nat.mul_left_comm, Nat.mul_assoc]
  · have h1 : D ^ (10 - k) ≤ (2 ^ 13) ^ (10 - k) := Nat.pow_le_pow_left d _
    refine Nat.le_trans (Nat.mul_le_mul lr h1) ?_
    rw [← Nat.pow_mul, ← Nat.pow_add]
    exact Nat.pow_le_pow_right (by decide) (by omega)
theorem allD_ser {L B : Nat} {qs : List Rat} (h : ∀ k, k < qs.length → Dq L B (ser qs k)) : AllD L B qs := fun q hq => by
  obtain ⟨i, hi⟩ := List.getElem?_of_mem hq
  have l : i < qs.length := (List.getElem?_eq_some_iff.mp hi).1
  have := ser_at l
  rw [hi] at this
  rw [Option.some.inj this]
  exact h i l
structure CrA (M : Nat) (us : List Rat) : Prop where
  m0 : 0 < M
  m : M < 2 ^ 180
  u : AllD M 1200 us
  s : AllD M 1200 (lsL us)
  l : AllD M 1200 (lgL us)
  p : ∀ t, Dq 1 6 t → AllD M 1200 (pwL us t)
theorem CrS.all {D m : Nat} {us : List Rat} (h : CrS D m us) (l1 : 1 ≤ us.length) (l11 : us.length ≤ 11) (d0 : 0 < D) (d : D ≤ 2 ^ 13) (hm : m ≤ 64) : CrA (cM D) us := by
  have bd : ∀ k, k ≤ 10 → (m + 30) * k + 1 + 170 ≤ 1200 := fun k hk => by
    have : (m + 30) * k ≤ 94 * 10 := Nat.mul_le_mul (by omega) hk
    omega
  refine ⟨cM_pos d0, cM_lt d, allD_ser fun k hk => ?_, allD_ser fun k hk => ?_, allD_ser fun k hk => ?_, fun t ht => allD_ser fun k hk => ?_⟩
  · have x := (h.g k hk).up (M := fc k * D ^ k) (C := 4 * k) (fc k) (Nat.mul_comm _ _) (fc_le (by omega))
    refine (cM_up x d (by omega)).mono (Nat.le_trans ?_ (bd k (by omega)))
    have e : (m + 30) * k = m * k + 30 * k := Nat.add_mul _ _ _
    omega
  · rw [lsL_len] at hk
    have x := (ls_d h (by omega) k (by omega)).up (M := fc (k + 1) * D ^ (k + 1)) (C := 4 * (k + 1)) (fc (k + 1)) (Nat.mul_comm _ _) (fc_le (by omega))
    refine (cM_up x d (by omega)).mono (Nat.le_trans ?_ (bd (k + 1) (by omega)))
    have e : (m + 30) * (k + 1) = m * (k + 1) + 30 * (k + 1) := Nat.add_mul _ _ _
    have e' : (m + 12) * (k + 1) = m * (k + 1) + 12 * (k + 1) := Nat.add_mul _ _ _
    omega
  · rw [lgL_len l1] at hk
    exact (cM_up (lg_d h (by omega) k hk) d (by omega)).mono (bd k (by omega))
  · rw [pwL_len] at hk
    exact (cM_up (pw_d h (by omega) ht k hk) d (by omega)).mono (bd k (by omega))
theorem tR_d {i fl : Nat} (hi : i ≤ 32) (hf : fl ≤ 32) : Dq 1 6 (tR i fl) := ⟨(i : Int) - (fl : Int), by rw [show ((1 : Nat) : Rat) = 1 from rfl, Rat.mul_one]; rfl, by show _ < 64; omega⟩
theorem CrA.pw {M : Nat} {us : List Rat} (h : CrA M us) {t : Rat} (ht : Dq 1 6 t) : PwC us t := by
  refine ⟨M, 1200, h.m0, Nat.lt_trans h.m (Nat.pow_lt_pow_right (by decide) (by decide)), by decide, h.u, h.s, h.p t ht, ?_⟩
  exact (ht.up (M := M) (C := 180) M (Nat.one_mul _).symm (Nat.le_of_lt h.m)).mono (by decide)
theorem CrA.ls {M : Nat} {us : List Rat} (h : CrA M us) : LsC us := ⟨M, 1200, h.m0, Nat.lt_trans h.m (Nat.pow_lt_pow_right (by decide) (by decide)), by decide, h.u, h.s⟩
theorem gn_d {M : Nat} {us : List Rat} (h : CrA M us) {fl i m : Nat} (hi : i ≤ 32) (hf : fl ≤ 32) : Dq M 1200 (gnE us fl i m) := by
  unfold gnE
  split
  · exact h.l.getD m
  · split
    · exact Dq.zero
    · exact (h.p _ (tR_d hi hf)).getD _
/-! what solves a triangular system -/
theorem dq_quot {P M B : Nat} {X d : Rat} {z : Int} (h : Dq (P * M) B X) (hd : d * (M : Rat) = (z : Rat)) (m0 : 0 < M) (d0 : d ≠ 0) : Dq (P * z.natAbs) B (X / d) := by
  obtain ⟨x, e, l⟩ := h
  have mR : ((M : Nat) : Rat) ≠ 0 := fun c => by
    have : M = 0 := Rat.natCast_inj.mp (show ((M : Nat) : Rat) = ((0 : Nat) : Rat) from c)
    omega
  have c1 : ((P * M : Nat) : Rat) = (P : Rat) * (M : Rat) := Rat.natCast_mul _ _
  have c2 : ((P * z.natAbs : Nat) : Rat) = (P : Rat) * ((z.natAbs : Nat) : Rat) := Rat.natCast_mul _ _
  have di := Rat.mul_inv_cancel d d0
  rcases Int.natAbs_eq z with n | n
  · refine ⟨x, ?_, l⟩
    have c3 : ((z.natAbs : Nat) : Rat) = (z : Rat) := by
      conv => rhs; rw [n]
      exact (Rat.intCast_natCast _).symm
    rw [c2, c3, ← hd, ← e, c1, Rat.div_def]
    grind
  · refine ⟨-x, ?_, by rw [Int.natAbs_neg]; exact l⟩
    have c3 : ((z.natAbs : Nat) : Rat) = -(z : Rat) := by
      conv => rhs; rw [n, Rat.intCast_neg, Rat.neg_neg]
      exact (Rat.intCast_natCast _).symm
    rw [c2, c3, ← hd, Rat.intCast_neg, ← e, c1, Rat.div_def]
    grind
def pD (z : Nat → Int) : Nat → Nat
  | 0 => 1
  | k + 1 => pD z k * (z k).natAbs
theorem pD_pos {z : Nat → Int} {n : Nat} (h : ∀ k, k < n → z k ≠ 0) : ∀ k, k ≤ n → 0 < pD z k
  | 0, _ => Nat.one_pos
  | k + 1, hk => Nat.mul_pos (pD_pos h k (by omega)) (by have := h k (by omega); omega)
theorem pD_add {z : Nat → Int} {n E : Nat} (h : ∀ k, k < n → (z k).natAbs < 2 ^ E) (a : Nat) : ∀ j, a + j ≤ n → ∃ r, pD z (a + j) = pD z a * r ∧ r ≤ 2 ^ (E * j)
  | 0, _ => ⟨1, (Nat.mul_one _).symm, by rw [Nat.mul_zero]; decide⟩
  | j + 1, hj => by
    obtain ⟨r, e, l⟩ := pD_add h a j (by omega)
    refine ⟨r * (z (a + j)).natAbs, by show pD z (a + j) * (z (a + j)).natAbs = _; rw [e, Nat.mul_assoc], ?_⟩
    rw [Nat.mul_succ, Nat.pow_add]
    exact Nat.mul_le_mul l (Nat.le_of_lt (h _ (by omega)))
theorem slv_sz {rows : List (List Rat)} {ws : List Rat} {n M Z E : Nat} (l : rows.length = n) (n16 : n ≤ 16) (m0 : 0 < M) (hr : ∀ i k, i < n → k < n → Dq M Z (tt rows i k)) (hd : ∀ k, k < n → Dq M E (tt rows k k) ∧ tt rows k k ≠ 0) (hw : ∀ k, Dq M Z (ws.getD k 0)) :
    ∃ L, 0 < L ∧ L ≤ 2 ^ (E * n) ∧ AllD L ((E + Z + 6) * n + E * n) (slvL rows ws n) := by
  have hz : ∀ k, ∃ z : Int, k < n → tt rows k k * (M : Rat) = (z : Rat) ∧ z.natAbs < 2 ^ E ∧ z ≠ 0 := fun k => by
    by_cases c : k < n
    · obtain ⟨⟨z, e, lz⟩, t0⟩ := hd k c
      refine ⟨z, fun _ => ⟨e, lz, fun y => ?_⟩⟩
      rw [y] at e
      rcases Rat.mul_eq_zero.mp (show tt rows k k * (M : Rat) = 0 from e) with h | h
      · exact t0 h
      · have : M = 0 := Rat.natCast_inj.mp (show ((M : Nat) : Rat) = ((0 : Nat) : Rat) from h)
        omega
    · exact ⟨0, fun h => absurd h c⟩
  obtain ⟨z, hz⟩ := Classical.axiomOfChoice hz
  have zE : ∀ k, k < n → (z k).natAbs < 2 ^ E := fun k hk => (hz k hk).2.1
  have key : ∀ k, k < n → Dq (pD z (k + 1)) ((E + Z + 6) * (k + 1)) (ser (slvL rows ws n) k) := fun k => by
    induction k using Nat.strongRecOn with
    | _ k ih =>
      intro hk
      rw [slvL_pre rows ws (k + 1) n (by omega) k (by omega), slvL_last, dot_pre l (by omega)]
      refine (dq_quot (P := pD z k) ?_ (hz k hk).1 m0 (hd k hk).2).mono (Nat.le_refl _)
      have eW : (E + Z + 6) * (k + 1) = (E + Z + 6) * k + (E + Z + 6) := Nat.mul_succ _ _
      have a : Dq (pD z k * M) (Z + E * k) (ws.getD k 0) := by
        obtain ⟨r, e, lr⟩ := pD_add zE 0 k (by omega)
        rw [Nat.zero_add] at e
        refine (hw k).up (pD z k) (Nat.mul_comm _ _) ?_
        rw [e, show pD z 0 = 1 from rfl, Nat.one_mul]
        exact lr
      have b : Dq (pD z k * M) ((E + Z + 6) * k + Z + 4) (sumN (fun i => ser (slvL rows ws n) i * tt rows i k) k) := by
        refine dq_sum (c := 4) _ (fun i hi => ?_) (by omega)
        obtain ⟨r, e, lr⟩ := pD_add zE (i + 1) (k - (i + 1)) (by omega)
        rw [show i + 1 + (k - (i + 1)) = k by omega] at e
        have x := ((ih i hi (by omega)).up (M := pD z k) (C := E * (k - (i + 1))) r e lr).mul (hr i k (by omega) hk)
        refine x.mono ?_
        have e1 : (E + Z + 6) * k = (E + Z + 6) * (i + 1) + (E + Z + 6) * (k - (i + 1)) := by rw [← Nat.mul_add]; congr 1; omega
        have e2 : E * (k - (i + 1)) ≤ (E + Z + 6) * (k - (i + 1)) := Nat.mul_le_mul_right _ (by omega)
        omega
      have e3 : E * k ≤ (E + Z + 6) * k := Nat.mul_le_mul_right _ (by omega)
      refine a.sub b ?_ ?_ <;> omega
  refine ⟨pD z n, pD_pos (fun k hk => (hz k hk).2.2) n (Nat.le_refl _), ?_, allD_ser fun k hk => ?_⟩
  · obtain ⟨r, e, lr⟩ := pD_add zE 0 n (by omega)
    rw [Nat.zero_add] at e
    rw [e, show pD z 0 = 1 from rfl, Nat.one_mul]
    exact lr
  · rw [slvL_len] at hk
    obtain ⟨r, e, lr⟩ := pD_add zE (k + 1) (n - (k + 1)) (by omega)
    rw [show k + 1 + (n - (k + 1)) = n by omega] at e
    refine ((key k hk).up (M := pD z n) (C := E * (n - (k + 1))) r e lr).mono ?_
    have e1 : (E + Z + 6) * (k + 1) ≤ (E + Z + 6) * n := Nat.mul_le_mul_left _ (by omega)
    have e2 : E * (n - (k + 1)) ≤ E * n := Nat.mul_le_mul_left _ (by omega)
    omega
/-- the clock's sizes -/
theorem clk_sz {M D : Nat} {us : List Rat} {fl : Nat} (h : CrA M us) (u0 : ser us 0 = 1) (hl : ∀ j, 1 ≤ j → j < fl → ser us j = 0) (fn : fl < us.length) (f1 : 1 ≤ fl) (l11 : us.length ≤ 11) (a0 : ser us fl ≠ 0) (ha : Dq D 50 (ser us fl)) (dM : ∃ k, M = D * k ∧ k ≤ 2 ^ 180) :
    ∃ L, 0 < L ∧ L ≤ 2 ^ 2400 ∧ AllD L 20000 (clkL us fl) := by
  obtain ⟨k0, ek, lk⟩ := dM
  have w : ∀ k, Dq M 1200 ((oneL (us.length - fl)).getD k 0) := fun k => by
    unfold oneL
    match k with
    | 0 => exact Dq.one (Nat.lt_trans h.m (Nat.pow_lt_pow_right (by decide) (by decide)))
    | k + 1 =>
      show Dq _ _ ((List.replicate _ (0 : Rat)).getD k 0)
      rw [List.getD_eq_getElem?_getD, List.getElem?_replicate]
      split <;> exact Dq.zero
  obtain ⟨L, L0, L1, hL⟩ := slv_sz (rows := gnL us fl) (ws := oneL (us.length - fl)) (n := us.length - fl) (M := M) (Z := 1200) (E := 240) (gnL_len us fl) (by omega) h.m0 (fun i k hi hk => by rw [gn_tt hi hk]; exact gn_d h (by omega) (by omega)) (fun k hk => by
    rw [gn_tt hk hk, gn_dg u0 hl fn f1]
    refine ⟨?_, fun z => ?_⟩
    · have x : Dq 1 6 (byR k fl) := by
        unfold byR
        split
        · exact Dq.one (by decide)
        · exact tR_d (by omega) (by omega)
      have y := x.mul (ha.up (M := M) (C := 180) k0 ek lk)
      rw [Nat.one_mul] at y
      exact y.mono (by decide)
    · rcases Rat.mul_eq_zero.mp z with c | c
      · exact byR_ne k fl c
      · exact a0 c) w
  refine ⟨L, L0, Nat.le_trans L1 (Nat.pow_le_pow_right (by decide) (by omega)), hL.mono ?_⟩
  have := Nat.mul_le_mul_left (240 + 1200 + 6) (show us.length - fl ≤ 10 by omega)
  omega
end Kx
end
section
set_option maxHeartbeats 4000000
namespace Kx
open PySem PySem.Spec PyProof.Rows L2 RZ
/-! ### drawn numbers -/
def NumQ (q : Rat) : Prop := q.den ∣ 60 ∧ q.num.natAbs ≤ 15
/-- what may stand in a creep: d is the lower part of a wide number, or 1 -/
def TlQ (d : Nat) (q : Rat) : Prop := q.den ∣ 60 * d ∧ q.num.natAbs ≤ 1000000000
def FitQ (q : Rat) : Prop := q.num.natAbs < 2 ^ 200 ∧ q.den < 2 ^ 200
theorem NumQ.tl {q : Rat} (h : NumQ q) (d : Nat) : TlQ d q := ⟨Nat.dvd_trans h.1 (Nat.dvd_mul_right _ _), by have := h.2; omega⟩
theorem TlQ.fit {q : Rat} {d : Nat} (h : TlQ d q) (d0 : 0 < d) (d99 : d ≤ 99) : FitQ q := by
  have h1 := Nat.le_of_dvd (show 0 < 60 * d by omega) h.1
  have h2 : (6000 : Nat) < 2 ^ 200 := by decide
  have h3 : (1000000000 : Nat) < 2 ^ 200 := by decide
  have h4 := h.2
  exact ⟨by omega, by omega⟩
theorem NumQ.fit {q : Rat} (h : NumQ q) : FitQ q := (h.tl 1).fit (by decide) (by decide)
theorem FitQ.ok {q : Rat} (h : FitQ q) : Ok q := ⟨Nat.lt_of_lt_of_le h.1 (Nat.pow_le_pow_right (by decide) (by decide)), Nat.lt_of_lt_of_le h.2 (Nat.pow_le_pow_right (by decide) (by decide))⟩
theorem low_num {a b : Int} (ha : a.natAbs ≤ 15) (b1 : 1 ≤ b) (b6 : b ≤ 6) : NumQ (Rat.divInt a b) := by
  constructor
  · rw [Rat.den_divInt, if_neg (by omega)]
    refine Nat.dvd_trans (Nat.div_dvd_of_dvd (Nat.gcd_dvd_left _ _)) ?_
    rcases (show b = 1 ∨ b = 2 ∨ b = 3 ∨ b = 4 ∨ b = 5 ∨ b = 6 by omega) with rfl | rfl | rfl | rfl | rfl | rfl <;> decide
  · have := (div_bd (p := a) (q := b) (n := 4) (m := 4) (by omega) (by show _ < 16; omega) (by show _ < 16; omega)).1
    have : (Rat.divInt a b).num.natAbs < 16 := this
    omega
theorem int_num {i : Int} (h : i.natAbs ≤ 15) : NumQ (i : Rat) := ⟨⟨60, rfl⟩, h⟩
theorem Nq.int {K : PySem.W.Frag} {H : Hp} {t : Addr} {i : Int} (h : H t = some (.tup [.int i, .int 1])) : Nq K H (.ref t) (i : Rat) := ⟨t, rfl, .inl h⟩
theorem Bag.lt {n : Nat} {H : Hp} {B p : Addr} (b : Bag n H B p) (k : Nat) (h : k ≤ n) : Bag k H B p := b.less h
def spNum (K : PySem.W.Frag) (m : Nat) (G : Rat → Prop) : Sp := fun vs H Q _ => ∃ (n : Nat) (B p : Addr), vs = [.ref B] ∧ Bag (n + m) H B p ∧ ∀ H' v q, Bag n H' B p → But B H H' → Nq K H' v q → G q → Q v H'
section
variable {P : Program} {w : World} {K : PySem.W.Frag} {mg : Str → Option Value} {base : Heap} {f o0 : Addr} {fd : FuncData}
theorem scNum : FnScope ["_law_bag_here", "_law_way"] ["_law_bag_here"] (defScope L_num) := ⟨rfl, rfl, rfl, by decide +kernel, rfl, by decide +kernel, by decide +kernel⟩
theorem ok_num (F : Fun K "_law_num" "_law_num" L_num f fd) (UD : Use P w K mg base CX0 1 "_law_draw" ["_law_bag_here", "_law_many_y"] spDraw []) (UL : Use P w K mg base CX0 1 "_law_low" ["_law_num_here", "_law_den"] spLowQ []) : FnOk P w K mg base CX0 2 f fd ["_law_bag_here"] (spNum K 3 NumQ) := by
  refine F.ok scNum (fun vs H Q E h => ?_) (fun cdv A outer s H vs Q E hr h => ?_)
  · obtain ⟨n, B, p, rfl, _⟩ := h
    rfl
  obtain ⟨n, B, p, rfl, hb, q⟩ := h
  refine ⟨_, pss_cons (ps_set (i := 1) scNum.nd rfl (Or.inl rfl) (pe_use UD hr rfl pass0 (pa_cons (pv 0) (pa_cons pe_int pa_nil))))
    (pss_cons (ps_if (pt_cmpR op_lt (pv 1) pe_int (nomark _)) (pss_one (ps_ret (pe_tup (pa_cons pe_int (pa_cons pe_int pa_nil))))) pss_nil)
    (pss_cons (ps_if (pt_cmpR op_lt (pv 1) pe_int (nomark _)) (pss_one (ps_ret (pe_tup (pa_cons (pe_op op_sub (pe_use UD hr rfl pass0 (pa_cons (pv 0) (pa_cons pe_int pa_nil))) pe_int) (pa_cons pe_int pa_nil))))) pss_nil)
    (pss_cons (ps_if (pt_cmpR op_lt (pv 1) pe_int (nomark _)) (pss_one (ps_ret (pe_use UL hr rfl pass0 (pa_cons (pe_op op_sub (pe_use UD hr rfl pass0 (pa_cons (pv 0) (pa_cons pe_int pa_nil))) pe_int) (pa_cons pe_int pa_nil))))) pss_nil)
    (pss_one (ps_ret (pe_use UL hr rfl pass0 (pa_cons (pe_op op_sub (pe_use UD hr rfl pass0 (pa_cons (pv 0) (pa_cons pe_int pa_nil))) pe_int) (pa_cons (pe_op op_add pe_int (pe_use UD hr rfl pass0 (pa_cons (pv 0) (pa_cons pe_int pa_nil)))) pa_nil)))))))), ?_⟩
  refine ⟨_, rfl, n + 2, B, p, 12, rfl, by decide, by decide, hb, fun H1 k b1 u1 k0 k1 => ?_⟩
  refine ⟨_, rfl, k, 4, rfl, rfl, _, rfl, ite2 (fun _ => ?_) (fun _ => ?_)⟩
  · exact ⟨(by show 2 ≤ sizeLine; decide), fun t nt => q _ _ 0 ((b1.put nt).less (by omega)) (u1.trans (But.new nt)) (.at upd_same) (int_num (i := 0) (by decide))⟩
  refine ⟨_, rfl, k, 9, rfl, rfl, _, rfl, ite2 (fun _ => ?_) (fun _ => ?_)⟩
  · refine ⟨_, rfl, n + 1, B, p, 19, rfl, by decide, by decide, b1, fun H2 d b2 u2 d0 d1 => ⟨d, 9, rfl, rfl, (by show 2 ≤ sizeLine; decide), fun t nt => ?_⟩⟩
    exact q _ _ ((d - 9 : Int) : Rat) ((b2.put nt).less (by omega)) (u1.trans (u2.trans (But.new nt))) (Nq.int upd_same) (int_num (by omega))
  refine ⟨_, rfl, k, 11, rfl, rfl, _, rfl, ite2 (fun _ => ?_) (fun _ => ?_)⟩
  · refine ⟨_, rfl, n + 1, B, p, 13, rfl, by decide, by decide, b1, fun H2 d b2 u2 d0 d1 => ⟨d, 6, rfl, rfl, d - 6, 2, rfl, by decide, by decide, fun t H3 s3 n3 e3 => ?_⟩⟩
    exact q _ _ _ ((b2.same s3).less (by omega)) (u1.trans (u2.trans (But.same s3))) (.at e3) (low_num (by omega) (by decide) (by decide))
  · refine ⟨_, rfl, n + 1, B, p, 31, rfl, by decide, by decide, b1, fun H2 d b2 u2 d0 d1 => ⟨d, 15, rfl, rfl, ?_⟩⟩
    refine ⟨_, rfl, n, B, p, 6, rfl, by decide, by decide, b2, fun H3 e b3 u3 e0 e1 => ⟨1, e, rfl, rfl, d - 15, 1 + e, rfl, by omega, ?_, fun t H4 s4 n4 e4 => ?_⟩⟩
    · exact Nat.lt_trans (log_bd (x := 1 + e) (n := 4) (by show _ < 16; omega) (by decide)) (by decide)
    exact q _ _ _ (b3.same s4) (u1.trans (u2.trans (u3.trans (But.same s4)))) (.at e4) (low_num (by omega) (by omega) (by omega))
theorem scWid : FnScope ["_law_bag_here"] ["_law_bag_here"] (defScope L_wide) := ⟨rfl, rfl, rfl, by decide +kernel, rfl, by decide +kernel, by decide +kernel⟩
def WideQ (q : Rat) : Prop := q.den ≤ 99 ∧ q.num.natAbs ≤ 1000000000
def WideP (q : Rat) : Prop := WideQ q ∧ q ≠ 0
def NumZ (q : Rat) : Prop := NumQ q ∧ q ≠ 0
theorem ok_wide (F : Fun K "_law_wide" "_law_wide" L_wide f fd) (UD : Use P w K mg base CX0 1 "_law_draw" ["_law_bag_here", "_law_many_y"] spDraw []) (UL : Use P w K mg base CX0 1 "_law_low" ["_law_num_here", "_law_den"] spLowQ []) : FnOk P w K mg base CX0 2 f fd ["_law_bag_here"] (spNum K 2 WideP) := by
  refine F.ok scWid (fun vs H Q E h => ?_) (fun cdv A outer s H vs Q E hr h => ?_)
  · obtain ⟨n, B, p, rfl, _⟩ := h
    rfl
  obtain ⟨n, B, p, rfl, hb, q⟩ := h
  refine ⟨_, pss_one (ps_ret (pe_use UL hr rfl pass0 (pa_cons (pe_op op_add pe_int (pe_use UD hr rfl pass0 (pa_cons (pv 0) (pa_cons (pe_op op_pow pe_int pe_int) pa_nil)))) (pa_cons (pe_op op_add pe_int (pe_use UD hr rfl pass0 (pa_cons (pv 0) (pa_cons pe_int pa_nil)))) pa_nil)))), ?_⟩
  refine ⟨_, rfl, 10, 9, rfl, rfl, ⟨by decide, by decide, by decide⟩, n + 1, B, p, _, rfl, by decide, by decide, hb, fun H1 d b1 u1 d0 d1 => ⟨1, d, rfl, rfl, ?_⟩⟩
  have d1 : d < 1000000000 := d1
  refine ⟨_, rfl, n, B, p, 99, rfl, by decide, by decide, b1, fun H2 e b2 u2 e0 e1 => ⟨1, e, rfl, rfl, 1 + d, 1 + e, rfl, by omega, ?_, fun t H3 s3 n3 e3 => ?_⟩⟩
  · exact Nat.lt_trans (log_bd (x := 1 + e) (n := 8) (by show _ < 256; omega) (by decide)) (by decide)
  refine q _ _ _ (b2.same s3) (u1.trans (u2.trans (But.same s3))) (.at e3) ⟨⟨?_, ?_⟩, fun z => by
    have hb : ((1 + e : Int) : Rat) ≠ 0 := fun y => by
      have := Rat.intCast_inj.mp (show ((1 + e : Int) : Rat) = ((0 : Int) : Rat) from y)
      omega
    have := Rat.div_mul_cancel (a := ((1 + d : Int) : Rat)) hb
    rw [← Rat.divInt_eq_div, z, Rat.zero_mul] at this
    have := Rat.intCast_inj.mp (show ((0 : Int) : Rat) = ((1 + d : Int) : Rat) from this)
    omega⟩
  · rw [Rat.den_divInt, if_neg (by omega)]
    have := Nat.div_le_self (1 + e).natAbs (Int.gcd (1 + e) (1 + d))
    omega
  · rw [Rat.num_divInt, Int.sign_eq_one_of_pos (by omega), Int.one_mul]
    have := Int.natAbs_ediv_le_natAbs (1 + d) ((Int.gcd (1 + e) (1 + d) : Nat) : Int)
    omega
theorem scNot : FnScope ["_law_bag_here", "_law_p"] ["_law_bag_here"] (defScope L_not0) := ⟨rfl, rfl, rfl, by decide +kernel, rfl, by decide +kernel, by decide +kernel⟩
theorem ok_not0 (F : Fun K "_law_not0" "_law_not0" L_not0 f fd) (UN : Use P w K mg base CX0 2 "_law_num" ["_law_bag_here"] (spNum K 3 NumQ) []) (UO : Use P w K mg base CX0 2 "_law_of" ["_law_bag_here", "_law_things"] spOfL []) : FnOk P w K mg base CX0 3 f fd ["_law_bag_here"] (spNum K 4 NumZ) := by
  refine F.ok scNot (fun vs H Q E h => ?_) (fun cdv A outer s H vs Q E hr h => ?_)
  · obtain ⟨n, B, p, rfl, _⟩ := h
    rfl
  obtain ⟨n, B, p, rfl, hb, q⟩ := h
  refine ⟨_, pss_cons (ps_set (i := 1) scNot.nd rfl (Or.inl rfl) (pe_use UN hr rfl pass0 (pa_cons (pv 0) pa_nil)))
    (pss_one (ps_ret (pe_ifExp (pt_cmpR op_ne (pe_ix ix_tup (pv 1) pe_int (fun _ _ => rfl)) pe_int (nomark _)) (pv 1)
      (pe_use UO hr rfl pass0 (pa_cons (pv 0) (pa_cons (pe_lst (pa_cons (pe_tup (pa_cons pe_int (pa_cons pe_int pa_nil))) (pa_cons (pe_tup (pa_cons (pe_un un_neg pe_int) (pa_cons pe_int pa_nil))) (pa_cons (pe_tup (pa_cons pe_int (pa_cons pe_int pa_nil))) (pa_cons (pe_tup (pa_cons pe_int (pa_cons pe_int pa_nil))) (pa_cons (pe_tup (pa_cons (pe_un un_neg pe_int) (pa_cons pe_int pa_nil))) (pa_cons (pe_tup (pa_cons pe_int (pa_cons pe_int pa_nil))) pa_nil))))))) pa_nil)))))), ?_⟩
  refine ⟨_, rfl, n + 1, B, p, rfl, hb, fun H1 v a b1 u1 na ba => ?_⟩
  obtain ⟨va, rfl, sa, _⟩ := na.sq
  refine ⟨_, rfl, va, _, 0, _, rfl, rfl, sa, rfl, rfl, _, rfl, ?_⟩
  by_cases c : a.num = 0
  case neg =>
    rw [decide_eq_false (fun e => c (V.int.inj e))]
    exact iteT ⟨_, rfl, q _ _ a (b1.less (by omega)) u1 na ⟨ba, fun z => c (by rw [z]; rfl)⟩⟩
  rw [decide_eq_true (congrArg V.int c)]
  refine iteF ⟨_, rfl, ⟨(by show 2 ≤ sizeLine; decide), fun t1 m1 => ⟨_, rfl, (by show 2 ≤ sizeLine; decide), fun t2 m2 => ⟨(by show 2 ≤ sizeLine; decide), fun t3 m3 => ⟨(by show 2 ≤ sizeLine; decide), fun t4 m4 => ⟨_, rfl, (by show 2 ≤ sizeLine; decide), fun t5 m5 => ⟨(by show 2 ≤ sizeLine; decide), fun t6 m6 => ⟨(by show 6 ≤ sizeLine; decide), fun l nl => ?_⟩⟩⟩⟩⟩⟩⟩⟩
  have e1 := new_same m1 (HO.tup [.int 1, .int 1])
  have e2 := new_same m2 (HO.tup [.int (-1), .int 1])
  have e3 := new_same m3 (HO.tup [.int 2, .int 1])
  have e4 := new_same m4 (HO.tup [.int 1, .int 2])
  have e5 := new_same m5 (HO.tup [.int (-3), .int 2])
  have e6 := new_same m6 (HO.tup [.int 5, .int 1])
  have el := new_same nl (HO.lst [V.ref t1, V.ref t2, V.ref t3, V.ref t4, V.ref t5, V.ref t6])
  have r6 := el
  have r5 := e6.trans r6
  have r4 := e5.trans r5
  have r3 := e4.trans r4
  have r2 := e3.trans r3
  have r1 := e2.trans r2
  have sA := e1.trans r1
  have sT := e1.trans (e2.trans (e3.trans (e4.trans (e5.trans (e6)))))
  have bb := b1.same sT
  refine ⟨n, B, p, l, _, rfl, upd_same, (bb.at nl).1, (by show 0 < 6; decide), (by show 6 ≤ 1000; decide), b1.same sA, fun H2 x b2 u2 hx => ?_⟩
  have uu : But B H H2 := u1.trans ((But.same sA).trans u2)
  simp only [List.mem_cons, List.not_mem_nil, or_false] at hx
  rcases hx with rfl | rfl | rfl | rfl | rfl | rfl
  · exact q H2 _ 1 b2 uu ((Nq.at (K := K) (r1 _ _ (show _ = some (rT 1) from upd_same))).go (b1.same sA) (Go.of u2)) ⟨⟨by decide +kernel, by decide +kernel⟩, by decide +kernel⟩
  · exact q H2 _ (-1) b2 uu ((Nq.at (K := K) (r2 _ _ (show _ = some (rT (-1)) from upd_same))).go (b1.same sA) (Go.of u2)) ⟨⟨by decide +kernel, by decide +kernel⟩, by decide +kernel⟩
  · exact q H2 _ 2 b2 uu ((Nq.at (K := K) (r3 _ _ (show _ = some (rT 2) from upd_same))).go (b1.same sA) (Go.of u2)) ⟨⟨by decide +kernel, by decide +kernel⟩, by decide +kernel⟩
  · exact q H2 _ (mkRat (1) 2) b2 uu ((Nq.at (K := K) (r4 _ _ (show _ = some (rT (mkRat (1) 2)) from upd_same))).go (b1.same sA) (Go.of u2)) ⟨⟨by decide +kernel, by decide +kernel⟩, by decide +kernel⟩
  · exact q H2 _ (mkRat (-3) 2) b2 uu ((Nq.at (K := K) (r5 _ _ (show _ = some (rT (mkRat (-3) 2)) from upd_same))).go (b1.same sA) (Go.of u2)) ⟨⟨by decide +kernel, by decide +kernel⟩, by decide +kernel⟩
  · exact q H2 _ 5 b2 uu ((Nq.at (K := K) (r6 _ _ (show _ = some (rT 5) from upd_same))).go (b1.same sA) (Go.of u2)) ⟨⟨by decide +kernel, by decide +kernel⟩, by decide +kernel⟩
end
end Kx
end
section
set_option maxHeartbeats 4000000
namespace Kx
open PySem PySem.Spec PyProof.Rows L2 RZ
/-! ### drawn orders, flats, steps -/
theorem Bag.upd {n : Nat} {H : Hp} {B p a : Addr} {o : HO} (b : Bag n H B p) (h1 : a ≠ B) (h2 : a ≠ p) : Bag n (upd H a o) B p := by
  obtain ⟨ns, i, r, sd, c, e1, e2, h3⟩ := b.ex
  exact ⟨ns, i, r, sd, c, by rw [upd_ne (Ne.symm h1)]; exact e1, by rw [upd_ne (Ne.symm h2)]; exact e2, h3⟩
theorem Nl.snocD {K : PySem.W.Frag} {H : Hp} {D : Addr} {ys : List V} {rs : List Rat} {y : V} {r : Rat} (h : Nl K H ys rs) (hD : H D = some (.lst ys)) (hy : Nq K H y r) : Nl K (upd H D (.lst (ys ++ [y]))) (ys ++ [y]) (rs ++ [r]) := by
  have nb := h.snoc hy
  exact ⟨nb.1, fun j x r h1 h2 => (nb.2 j x r h1 h2).butL hD (fun b o n h => by rw [upd_ne n]; exact h)⟩
def spOrd : Sp := fun vs H Q _ => ∃ (n : Nat) (B p : Addr), vs = [.ref B] ∧ Bag (n + 2) H B p ∧ ∀ H' (k : Nat), Bag n H' B p → But B H H' → 2 ≤ k → k ≤ 11 → Q (.int (k : Nat)) H'
def spFla : Sp := fun vs H Q _ => ∃ (n : Nat) (B p : Addr) (deg : Nat), vs = [.ref B, .int (deg : Nat)] ∧ Bag (n + 2) H B p ∧ 2 ≤ deg ∧ deg ≤ 11 ∧ ∀ H' (k : Nat), Bag n H' B p → But B H H' → 1 ≤ k → k + 1 ≤ deg → Q (.int (k : Nat)) H'
def spTai (K : PySem.W.Frag) : Sp := fun vs H Q _ => ∃ (n : Nat) (B p : Addr) (deg kk : Nat), vs = [.ref B, .int (deg : Nat), .int (kk : Nat)] ∧ Bag (n + 60) H B p ∧ deg ≤ 11 ∧ 1 ≤ kk ∧ kk + 1 ≤ deg ∧
  ∀ H' v rs d, Bag n H' B p → But B H H' → Ls K H' v rs → rs.length = deg + 1 → 0 < d → d ≤ 99 → (∀ r ∈ rs, TlQ d r) → (∀ i, i ≤ kk → rs[i]? = some 0) → (∃ a, rs[kk + 1]? = some a ∧ a ≠ 0) → Q v H'
/-- a slow step is drawn -/
def GivesSl (K : PySem.W.Frag) (n : Nat) (B p : Addr) (deg : Nat) (H : Hp) (Q : VK) : Prop := ∀ H' v rs d, Bag n H' B p → But B H H' → Ls K H' v (0 :: 1 :: rs) → rs.length + 1 = deg → 0 < d → d ≤ 99 → (∀ r ∈ rs, TlQ d r) → Q v H'
def spCre (K : PySem.W.Frag) : Sp := fun vs H Q _ => ∃ (n : Nat) (B p : Addr) (deg kk : Nat), vs = [.ref B, .int (deg : Nat), .int (kk : Nat)] ∧ Bag (n + 60) H B p ∧ deg ≤ 11 ∧ 1 ≤ kk ∧ kk + 1 ≤ deg ∧
  ∀ H' v rs d, Bag n H' B p → But B H H' → Ls K H' v (0 :: 1 :: rs) → rs.length + 1 = deg → 0 < d → d ≤ 99 → (∀ r ∈ rs, TlQ d r) → (∀ i, i + 2 ≤ kk → rs[i]? = some 0) → (∃ a, rs[kk - 1]? = some a ∧ a ≠ 0) → Q v H'
def spSlo (K : PySem.W.Frag) : Sp := fun vs H Q _ => ∃ (n : Nat) (B p : Addr) (deg : Nat), vs = [.ref B, .int (deg : Nat)] ∧ Bag (n + 63) H B p ∧ 2 ≤ deg ∧ deg ≤ 11 ∧ GivesSl K n B p deg H Q
def spStp (K : PySem.W.Frag) : Sp := fun vs H Q _ => ∃ (n : Nat) (B p : Addr) (deg : Nat) (x : V) (c : Rat), vs = [.ref B, .int (deg : Nat), x] ∧ Bag (n + 40) H B p ∧ 2 ≤ deg ∧ deg ≤ 11 ∧ Nq K H x c ∧ ∀ H' v rs, Bag n H' B p → But B H H' → Ls K H' v (0 :: c :: rs) → rs.length + 1 = deg → (∀ r ∈ rs, NumQ r) → Q v H'
def spNsl (K : PySem.W.Frag) : Sp := fun vs H Q _ => ∃ (n : Nat) (B p : Addr) (deg : Nat), vs = [.ref B, .int (deg : Nat)] ∧ Bag (n + 42) H B p ∧ 2 ≤ deg ∧ deg ≤ 11 ∧ ∀ H' v qs, Bag n H' B p → But B H H' → Ls K H' v (0 :: qs) → qs.length = deg → (∀ r ∈ qs, FitQ r) → serS qs 1 ≠ 1 → Q v H'
abbrev nTl : List Str := ["_law_bag_here", "_law_deg", "_law_kk", "_law_found", "_law_j"]
section
variable {P : Program} {w : World} {K : PySem.W.Frag} {mg : Str → Option Value} {base : Heap} {f o0 : Addr} {fd : FuncData}
theorem scOrd : FnScope ["_law_bag_here"] ["_law_bag_here"] (defScope L_order) := ⟨rfl, rfl, rfl, by decide +kernel, rfl, by decide +kernel, by decide +kernel⟩
theorem ok_order (F : Fun K "_law_order" "_law_order" L_order f fd) (UD : Use P w K mg base CX0 1 "_law_draw" ["_law_bag_here", "_law_many_y"] spDraw []) (UO : Use P w K mg base CX0 2 "_law_of" ["_law_bag_here", "_law_things"] spOfL []) : FnOk P w K mg base CX0 3 f fd ["_law_bag_here"] spOrd := by
  refine F.ok scOrd (fun vs H Q E h => ?_) (fun cdv A outer s H vs Q E hr h => ?_)
  · obtain ⟨n, B, p, rfl, _⟩ := h
    rfl
  obtain ⟨n, B, p, rfl, hb, q⟩ := h
  have hr1 := hr.mono (show 1 ≤ 2 by decide)
  refine ⟨_, pss_cons (ps_if (pt_cmpR op_eq (pe_use UD hr1 rfl pass0 (pa_cons (pv 0) (pa_cons pe_int pa_nil))) pe_int (nomark _)) (pss_one (ps_ret (pe_op op_add pe_int (pe_use UD hr1 rfl pass0 (pa_cons (pv 0) (pa_cons pe_int pa_nil)))))) pss_nil)
    (pss_one (ps_ret (pe_use UO hr rfl pass0 (pa_cons (pv 0) (pa_cons (pe_lst (pa_cons pe_int (pa_cons pe_int (pa_cons pe_int (pa_cons pe_int (pa_cons pe_int (pa_cons pe_int (pa_cons pe_int (pa_cons pe_int (pa_cons pe_int (pa_cons pe_int (pa_cons pe_int (pa_cons pe_int (pa_cons pe_int (pa_cons pe_int (pa_cons pe_int (pa_cons pe_int pa_nil))))))))))))))))) pa_nil))))), ?_⟩
  refine ⟨_, rfl, n + 1, B, p, 24, rfl, by decide, by decide, hb, fun H1 k b1 u1 k0 k1 => ⟨rfl, _, rfl, ite2 (fun _ => ?_) (fun _ => ?_)⟩⟩
  · refine ⟨_, rfl, n, B, p, 3, rfl, by decide, by decide, b1, fun H2 d b2 u2 d0 d1 => ⟨9, d, rfl, rfl, ?_⟩⟩
    have := q H2 (9 + d).toNat b2 (u1.trans u2) (by omega) (by omega)
    rw [show ((9 + d).toNat : Int) = 9 + d by omega] at this
    exact this
  · refine ⟨_, rfl, (by show 16 ≤ sizeLine; decide), fun l nl => ⟨n, B, p, l, _, rfl, upd_same, (b1.at nl).1, (by show 0 < 16; decide), (by show 16 ≤ 1000; decide), b1.put nl, fun H2 x b2 u2 hx => ?_⟩⟩
    have uu : But B H H2 := u1.trans ((But.new nl).trans u2)
    simp only [List.mem_cons, List.not_mem_nil, or_false] at hx
    rcases hx with rfl | rfl | rfl | rfl | rfl | rfl | rfl | rfl | rfl | rfl | rfl | rfl | rfl | rfl | rfl | rfl
    · exact q H2 3 b2 uu (by decide) (by decide)
    · exact q H2 4 b2 uu (by decide) (by decide)
    · exact q H2 5 b2 uu (by decide) (by decide)
    · exact q H2 6 b2 uu (by decide) (by decide)
    · exact q H2 3 b2 uu (by decide) (by decide)
    · exact q H2 4 b2 uu (by decide) (by decide)
    · exact q H2 5 b2 uu (by decide) (by decide)
    · exact q H2 6 b2 uu (by decide) (by decide)
    · exact q H2 7 b2 uu (by decide) (by decide)
    · exact q H2 4 b2 uu (by decide) (by decide)
    · exact q H2 5 b2 uu (by decide) (by decide)
    · exact q H2 2 b2 uu (by decide) (by decide)
    · exact q H2 3 b2 uu (by decide) (by decide)
    · exact q H2 6 b2 uu (by decide) (by decide)
    · exact q H2 7 b2 uu (by decide) (by decide)
    · exact q H2 8 b2 uu (by decide) (by decide)
theorem scFla : FnScope ["_law_bag_here", "_law_deg"] ["_law_bag_here", "_law_deg"] (defScope L_flat) := ⟨rfl, rfl, rfl, by decide +kernel, rfl, by decide +kernel, by decide +kernel⟩
theorem ok_flat (F : Fun K "_law_flat" "_law_flat" L_flat f fd) (mm : mg "min" = none) (UD : Use P w K mg base CX0 1 "_law_draw" ["_law_bag_here", "_law_many_y"] spDraw []) (UO : Use P w K mg base CX0 2 "_law_of" ["_law_bag_here", "_law_things"] spOfL []) : FnOk P w K mg base CX0 3 f fd ["_law_bag_here", "_law_deg"] spFla := by
  refine F.ok scFla (fun vs H Q E h => ?_) (fun cdv A outer s H vs Q E hr h => ?_)
  · obtain ⟨n, B, p, deg, rfl, _⟩ := h
    rfl
  obtain ⟨n, B, p, deg, rfl, hb, d2, d11, q⟩ := h
  have hr1 := hr.mono (show 1 ≤ 2 by decide)
  refine ⟨_, pss_one (ps_ret (pe_callB (call_min2 rfl) rfl mm (by decide +kernel) (pa_cons (pe_op op_sub (pv 1) pe_int) (pa_cons (pe_use UO hr rfl pass0 (pa_cons (pv 0) (pa_cons (pe_lst (pa_cons pe_int (pa_cons pe_int (pa_cons pe_int (pa_cons pe_int (pa_cons pe_int (pa_cons pe_int (pa_cons pe_int (pa_cons (pe_op op_add pe_int (pe_use UD hr1 rfl pass0 (pa_cons (pv 0) (pa_cons (pe_op op_sub (pv 1) pe_int) pa_nil)))) pa_nil))))))))) pa_nil))) pa_nil)))), ?_⟩
  refine ⟨_, rfl, (deg : Nat), 1, rfl, rfl, _, rfl, _, rfl, _, rfl, (deg : Nat), 1, rfl, rfl, n + 1, B, p, _, rfl, by omega, by omega, hb, fun H1 k b1 u1 k0 k1 => ⟨1, k, rfl, rfl, ?_⟩⟩
  refine ⟨(by show 8 ≤ sizeLine; decide), fun l nl => ⟨n, B, p, l, _, rfl, upd_same, (b1.at nl).1, (by show 0 < 8; decide), (by show 8 ≤ 1000; decide), b1.put nl, fun H2 x b2 u2 hx => ?_⟩⟩
  have uu : But B H H2 := u1.trans ((But.new nl).trans u2)
  have fin : ∀ i : Int, 1 ≤ i → Q (.int (if i < (deg : Nat) - 1 then i else (deg : Nat) - 1)) H2 := fun i hi => by
    have := q H2 (if i < (deg : Nat) - 1 then i else ((deg : Nat) : Int) - 1).toNat b2 uu (by split <;> omega) (by split <;> omega)
    rw [show (((if i < (deg : Nat) - 1 then i else ((deg : Nat) : Int) - 1).toNat : Nat) : Int) = if i < (deg : Nat) - 1 then i else ((deg : Nat) : Int) - 1 by split <;> omega] at this
    exact this
  simp only [List.mem_cons, List.not_mem_nil, or_false] at hx
  rcases hx with rfl | rfl | rfl | rfl | rfl | rfl | rfl | rfl
  · exact ⟨_, 1, rfl, fin 1 (by decide)⟩
  · exact ⟨_, 1, rfl, fin 1 (by decide)⟩
  · exact ⟨_, 2, rfl, fin 2 (by decide)⟩
  · exact ⟨_, 2, rfl, fin 2 (by decide)⟩
  · exact ⟨_, 1, rfl, fin 1 (by decide)⟩
  · exact ⟨_, 2, rfl, fin 2 (by decide)⟩
  · exact ⟨_, 3, rfl, fin 3 (by decide)⟩
  · exact ⟨_, 1 + k, rfl, fin (1 + k) (by omega)⟩
theorem scTai : FnScope nTl ["_law_bag_here", "_law_deg", "_law_kk"] (defScope L_tail) := ⟨rfl, rfl, rfl, by decide +kernel, rfl, by decide +kernel, by decide +kernel⟩
theorem yesT {σ : L2.St} {H : Hp} {t e : Hp → Prop} (h : t H) : tYes σ H (fun b H3 => if b = true then t H3 else e H3) := by
  show (if true = true then t H else e H)
  rw [if_pos rfl]
  exact h
theorem ok_tail (F : Fun K "_law_tail" "_law_tail" L_tail f fd) (mr : mg "range" = none) (UD : Use P w K mg base CX0 1 "_law_draw" ["_law_bag_here", "_law_many_y"] spDraw []) (UN : Use P w K mg base CX0 2 "_law_num" ["_law_bag_here"] (spNum K 3 NumQ) []) (UZ : Use P w K mg base CX0 3 "_law_not0" ["_law_bag_here"] (spNum K 4 NumZ) []) (UW : Use P w K mg base CX0 2 "_law_wide" ["_law_bag_here"] (spNum K 2 WideP) []) : FnOk P w K mg base CX0 4 f fd ["_law_bag_here", "_law_deg", "_law_kk"] (spTai K) := by
  refine F.ok scTai (fun vs H Q E h => ?_) (fun cdv A outer s H vs Q E hr h => ?_)
  · obtain ⟨n, B, p, deg, kk, rfl, _⟩ := h
    rfl
  obtain ⟨n, B, p, deg, kk, rfl, hb, d11, k1, kd, q⟩ := h
  have hr1 := hr.mono (show 1 ≤ 3 by decide)
  have hr2 := hr.mono (show 2 ≤ 3 by decide)
  refine ⟨_, C8.pss_cut (ps_set (i := 3) scTai.nd rfl (Or.inl rfl) (pe_op op_cat (pe_op op_cat (pe_op op_rep (pe_lst (pa_cons (pe_tup (pa_cons pe_int (pa_cons pe_int pa_nil))) pa_nil)) (pe_op op_add (pv 2) pe_int)) (pe_lst (pa_cons (pe_use UZ hr rfl pass0 (pa_cons (pv 0) pa_nil)) pa_nil)))
      (pe_lc (own := [("_law_j", 4)]) (g := gName 4) (tt := tYes) rfl scTai.nd (pi_range2 rfl mr (pa_cons (pe_op op_add (pv 2) pe_int) (pa_cons (pe_op op_add (pv 1) pe_int) pa_nil))) (blkOk_by (N := nTl) (sc := defScope L_tail) (by decide +kernel)) (fun _ _ _ _ _ => pg_name (i := 4) scTai.nd rfl (Or.inl rfl)) (fun _ _ _ _ _ => pts_nil) (fun _ _ _ _ _ => pe_use UN hr2 rfl pass0 (pa_cons (pv 0) pa_nil)))))
    (pss_cons (ps_if (pt_cmpR op_eq (pe_use UD hr1 rfl pass0 (pa_cons (pv 0) (pa_cons pe_int pa_nil))) pe_int (nomark _)) (pss_one (ps_asg (pe_use UW hr2 rfl pass0 (pa_cons (pv 0) pa_nil)) (pg_sub (pv 3) (pe_op op_add (pe_op op_add (pv 2) pe_int) (pe_use UD hr1 rfl pass0 (pa_cons (pv 0) (pa_cons (pe_op op_sub (pv 1) (pv 2)) pa_nil)))) set_list))) pss_nil)
    (pss_one (ps_ret (pv 3)))), ?_⟩
  refine ⟨fun σ H1 => ∃ (e : Addr) (xs : List V) (qs : List Rat), σ = [some (.ref B), some (.int (deg : Nat)), some (.int (kk : Nat)), some (.ref e), none] ∧ Bag (n + 10) H1 B p ∧ But B H H1 ∧ e ≠ B ∧ e ≠ p ∧ H e = none ∧ H1 e = some (.lst xs) ∧ Nl K H1 xs qs ∧ qs.length = deg + 1 ∧ (∀ r ∈ qs, NumQ r) ∧ (∀ i, i ≤ kk → qs[i]? = some 0) ∧ (∃ a, qs[kk + 1]? = some a ∧ a ≠ 0), ?_, ?_⟩
  · refine ⟨(by show 2 ≤ sizeLine; decide), fun t nt => ⟨(by show 1 ≤ sizeLine; decide), fun c nc => ⟨_, rfl, _, _, rfl, rfl, c, ((kk : Nat) : Int) + 1, [.ref t], rfl, rfl, upd_same, by omega, by omega, (by show 1 * _ ≤ sizeLine; exact Nat.le_of_lt (small1000 (by omega))), fun d nd => ?_⟩⟩⟩
    have rep : (List.replicate (((kk : Nat) : Int) + 1).toNat [V.ref t]).flatten = List.replicate (kk + 1) (.ref t) := by
      rw [List.flatten_replicate_singleton]
      congr 1
    rw [rep]
    have s2 := new_same nt (HO.tup [.int 0, .int 1])
    have s3 := new_same nc (HO.lst [V.ref t])
    have s4 := new_same nd (HO.lst (List.replicate (kk + 1) (V.ref t)))
    have sA := s2.trans (s3.trans s4)
    have z0 : Nq K _ (.ref t) 0 := .at (K := K) ((s3.trans s4) _ _ (show _ = some (rT 0) from upd_same))
    have nE := reps z0 (kk + 1)
    have eE : upd (upd (upd H t (HO.tup [.int 0, .int 1])) c (HO.lst [V.ref t])) d (HO.lst (List.replicate (kk + 1) (V.ref t))) d = some (HO.lst (List.replicate (kk + 1) (V.ref t))) := upd_same
    have bE := hb.same sA
    have eB : d ≠ B := ((hb.same (s2.trans s3)).at nd).1
    generalize upd (upd (upd H t (HO.tup [.int 0, .int 1])) c (HO.lst [V.ref t])) d (HO.lst (List.replicate (kk + 1) (V.ref t))) = HE at sA nE eE bE
    refine ⟨_, rfl, n + 56, B, p, rfl, bE, fun H2 y r b2 u2 ny br => ⟨(by show 1 ≤ sizeLine; decide), fun l nl => ?_⟩⟩
    have s6 := new_same nl (HO.lst [y])
    refine ⟨d, l, _, _, rfl, rfl, s6 _ _ (u2 _ _ eB eE), upd_same, Nat.le_of_lt (small1000 (by rw [List.length_replicate]; show _ + 1 ≤ _; omega)), fun e ne => ?_⟩
    have s7 := new_same ne (HO.lst (List.replicate (kk + 1) (V.ref t) ++ [y]))
    have s67 := s6.trans s7
    have b3 := b2.same s67
    have u3 : But B H (upd (upd H2 l (HO.lst [y])) e (HO.lst (List.replicate (kk + 1) (V.ref t) ++ [y]))) := ((But.same sA).trans u2).trans (But.same s67)
    have n3 : Nl K (upd (upd H2 l (HO.lst [y])) e (HO.lst (List.replicate (kk + 1) (V.ref t) ++ [y]))) (List.replicate (kk + 1) (V.ref t) ++ [y]) (List.replicate (kk + 1) 0 ++ [r]) := ((nE.go bE (Go.of u2)).snoc ny).same s67
    have e3 : upd (upd H2 l (HO.lst [y])) e (HO.lst (List.replicate (kk + 1) (V.ref t) ++ [y])) e = some (HO.lst (List.replicate (kk + 1) (V.ref t) ++ [y])) := upd_same
    have eB3 := ((b2.same s6).at ne).1
    generalize upd (upd H2 l (HO.lst [y])) e (HO.lst (List.replicate (kk + 1) (V.ref t) ++ [y])) = H3 at b3 u3 n3 e3
    refine ⟨_, rfl, _, _, rfl, rfl, _, rfl, _, _, rfl, rfl, _, _, rfl, ⟨by omega, by omega, by omega, by omega⟩, fun D nD => ?_⟩
    have DB := b3.at nD
    refine lc_range (lo := ((kk : Nat) : Int) + 2) (n := (((deg : Nat) : Int) + 1 - (((kk : Nat) : Int) + 2)).toNat) (fun i H' => Bag (n + 56 - 3 * i) H' B p ∧ But B H3 H' ∧ ∃ ys rs, H' D = some (.lst ys) ∧ Nl K H' ys rs ∧ rs.length = i ∧ ∀ r ∈ rs, NumQ r) ⟨b3.put nD, But.new nD, [], [], upd_same, Nl.nil, rfl, fun _ h => nomatch h⟩ ?_ ?_
    · rintro i H' hi ⟨b', u', ys, rs, hD, ny, rl, br⟩
      have yl : ys.length = i := by rw [ny.1, rl]
      refine ⟨rfl, yesT ⟨_, rfl, n + 53 - 3 * i, B, p, rfl, b'.less (show n + 53 - 3 * i + 3 ≤ n + 56 - 3 * i by omega), fun H5 y r b5 u5 nr brr => ?_⟩⟩
      have hD5 := u5 _ _ DB.1 hD
      refine ⟨ys, hD5, small1000 (by omega), ?_, ?_, ys ++ [y], rs ++ [r], upd_same, Nl.snocD (ny.go b' (Go.of u5)) hD5 nr, by rw [List.length_append, rl]; rfl, ?_⟩
      · exact (b5.less (show n + 56 - 3 * (i + 1) ≤ n + 53 - 3 * i by omega)).upd DB.1 DB.2
      · intro b o hb he
        rw [upd_ne (fun z => by rw [z, nD] at he; cases he)]
        exact u5 _ _ hb (u' _ _ hb he)
      · intro t ht
        rcases List.mem_append.mp ht with ht | ht
        · exact br t ht
        · rw [List.mem_singleton.mp ht]; exact brr
    · rintro H4 ⟨b4, u4, ys, rs, hD, ny', rl, br'⟩
      have he4 := u4 _ _ eB3 e3
      have nx4 := n3.go b3 (Go.of u4)
      have yl : ys.length = deg - kk - 1 := by rw [ny'.1, rl]; omega
      refine ⟨e, D, _, _, rfl, rfl, he4, hD, Nat.le_of_lt (small1000 (by rw [List.length_append, List.length_replicate]; show _ + 1 + _ ≤ _; omega)), fun k nk => ?_⟩
      have s5 := new_same nk (HO.lst (List.replicate (kk + 1) (V.ref t) ++ [y] ++ ys))
      refine ⟨k, _, (List.replicate (kk + 1) 0 ++ [r]) ++ rs, rfl, (b4.same s5).less (by omega), (u3.trans u4).trans (But.same s5), (b4.at nk).1, (b4.at nk).2, (u3.trans u4).free b4 nk, upd_same, (nx4.app ny').same s5, ?_, fun t ht => ?_, ?_, ⟨r, by rw [List.append_assoc, List.getElem?_append_right (by rw [List.length_replicate]; omega), List.length_replicate, Nat.sub_self]; rfl, br.2⟩⟩
      · rw [List.length_append, List.length_append, List.length_replicate, rl]
        show kk + 1 + 1 + _ = _
        omega
      · rcases List.mem_append.mp ht with h | h
        · rcases List.mem_append.mp h with h | h
          · rw [List.eq_of_mem_replicate h]; exact int_num (i := 0) (by decide)
          · rw [List.mem_singleton.mp h]; exact br.1
        · exact br' t h
      · intro i hi
        rw [List.append_assoc, List.getElem?_append_left (by rw [List.length_replicate]; omega), List.getElem?_replicate, if_pos (by omega)]
  rintro σ H1 ⟨e, xs, qs, rfl, b1, u1, eB, ep, eN, he, nx, lq, bq, q0, qn⟩
  have lx : xs.length = qs.length := nx.1
  refine ⟨_, rfl, n + 9, B, p, 16, rfl, by decide, by decide, b1, fun H2 k b2 u2 k0 k1' => ⟨rfl, _, rfl, ite2 (fun _ => ?_) (fun _ => ?_)⟩⟩
  · refine ⟨_, rfl, n + 7, B, p, rfl, b2, fun H3 y r b3 u3 ny br => ?_⟩
    refine ⟨_, rfl, _, rfl, _, _, rfl, rfl, _, rfl, _, rfl, _, rfl, _, _, rfl, rfl, n + 6, B, p, _, rfl, by omega, by omega, b3, fun H4 d b4 u4 d0 d1 => ⟨_, d, rfl, rfl, ?_⟩⟩
    have u24 := u2.trans (u3.trans u4)
    have he4 := u24 _ _ eB he
    have hj : ((kk : Nat) : Int) + 1 + d = ((kk + 1 + d.toNat : Nat) : Int) := by omega
    refine ⟨e, xs, _, kk + 1 + d.toNat, rfl, rfl, he4, ?_, ?_⟩
    · show ixN xs.length (((kk : Nat) : Int) + 1 + d) = _
      rw [hj]
      unfold ixN
      rw [if_pos (by omega), if_pos (by omega)]
      congr 1
    have nx4 := nx.go b1 (Go.of u24)
    have ny4 := ny.go b3 (Go.of u4)
    have bu : But e H4 (upd H4 e (.lst (xs.set (kk + 1 + d.toNat) y))) := fun b o n h => by rw [upd_ne n]; exact h
    have r0 : 0 < r.den := Nat.pos_of_ne_zero r.den_nz
    have tl : ∀ z ∈ qs.set (kk + 1 + d.toNat) r, TlQ r.den z := fun z hz => by
      rcases List.mem_or_eq_of_mem_set hz with hz | rfl
      · exact (bq z hz).tl _
      · exact ⟨Nat.dvd_mul_left _ _, br.1.2⟩
    refine ⟨_, rfl, q _ _ (qs.set (kk + 1 + d.toNat) r) r.den ((b4.upd eB ep).less (by omega)) (fun b o hb ho => ?_) ⟨e, _, rfl, upd_same, ⟨by rw [List.length_set, List.length_set, lx], fun i x z h1 h2 => ?_⟩⟩ (by rw [List.length_set]; exact lq) r0 br.1.1 tl ?_ ?_⟩
    · rw [upd_ne (fun z => by rw [z, eN] at ho; cases ho)]
      exact u24 _ _ hb (u1 _ _ hb ho)
    · rw [List.getElem?_set] at h1 h2
      by_cases c : kk + 1 + d.toNat = i
      · subst c
        rw [if_pos rfl, if_pos (by omega)] at h1 h2
        rw [← Option.some.inj h1, ← Option.some.inj h2]
        exact ny4.butL he4 bu
      · rw [if_neg c] at h1 h2
        exact (nx4.2 i x z h1 h2).butL he4 bu
    · intro i hi
      rw [List.getElem?_set, if_neg (by omega)]
      exact q0 i hi
    · rw [List.getElem?_set]
      by_cases c : kk + 1 + d.toNat = kk + 1
      · rw [if_pos c, if_pos (by omega)]
        exact ⟨r, rfl, br.2⟩
      · rw [if_neg c]
        exact qn
  · refine ⟨_, rfl, q _ _ qs 1 (b2.less (by omega)) (u1.trans u2) ⟨e, xs, rfl, u2 _ _ eB he, nx.go b1 (Go.of u2)⟩ lq (by decide) (by decide) (fun r hr => (bq r hr).tl 1) q0 qn⟩
theorem x_plus {rs : List Rat} {n : Nat} (h : (0 :: 0 :: rs).length = n + 1) (n1 : 1 ≤ n) : (xL n).zipWith (· + ·) (0 :: 0 :: rs) = 0 :: 1 :: rs := by
  have l : rs.length = n - 1 := by simp at h; omega
  show (0 + 0 : Rat) :: (1 + 0 : Rat) :: (List.replicate (n - 1) (0 : Rat)).zipWith (· + ·) rs = _
  rw [show (0 + 0 : Rat) = 0 by decide +kernel, show (1 + 0 : Rat) = 1 by decide +kernel, ← l]
  congr 2
  apply List.ext_getElem?
  intro i
  rw [List.getElem?_zipWith, List.getElem?_replicate]
  rcases Nat.lt_or_ge i rs.length with c | c
  · rw [if_pos c, List.getElem?_eq_getElem c]
    show some (0 + rs[i]) = some rs[i]
    rw [Rat.zero_add]
  · rw [if_neg (by omega), List.getElem?_eq_none c]
theorem x_ok (n : Nat) : AllO (xL n) := fun q hq => by
  rcases List.mem_cons.mp hq with rfl | hq
  · exact Ok.zero
  rcases List.mem_cons.mp hq with rfl | hq
  · exact Ok.one
  · rw [List.eq_of_mem_replicate hq]; exact Ok.zero
theorem scCre : FnScope ["_law_bag_here", "_law_deg", "_law_kk"] ["_law_bag_here", "_law_deg", "_law_kk"] (defScope L_creep) := ⟨rfl, rfl, rfl, by decide +kernel, rfl, by decide +kernel, by decide +kernel⟩
theorem ok_creep (F : Fun K "_law_creep" "_law_creep" L_creep f fd) (UX : Use P w K mg base CX0 1 "_law_x" ["_law_deg"] (spX K) []) (UT : Use P w K mg base CX0 4 "_law_tail" ["_law_bag_here", "_law_deg", "_law_kk"] (spTai K) []) (UP : Use P w K mg base CX0 3 "_law_plus" ["_law_u", "_law_w"] (spTwoL K (· + ·)) []) : FnOk P w K mg base CX0 5 f fd ["_law_bag_here", "_law_deg", "_law_kk"] (spCre K) := by
  refine F.ok scCre (fun vs H Q E h => ?_) (fun cdv A outer s H vs Q E hr h => ?_)
  · obtain ⟨n, B, p, deg, kk, rfl, _⟩ := h
    rfl
  obtain ⟨n, B, p, deg, kk, rfl, hb, d11, k1, kd, q⟩ := h
  have hr1 := hr.mono (show 1 ≤ 4 by decide)
  have hr3 := hr.mono (show 3 ≤ 4 by decide)
  refine ⟨_, pss_one (ps_ret (pe_use UP hr3 rfl pass0 (pa_cons (pe_use UX hr1 rfl pass0 (pa_cons (pv 1) pa_nil)) (pa_cons (pe_use UT hr rfl pass0 (pa_cons (pv 0) (pa_cons (pv 1) (pa_cons (pv 2) pa_nil)))) pa_nil)))), ?_⟩
  refine ⟨_, rfl, deg, rfl, by omega, by omega, fun b H1 ys s1 nb hb1 mb1 => ?_⟩
  refine ⟨_, rfl, _, rfl, _, rfl, n, B, p, deg, kk, rfl, hb.same s1, d11, k1, kd, fun H2 v rs d b2 u2 lv lr d0 d99 tl rz rn => ?_⟩
  have r0 := rz 0 (by omega)
  have r1 := rz 1 (by omega)
  have lx : Ls K H1 (.ref b) (xL deg) := ⟨b, ys, rfl, hb1, mb1⟩
  have lxl : (xL deg).length = deg + 1 := by
    show (stL deg).length + 1 = _
    rw [stL_len (by omega)]
  obtain ⟨rs', rfl⟩ : ∃ rs', rs = 0 :: 0 :: rs' := by
    match rs, r0, r1 with
    | a :: b :: rs', r0, r1 =>
      rw [Option.some.inj (show some a = some 0 from r0), Option.some.inj (show some b = some 0 from r1)]
      exact ⟨rs', rfl⟩
    | [a], _, r1 => cases r1
    | [], r0, _ => cases r0
  refine ⟨.ref b, v, xL deg, _, rfl, lx.go (by omega) (hb.same s1) (Go.of u2), lv, by rw [lxl, lr], by omega, x_ok deg, fun r hr => ((tl r hr).fit d0 d99).ok, fun c H3 zs s3 nc hc mc => ?_⟩
  rw [x_plus lr (by omega)] at mc
  refine q H3 _ rs' d (b2.same s3) ((But.same s1).trans (u2.trans (But.same s3))) ⟨c, zs, rfl, hc, mc⟩ ?_ d0 d99 (fun r hr => tl r (List.mem_cons_of_mem _ (List.mem_cons_of_mem _ hr))) (fun i hi => rz (i + 2) hi) (by
    obtain ⟨a, e, a0⟩ := rn
    refine ⟨a, ?_, a0⟩
    rw [show kk + 1 = (kk - 1) + 1 + 1 by omega] at e
    exact e)
  have : rs'.length + 1 + 1 = deg + 1 := lr
  omega
theorem scStp : FnScope ["_law_bag_here", "_law_deg", "_law_cc", "_law_j"] ["_law_bag_here", "_law_deg", "_law_cc"] (defScope L_step) := ⟨rfl, rfl, rfl, by decide +kernel, rfl, by decide +kernel, by decide +kernel⟩
theorem ok_stp (F : Fun K "_law_step" "_law_step" L_step f fd) (mr : mg "range" = none) (UN : Use P w K mg base CX0 2 "_law_num" ["_law_bag_here"] (spNum K 3 NumQ) []) : FnOk P w K mg base CX0 3 f fd ["_law_bag_here", "_law_deg", "_law_cc"] (spStp K) := by
  refine F.ok scStp (fun vs H Q E h => ?_) (fun cdv A outer s H vs Q E hr2 h => ?_)
  · obtain ⟨n, B, p, deg, x, c, rfl, _⟩ := h
    rfl
  obtain ⟨n, B, p, deg, x, c, rfl, hb, d2, d11, nc, q⟩ := h
  refine ⟨_, pss_one (ps_ret (pe_op op_cat (pe_lst (pa_cons (pe_tup (pa_cons pe_int (pa_cons pe_int pa_nil))) (pa_cons (pv 2) pa_nil))) (pe_lc (own := [("_law_j", 3)]) (g := gName 3) (tt := tYes) rfl scStp.nd (pi_range2 rfl mr (pa_cons pe_int (pa_cons (pe_op op_add (pv 1) pe_int) pa_nil))) (blkOk_by (N := ["_law_bag_here", "_law_deg", "_law_cc", "_law_j"]) (sc := defScope L_step) (by decide +kernel)) (fun _ _ _ _ _ => pg_name (i := 3) scStp.nd rfl (Or.inl rfl)) (fun _ _ _ _ _ => pts_nil) (fun _ _ _ _ _ => pe_use UN hr2 rfl pass0 (pa_cons (pv 0) pa_nil))))), ?_⟩
  refine ⟨(by show 2 ≤ sizeLine; decide), fun t nt => ⟨_, rfl, (by show 2 ≤ sizeLine; decide), fun e ne => ?_⟩⟩
  have s2 := new_same nt (HO.tup [.int 0, .int 1])
  have s3 := new_same ne (HO.lst [V.ref t, x])
  have sA := s2.trans s3
  have z0 : Nq K _ (.ref t) 0 := .at (K := K) (s3 _ _ (show _ = some (rT 0) from upd_same))
  have n3 := Nl.cons z0 (Nl.cons (nc.same sA) Nl.nil)
  have e3 : upd (upd H t (HO.tup [.int 0, .int 1])) e (HO.lst [V.ref t, x]) e = some (HO.lst [V.ref t, x]) := upd_same
  have b3 := hb.same sA
  have eB3 := ((hb.same s2).at ne).1
  have u3 : But B H (upd (upd H t (HO.tup [.int 0, .int 1])) e (HO.lst [V.ref t, x])) := But.same sA
  generalize upd (upd H t (HO.tup [.int 0, .int 1])) e (HO.lst [V.ref t, x]) = H3 at b3 u3 n3 e3
  clear sA z0
  refine ⟨_, rfl, _, _, rfl, rfl, _, _, rfl, ⟨by omega, by omega, by omega, by omega⟩, fun D nD => ?_⟩
  have DB := b3.at nD
  refine lc_range (lo := 2) (n := (((deg : Nat) : Int) + 1 - 2).toNat) (fun i H' => Bag (n + 40 - 3 * i) H' B p ∧ But B H3 H' ∧ ∃ ys rs, H' D = some (.lst ys) ∧ Nl K H' ys rs ∧ rs.length = i ∧ ∀ r ∈ rs, NumQ r) ⟨b3.put nD, But.new nD, [], [], upd_same, Nl.nil, rfl, fun _ h => nomatch h⟩ ?_ ?_
  · rintro i H' hi ⟨b', u', ys, rs, hD, ny, rl, br⟩
    have yl : ys.length = i := by rw [ny.1, rl]
    refine ⟨rfl, yesT ⟨_, rfl, n + 37 - 3 * i, B, p, rfl, b'.less (show n + 37 - 3 * i + 3 ≤ n + 40 - 3 * i by omega), fun H5 y r b5 u5 nr brr => ?_⟩⟩
    have hD5 := u5 _ _ DB.1 hD
    refine ⟨ys, hD5, small1000 (by omega), ?_, ?_, ys ++ [y], rs ++ [r], upd_same, Nl.snocD (ny.go b' (Go.of u5)) hD5 nr, by rw [List.length_append, rl]; rfl, ?_⟩
    · exact (b5.less (show n + 40 - 3 * (i + 1) ≤ n + 37 - 3 * i by omega)).upd DB.1 DB.2
    · intro b o hb he
      rw [upd_ne (fun z => by rw [z, nD] at he; cases he)]
      exact u5 _ _ hb (u' _ _ hb he)
    · intro t ht
      rcases List.mem_append.mp ht with ht | ht
      · exact br t ht
      · rw [List.mem_singleton.mp ht]; exact brr
  · rintro H4 ⟨b4, u4, ys, rs, hD, ny', rl, br'⟩
    have he4 := u4 _ _ eB3 e3
    have nx4 := n3.go b3 (Go.of u4)
    have yl : ys.length = deg - 1 := by rw [ny'.1, rl]; omega
    refine ⟨e, D, _, _, rfl, rfl, he4, hD, Nat.le_of_lt (small1000 (by show 2 + _ ≤ _; omega)), fun k nk => ?_⟩
    have s5 := new_same nk (HO.lst ([V.ref t, x] ++ ys))
    exact q _ _ rs ((b4.same s5).less (by omega)) ((u3.trans u4).trans (But.same s5)) ⟨k, _, rfl, upd_same, (nx4.app ny').same s5⟩ (by omega) br'
end
end Kx
end
section
set_option maxHeartbeats 4000000
namespace Kx
open PySem PySem.Spec PyProof.Rows L2 RZ
/-! ### like -/
structure KT (K : PySem.W.Frag) (a : Addr) (xs : List V) : Prop where
  ex : ∃ (o : Obj) (its : Array Value) (n : Nat), K.lookup a = some o ∧ o.cls = .type "tuple" ∧ o.data = .seq its n ∧ its.size ≤ sizeLine ∧ Vals xs its.toList
def TupAt (K : PySem.W.Frag) (H : Hp) (a : Addr) (xs : List V) : Prop := H a = some (.tup xs) ∨ KT K a xs
theorem TupAt.t {K : PySem.W.Frag} {H : Hp} {a : Addr} {xs : List V} (h : TupAt K H a xs) : SqT K H a xs := h.elim SqT.of fun k => .inr k.ex
theorem TupAt.ty {K : PySem.W.Frag} {H : Hp} {a : Addr} {xs : List V} (h : TupAt K H a xs) : TyX K H (.ref a) (.type "tuple") := h.elim (fun h => .base (.tup h)) fun k => by
  obtain ⟨o, its, n, h1, h2, _⟩ := k.ex
  exact .kTuple h1 h2
theorem TupAt.same {K : PySem.W.Frag} {H H' : Hp} {a : Addr} {xs : List V} (h : TupAt K H a xs) (s : Same H H') : TupAt K H' a xs := h.imp (s _ _) id
def Lk (K : PySem.W.Frag) : Nat → Hp → V → V → Prop
  | 0, H, v, u => u = v ∧ flatV v = true
  | n + 1, H, v, u => (u = v ∧ flatV v = true) ∨ ∃ (a b : Addr) (xs ys : List V), v = .ref a ∧ u = .ref b ∧ xs.length ≤ 60 ∧ Paired (Lk K n H) xs ys ∧
      ((H a = some (.lst xs) ∧ H b = some (.lst ys)) ∨ (TupAt K H a xs ∧ TupAt K H b ys))
section
variable {K : PySem.W.Frag} {H H' : Hp}
theorem Lk.same (s : Same H H') : ∀ {n : Nat} {v u : V}, Lk K n H v u → Lk K n H' v u
  | 0, _, _, h => h
  | n + 1, v, u, h => by
    rcases h with ⟨h1, h2⟩ | ⟨a, b, xs, ys, e1, e2, l, p, q⟩
    · exact .inl ⟨h1, h2⟩
    · exact .inr ⟨a, b, xs, ys, e1, e2, l, L2.Paired.mapP p fun _ _ z => Lk.same s z, q.imp (fun q => ⟨s _ _ q.1, s _ _ q.2⟩) fun q => ⟨q.1.same s, q.2.same s⟩⟩
theorem Lk.flat {v : V} (h : flatV v = true) : ∀ {n : Nat}, Lk K n H v v
  | 0 => ⟨rfl, h⟩
  | _ + 1 => .inl ⟨rfl, h⟩
theorem Lk.succ : ∀ {n : Nat} {v u : V}, Lk K n H v u → Lk K (n + 1) H v u
  | 0, _, _, h => .inl h
  | n + 1, _, _, h => by
    rcases h with h | ⟨a, b, xs, ys, e1, e2, l, p, q⟩
    · exact .inl h
    · exact .inr ⟨a, b, xs, ys, e1, e2, l, L2.Paired.mapP p fun _ _ z => Lk.succ z, q⟩
theorem Lk.lst {n : Nat} {a b : Addr} {xs ys : List V} (h1 : H a = some (.lst xs)) (h2 : H b = some (.lst ys)) (l : xs.length ≤ 60) (p : Paired (Lk K n H) xs ys) : Lk K (n + 1) H (.ref a) (.ref b) := .inr ⟨a, b, xs, ys, rfl, rfl, l, p, .inl ⟨h1, h2⟩⟩
theorem paired_flat {n : Nat} : ∀ {xs : List V}, (∀ x ∈ xs, flatV x = true) → Paired (Lk K n H) xs xs
  | [], _ => .nil
  | x :: xs, h => .cons (Lk.flat (h x List.mem_cons_self)) (paired_flat fun y hy => h y (List.mem_cons_of_mem _ hy))
theorem Nq.tup {v : V} {q : Rat} (h : Nq K H v q) : ∃ a, v = .ref a ∧ TupAt K H a [.int q.num, .int (q.den : Nat)] := by
  obtain ⟨a, e, h⟩ := h
  exact ⟨a, e, h.imp id fun k => ⟨k.ex⟩⟩
theorem Nq.lk {n : Nat} {v u : V} {q : Rat} (h : Nq K H v q) (h' : Nq K H u q) : Lk K (n + 1) H v u := by
  obtain ⟨a, rfl, h1⟩ := h.tup
  obtain ⟨b, rfl, h2⟩ := h'.tup
  exact .inr ⟨a, b, _, _, rfl, rfl, (by show 2 ≤ 60; decide), .cons (Lk.flat rfl) (.cons (Lk.flat rfl) .nil), .inr ⟨h1, h2⟩⟩
theorem Nl.pair {n : Nat} : ∀ {xs ys : List V} {qs : List Rat}, Nl K H xs qs → Nl K H ys qs → Paired (Lk K (n + 1) H) xs ys
  | [], [], [], _, _ => .nil
  | x :: xs, y :: ys, q :: qs, h, h' => .cons ((h.2 0 x q rfl rfl).lk (h'.2 0 y q rfl rfl)) (Nl.pair h.tail h'.tail)
  | [], _ :: _, [], _, h' => by cases h'.1
  | _ :: _, [], _, h, h' => by have e := h.1.trans h'.1.symm; cases e
  | [], _, _ :: _, h, _ => by cases h.1
  | _ :: _, _, [], h, _ => by cases h.1
theorem Ls.lk {n : Nat} {v u : V} {qs : List Rat} (h : Ls K H v qs) (h' : Ls K H u qs) (l : qs.length ≤ 60) : Lk K (n + 2) H v u := by
  obtain ⟨a, xs, rfl, h1, n1⟩ := h
  obtain ⟨b, ys, rfl, h2, n2⟩ := h'
  exact Lk.lst h1 h2 (by rw [n1.1]; exact l) (n1.pair n2)
end
theorem Pr_get {α β : Type} {F : α → β → Prop} : ∀ {l1 : List α} {l2 : List β} {i : Nat} {x : α}, Paired F l1 l2 → l1[i]? = some x → ∃ y, l2[i]? = some y ∧ F x y
  | _, _, _, _, .nil, h => by simp at h
  | _, _, 0, x, .cons (b := b) r _, h => ⟨b, rfl, by
    have e := Option.some.inj (show some _ = some x from by simpa using h)
    rw [← e]
    exact r⟩
  | _, _, i + 1, x, .cons _ t, h => by
    obtain ⟨y, h1, h2⟩ := Pr_get (i := i) (x := x) t (by simpa using h)
    exact ⟨y, by simpa using h1, h2⟩
theorem walk_zipT {K : PySem.W.Frag} {a b : Addr} {xs ys : List V} {n : Nat} (hn : n = min xs.length ys.length) : Walk (ItzT K a b) n (fun H => SqT K H a xs ∧ SqT K H b ys) (YPair (fun i => xs[i]?) (fun i => ys[i]?)) := by
  subst hn
  refine ⟨fun i H hi q => ⟨xs, ys, xs[i]'(by omega), ys[i]'(by omega), q.1, q.2, by simp [show i < xs.length by omega], by simp [show i < ys.length by omega]⟩, fun H q => ⟨xs, ys, q.1, q.2, by omega⟩, fun i H v H' hi q y => ?_⟩
  obtain ⟨T, x, z, h1, h2, h3, h4, h5⟩ := y
  exact ⟨T, x, z, h1, h2, h3, h4 xs q.1, h5 ys q.2⟩
def tyS : V → String
  | .non => "NoneType"
  | .bl _ => "bool"
  | .int _ => "int"
  | _ => "str"
theorem ty_flat {K : PySem.W.Frag} {H : Hp} {v : V} (h : flatV v = true) : TyX K H v (.type (tyS v)) := by
  cases v with
  | non => exact .base .non
  | bl b => exact .base (.bl b)
  | int i => exact .base (.int i)
  | str x => exact .base (.str x)
  | _ => cases h
theorem tyS_in : ∀ {v : V}, flatV v = true → tyS v ∈ ["NoneType", "bool", "int", "str"]
  | .non, _ => by simp [tyS]
  | .bl _, _ => by simp [tyS]
  | .int _, _ => by simp [tyS]
  | .str _, _ => by simp [tyS]
  | .byt _, h => by cases h
  | .flt _, h => by cases h
  | .ref _, h => by cases h
  | .ty _, h => by cases h
theorem kb_seq : ∀ s ∈ ["NoneType", "bool", "int", "str"], kitB s "list" = some false ∧ kitB s "tuple" = some false := by decide +kernel
theorem kb_flat : ∀ s ∈ ["NoneType", "bool", "int", "str"], (kitB s "bool").isSome ∧ (kitB s "str").isSome ∧ (kitB s "int").isSome := by decide +kernel
def spLike (K : PySem.W.Frag) (n : Nat) : Sp := fun vs H Q _ => ∃ (v u : V), vs = [v, u] ∧ Lk K n H v u ∧ ∀ H', Same H H' → Q (.bl true) H'
abbrev nLike : List Str := ["_law_found", "_law_due", "_law_part_a", "_law_part_b"]
section
variable {P : Program} {w : World} {K : PySem.W.Frag} {mg : Str → Option Value} {base : Heap} {f C S CF CO : Addr} {fd : FuncData}
theorem scLike : FnScope nLike ["_law_found", "_law_due"] (defScope L_same) := ⟨rfl, rfl, rfl, by decide +kernel, rfl, by decide +kernel, by decide +kernel⟩
theorem ok_like {n : Nat} (F : Fun K "_law_same" "_law_same" L_same f fd) (bL : Binds K fd ["_law_found", "_law_due"] []) (mL : mg "_law_same" = some (.ref f)) (G : ∀ n', n = n' + 1 → FnOk P w K mg base CX0 (n + 1) f fd ["_law_found", "_law_due"] (spLike K n'))
    (mI : mg "isinstance" = none) (ml : mg "list" = none) (mt : mg "tuple" = none) (mb : mg "bool" = none) (ms : mg "str" = none) (mi : mg "int" = none) (mn : mg "len" = none) (mz : mg "zip" = none) (ma : mg "all" = none) :
    FnOk P w K mg base CX0 (n + 2) f fd ["_law_found", "_law_due"] (spLike K n) := by
  refine F.ok scLike (fun vs H Q E h => ?_) (fun cdv A outer s H vs Q E hr h => ?_)
  · obtain ⟨v, u, rfl, _⟩ := h
    rfl
  obtain ⟨v, u, rfl, tv, q⟩ := h
  have flat : flatV v = true → u = v → ∃ t, PSs (cxOf CX0 P w K mg base nLike "_law_same" (defScope L_same) f cdv A outer s H E).nox (defBody L_same) t ∧ t { nx := fun _ H' => Q .non H', rt := Q } (L2.start nLike [v, u]) H := fun hv hu => by
    subst hu
    obtain ⟨k1, k2⟩ := kb_seq _ (tyS_in hv)
    obtain ⟨k3, k4, k5⟩ := kb_flat _ (tyS_in hv)
    obtain ⟨x3, k3⟩ := Option.isSome_iff_exists.mp k3
    obtain ⟨x4, k4⟩ := Option.isSome_iff_exists.mp k4
    obtain ⟨x5, k5⟩ := Option.isSome_iff_exists.mp k5
    refine ⟨_, pss_cons (ps_if (pt_val (pe_callB call_isiT rfl mI (by decide +kernel) (pa_cons (pv 1) (pa_cons (pe_tup (pa_cons (pe_bltn rfl ml boot_list (rel_ty _)) (pa_cons (pe_bltn rfl mt boot_tuple (rel_ty _)) pa_nil))) pa_nil)))) (pss_cons ps_never (pss_one ps_never)) pss_nil)
      (pss_cons (ps_if (PW.pt (pw_or (pt_cmpR op_isN (pv 1) pe_non (nomark _)) (pw_or1 (pt_cmpR op_isN (pv 0) pe_non (nomark _))))) (pss_one (ps_ret (pe_and (pe_cmpR op_isN (pv 1) pe_non (nomark _)) (pe_one (pe_cmpR op_isN (pv 0) pe_non (nomark _)))))) pss_nil)
      (pss_cons (ps_if (PW.pt (pw_or (pt_val (pe_callB call_isiT rfl mI (by decide +kernel) (pa_cons (pv 0) (pa_cons (pe_tup (pa_cons (pe_bltn rfl ml boot_list (rel_ty _)) (pa_cons (pe_bltn rfl mt boot_tuple (rel_ty _)) pa_nil))) pa_nil)))) (pw_or1 (pt_cmpR op_ne (pe_callB call_isi rfl mI (by decide +kernel) (pa_cons (pv 0) (pa_cons (pe_bltn rfl mb boot_bool (rel_ty _)) pa_nil))) (pe_callB call_isi rfl mI (by decide +kernel) (pa_cons (pv 1) (pa_cons (pe_bltn rfl mb boot_bool (rel_ty _)) pa_nil))) (nomark _))))) (pss_one ps_never) pss_nil)
      (pss_cons (ps_if (PW.pt (pw_or (pt_cmpR op_ne (pe_callB call_isi rfl mI (by decide +kernel) (pa_cons (pv 0) (pa_cons (pe_bltn rfl ms boot_str (rel_ty _)) pa_nil))) (pe_callB call_isi rfl mI (by decide +kernel) (pa_cons (pv 1) (pa_cons (pe_bltn rfl ms boot_str (rel_ty _)) pa_nil))) (nomark _)) (pw_or1 (pt_cmpR op_ne (pe_callB call_isi rfl mI (by decide +kernel) (pa_cons (pv 0) (pa_cons (pe_bltn rfl mi boot_int (rel_ty _)) pa_nil))) (pe_callB call_isi rfl mI (by decide +kernel) (pa_cons (pv 1) (pa_cons (pe_bltn rfl mi boot_int (rel_ty _)) pa_nil))) (nomark _))))) (pss_one ps_never) pss_nil)
      (pss_one (ps_ret (pe_cmpR op_eq (pv 0) (pv 1) (nomark _))))))), ?_⟩
    refine ⟨_, rfl, (by show 2 ≤ sizeLine; decide), fun p np => ?_⟩
    have g1 := new_same np (.tup [.ty "list", .ty "tuple"])
    refine ⟨u, p, _, .type (tyS u), _, false, rfl, upd_same, .cons (.ty _) (.cons (.ty _) .nil), ty_flat hv, kit2 k1 k2 rfl, _, rfl, iteF ?_⟩
    generalize upd H p (.tup [.ty "list", .ty "tuple"]) = H1 at g1
    by_cases e : u = .non
    · subst e
      refine ⟨_, rfl, rfl, _, rfl, iteT ?_⟩
      refine iteT ⟨_, rfl, rfl, _, rfl, iteT ⟨_, rfl, rfl, q H1 g1⟩⟩
    · refine ⟨_, rfl, rfl, _, rfl, ?_⟩
      rw [decide_eq_false e]
      refine iteF ⟨_, rfl, rfl, _, rfl, ?_⟩
      rw [decide_eq_false e]
      refine iteF ?_
      refine ⟨_, rfl, (by show 2 ≤ sizeLine; decide), fun p2 np2 => ?_⟩
      have g2 := g1.trans (new_same np2 (.tup [.ty "list", .ty "tuple"]))
      refine ⟨u, p2, _, .type (tyS u), _, false, rfl, upd_same, .cons (.ty _) (.cons (.ty _) .nil), ty_flat hv, kit2 k1 k2 rfl, _, rfl, iteF ?_⟩
      generalize upd H1 p2 (.tup [.ty "list", .ty "tuple"]) = H2 at g2
      refine ⟨_, rfl, u, _, _, _, x3, rfl, .ty _, ty_flat hv, kit_ty k3, _, rfl, u, _, _, _, x3, rfl, .ty _, ty_flat hv, kit_ty k3, rfl, _, rfl, ?_⟩
      refine iteNS rfl ?_
      refine ⟨_, rfl, u, _, _, _, x4, rfl, .ty _, ty_flat hv, kit_ty k4, _, rfl, u, _, _, _, x4, rfl, .ty _, ty_flat hv, kit_ty k4, rfl, _, rfl, ?_⟩
      refine iteNS rfl ?_
      refine ⟨_, rfl, u, _, _, _, x5, rfl, .ty _, ty_flat hv, kit_ty k5, _, rfl, u, _, _, _, x5, rfl, .ty _, ty_flat hv, kit_ty k5, rfl, _, rfl, ?_⟩
      refine iteNS rfl ?_
      have hs : scal u u = true := by
        cases u <;> first | rfl | cases hv
      refine ⟨_, rfl, _, rfl, hs, ?_⟩
      rw [decide_eq_true rfl]
      exact q H2 g2
  have base0 : (u = v ∧ flatV v = true) → ∃ t, PSs (cxOf CX0 P w K mg base nLike "_law_same" (defScope L_same) f cdv A outer s H E).nox (defBody L_same) t ∧ t { nx := fun _ H' => Q .non H', rt := Q } (L2.start nLike [v, u]) H := fun h => flat h.2 h.1
  cases n with
  | zero => exact base0 tv
  | succ n =>
    rcases tv with h0 | ⟨a, b, xs, ys, rfl, rfl, l, pr, hh⟩
    · exact base0 h0
    have GL := G n rfl
    have le : xs.length = ys.length := pr.length
    have el : ∀ (i : Nat) (y z : V), xs[i]? = some y → ys[i]? = some z → ∀ H', Same H H' → Lk K n H' y z := fun i y z hy hz H' g => by
      obtain ⟨z', h1, h2⟩ := Pr_get pr hy
      rw [hz] at h1
      rw [← Option.some.inj h1] at h2
      exact Lk.same g h2
    rcases hh with ⟨h1, h2⟩ | ⟨h1, h2⟩
    · refine ⟨_, pss_cons (ps_if (pt_val (pe_callB call_isiT rfl mI (by decide +kernel) (pa_cons (pv 1) (pa_cons (pe_tup (pa_cons (pe_bltn rfl ml boot_list (rel_ty _)) (pa_cons (pe_bltn rfl mt boot_tuple (rel_ty _)) pa_nil))) pa_nil))))
          (pss_cons (ps_if (PW.pt (pw_or (pt_cmpR op_ne (pe_callB call_isi rfl mI (by decide +kernel) (pa_cons (pv 0) (pa_cons (pe_bltn rfl ml boot_list (rel_ty _)) pa_nil))) (pe_callB call_isi rfl mI (by decide +kernel) (pa_cons (pv 1) (pa_cons (pe_bltn rfl ml boot_list (rel_ty _)) pa_nil))) (nomark _)) (pw_or1 (pt_cmpR op_ne (pe_callB call_isi rfl mI (by decide +kernel) (pa_cons (pv 0) (pa_cons (pe_bltn rfl mt boot_tuple (rel_ty _)) pa_nil))) (pe_callB call_isi rfl mI (by decide +kernel) (pa_cons (pv 1) (pa_cons (pe_bltn rfl mt boot_tuple (rel_ty _)) pa_nil))) (nomark _))))) (pss_one ps_never) pss_nil)
          (pss_one (ps_ret (pe_and (pe_cmpR op_eq (pe_callB call_len_seq rfl mn PySem.boot_len (pa_cons (pv 0) pa_nil)) (pe_callB call_len_seq rfl mn PySem.boot_len (pa_cons (pv 1) pa_nil)) (nomark _))
            (pe_one (pe_callB (cr_all rfl) rfl ma (by decide +kernel) (pa_cons (pe_lc (own := [("_law_part_a", 2), ("_law_part_b", 3)]) (g := gTup K 2 (gCons (gName 2) (gCons (gName 3) gNil))) (tt := tYes) rfl scLike.nd (pi_zipA rfl mz (pa_cons (pv 0) (pa_cons (pv 1) pa_nil))) (blkOk_by (N := nLike) (sc := defScope L_same) (by decide +kernel))
              (fun _ _ _ _ _ => pg_tup rfl (pgs_cons (pg_name (i := 2) scLike.nd rfl (Or.inl rfl)) (pgs_cons (pg_name (i := 3) scLike.nd rfl (Or.inl rfl)) pgs_nil))) (fun _ _ _ _ _ => pts_nil) (fun _ _ _ _ _ => pe_call GL hr rfl mL F.kp bL .nil pass0 (pa_cons (pv 2) (pa_cons (pv 3) pa_nil)))) pa_nil))))))) pss_nil)
        (pss_cons ps_never (pss_cons ps_never (pss_cons ps_never (pss_one ps_never)))), ?_⟩
      refine ⟨_, rfl, (by show 2 ≤ sizeLine; decide), fun p np => ?_⟩
      have g1 := new_same np (.tup [.ty "list", .ty "tuple"])
      refine ⟨.ref b, p, _, .type "list", _, true, rfl, upd_same, .cons (.ty _) (.cons (.ty _) .nil), .base (.lst (g1 _ _ h2)), kit2 kb_l.1 kb_l.2.1 rfl, _, rfl, ?_⟩
      refine iteT ?_
      generalize upd H p (.tup [.ty "list", .ty "tuple"]) = H1 at g1
      have ta : TyX K H1 (.ref a) (.type "list") := .base (.lst (g1 _ _ h1))
      have tb : TyX K H1 (.ref b) (.type "list") := .base (.lst (g1 _ _ h2))
      refine ⟨_, rfl, .ref a, _, _, _, _, rfl, .ty _, ta, kit_ty kb_l.1, _, rfl, .ref b, _, _, _, _, rfl, .ty _, tb, kit_ty kb_l.1, rfl, _, rfl, iteNS rfl ?_⟩
      refine ⟨_, rfl, .ref a, _, _, _, _, rfl, .ty _, ta, kit_ty kb_l.2.1, _, rfl, .ref b, _, _, _, _, rfl, .ty _, tb, kit_ty kb_l.2.1, rfl, _, rfl, iteNS rfl ?_⟩
      refine ⟨_, rfl, a, xs, rfl, .inl (SqL.of (g1 _ _ h1)), _, rfl, b, ys, rfl, .inl (SqL.of (g1 _ _ h2)), rfl, _, rfl, ?_⟩
      rw [decide_eq_true (show V.int (xs.length : Nat) = V.int (ys.length : Nat) by rw [le])]
      refine iteT ⟨_, rfl, _, rfl, a, b, xs, ys, rfl, .inl ⟨SqL.of (g1 _ _ h1), SqL.of (g1 _ _ h2), fun D nD => ?_⟩⟩
      refine lc_it (walk_zip (K := K) (a := a) (b := b) (xs := xs) (ys := ys) (n := xs.length) (by omega)) (fun i H' => Same H1 H' ∧ H' D = some (.lst ((List.replicate i true).map V.bl))) ⟨new_same nD _, upd_same⟩ (fun i H' _ h => ⟨SqL.of (h.1 _ _ (g1 _ _ h1)), SqL.of (h.1 _ _ (g1 _ _ h2))⟩) ?_ ?_
      · rintro i x H' H5 hi ⟨g, hD⟩ ⟨T, y, z, rfl, hT, rfl, hy, hz⟩
        refine ⟨T, [y, z], rfl, SqT.of upd_same, rfl, y, [z], rfl, z, [], rfl, rfl, ?_⟩
        refine ⟨rfl, ?_⟩
        refine yesT ?_
        have g5 : Same H1 (upd H' T (.tup [y, z])) := g.trans (new_same hT _)
        have tyz := el i y z hy hz _ (g1.trans g5)
        refine ⟨_, rfl, _, rfl, y, z, rfl, tyz, fun H6 g6 => ⟨(List.replicate i true).map V.bl, ?_, ?_, ?_, ?_⟩⟩
        · refine g6 _ _ ?_
          rw [upd_ne (ne_of_none hD hT)]
          exact hD
        · rw [List.length_map, List.length_replicate]
          exact small1000 (by omega)
        · exact fun c o h => by rw [upd_ne (ne_of_none h nD)]; exact g6 _ _ (g5 _ _ h)
        · rw [upd_same, List.replicate_succ', List.map_append]
          rfl
      · rintro H' ⟨g, hD⟩
        refine ⟨D, List.replicate xs.length true, rfl, SqL.of hD, ?_⟩
        have e : (List.replicate xs.length true).all id = true := by simp
        rw [e]
        exact q H' (g1.trans g)
    · refine ⟨_, pss_cons (ps_if (pt_val (pe_callB call_isiT rfl mI (by decide +kernel) (pa_cons (pv 1) (pa_cons (pe_tup (pa_cons (pe_bltn rfl ml boot_list (rel_ty _)) (pa_cons (pe_bltn rfl mt boot_tuple (rel_ty _)) pa_nil))) pa_nil))))
          (pss_cons (ps_if (PW.pt (pw_or (pt_cmpR op_ne (pe_callB call_isi rfl mI (by decide +kernel) (pa_cons (pv 0) (pa_cons (pe_bltn rfl ml boot_list (rel_ty _)) pa_nil))) (pe_callB call_isi rfl mI (by decide +kernel) (pa_cons (pv 1) (pa_cons (pe_bltn rfl ml boot_list (rel_ty _)) pa_nil))) (nomark _)) (pw_or1 (pt_cmpR op_ne (pe_callB call_isi rfl mI (by decide +kernel) (pa_cons (pv 0) (pa_cons (pe_bltn rfl mt boot_tuple (rel_ty _)) pa_nil))) (pe_callB call_isi rfl mI (by decide +kernel) (pa_cons (pv 1) (pa_cons (pe_bltn rfl mt boot_tuple (rel_ty _)) pa_nil))) (nomark _))))) (pss_one ps_never) pss_nil)
          (pss_one (ps_ret (pe_and (pe_cmpR op_eq (pe_callB call_len_seq rfl mn PySem.boot_len (pa_cons (pv 0) pa_nil)) (pe_callB call_len_seq rfl mn PySem.boot_len (pa_cons (pv 1) pa_nil)) (nomark _))
            (pe_one (pe_callB (cr_all rfl) rfl ma (by decide +kernel) (pa_cons (pe_lc (own := [("_law_part_a", 2), ("_law_part_b", 3)]) (g := gTup K 2 (gCons (gName 2) (gCons (gName 3) gNil))) (tt := tYes) rfl scLike.nd (pi_zipA rfl mz (pa_cons (pv 0) (pa_cons (pv 1) pa_nil))) (blkOk_by (N := nLike) (sc := defScope L_same) (by decide +kernel))
              (fun _ _ _ _ _ => pg_tup rfl (pgs_cons (pg_name (i := 2) scLike.nd rfl (Or.inl rfl)) (pgs_cons (pg_name (i := 3) scLike.nd rfl (Or.inl rfl)) pgs_nil))) (fun _ _ _ _ _ => pts_nil) (fun _ _ _ _ _ => pe_call GL hr rfl mL F.kp bL .nil pass0 (pa_cons (pv 2) (pa_cons (pv 3) pa_nil)))) pa_nil))))))) pss_nil)
        (pss_cons ps_never (pss_cons ps_never (pss_cons ps_never (pss_one ps_never)))), ?_⟩
      refine ⟨_, rfl, (by show 2 ≤ sizeLine; decide), fun p np => ?_⟩
      have g1 := new_same np (.tup [.ty "list", .ty "tuple"])
      refine ⟨.ref b, p, _, .type "tuple", _, true, rfl, upd_same, .cons (.ty _) (.cons (.ty _) .nil), (h2.same g1).ty, kit2 kb_l.2.2.1 kb_l.2.2.2 rfl, _, rfl, ?_⟩
      refine iteT ?_
      generalize upd H p (.tup [.ty "list", .ty "tuple"]) = H1 at g1
      have ta : TyX K H1 (.ref a) (.type "tuple") := (h1.same g1).ty
      have tb : TyX K H1 (.ref b) (.type "tuple") := (h2.same g1).ty
      refine ⟨_, rfl, .ref a, _, _, _, _, rfl, .ty _, ta, kit_ty kb_l.2.2.1, _, rfl, .ref b, _, _, _, _, rfl, .ty _, tb, kit_ty kb_l.2.2.1, rfl, _, rfl, iteNS rfl ?_⟩
      refine ⟨_, rfl, .ref a, _, _, _, _, rfl, .ty _, ta, kit_ty kb_l.2.2.2, _, rfl, .ref b, _, _, _, _, rfl, .ty _, tb, kit_ty kb_l.2.2.2, rfl, _, rfl, iteNS rfl ?_⟩
      refine ⟨_, rfl, a, xs, rfl, .inr ((h1.same g1).t), _, rfl, b, ys, rfl, .inr ((h2.same g1).t), rfl, _, rfl, ?_⟩
      rw [decide_eq_true (show V.int (xs.length : Nat) = V.int (ys.length : Nat) by rw [le])]
      refine iteT ⟨_, rfl, _, rfl, a, b, xs, ys, rfl, .inr ⟨(h1.same g1).t, (h2.same g1).t, fun D nD => ?_⟩⟩
      refine lc_it (walk_zipT (K := K) (a := a) (b := b) (xs := xs) (ys := ys) (n := xs.length) (by omega)) (fun i H' => Same H1 H' ∧ H' D = some (.lst ((List.replicate i true).map V.bl))) ⟨new_same nD _, upd_same⟩ (fun i H' _ h => ⟨((h1.same g1).same h.1).t, ((h2.same g1).same h.1).t⟩) ?_ ?_
      · rintro i x H' H5 hi ⟨g, hD⟩ ⟨T, y, z, rfl, hT, rfl, hy, hz⟩
        refine ⟨T, [y, z], rfl, SqT.of upd_same, rfl, y, [z], rfl, z, [], rfl, rfl, ?_⟩
        refine ⟨rfl, ?_⟩
        refine yesT ?_
        have g5 : Same H1 (upd H' T (.tup [y, z])) := g.trans (new_same hT _)
        have tyz := el i y z hy hz _ (g1.trans g5)
        refine ⟨_, rfl, _, rfl, y, z, rfl, tyz, fun H6 g6 => ⟨(List.replicate i true).map V.bl, ?_, ?_, ?_, ?_⟩⟩
        · refine g6 _ _ ?_
          rw [upd_ne (ne_of_none hD hT)]
          exact hD
        · rw [List.length_map, List.length_replicate]
          exact small1000 (by omega)
        · exact fun c o h => by rw [upd_ne (ne_of_none h nD)]; exact g6 _ _ (g5 _ _ h)
        · rw [upd_same, List.replicate_succ', List.map_append]
          rfl
      · rintro H' ⟨g, hD⟩
        refine ⟨D, List.replicate xs.length true, rfl, SqL.of hD, ?_⟩
        have e : (List.replicate xs.length true).all id = true := by simp
        rw [e]
        exact q H' (g1.trans g)
end
end Kx
end
section
set_option maxHeartbeats 4000000
namespace L2
open PySem PySem.Spec PyProof.Rows
/-! ### the caught exception, read where it is pinned -/
section
variable {X : Cx} {a C : Addr} {oe : Obj} {cls : Value} {d : Option Addr} {e : Expr} {te : TE} {pos : Pos} {n : Str}
theorem pe_xfP (hp : (a, oe) ∈ X.pn) (T : XC X.K C) (hno : PySem.W.findIn X.K (.ref C) n = some none) (hz : Zc cls d oe) (hf : ∃ vs, oe.data = .fields vs) (he : PE X e te) (hb : attributeBase e n X.env (eval e X.env) = eval e X.env := by rfl) :
    PE X (.Attribute e n pos) (tXf a cls d C n te) := by
  refine ⟨fun pins s σ H Q I h => ?_⟩
  refine attr_of hb (thn (he.run pins s σ H _ I h) fun u s1 hh => ?_)
  obtain ⟨x, H1, I1, rx, ex, ec, dd, fs, v, ed, ea, l, q⟩ := hh
  subst ex
  obtain rfl : u = Value.ref a := rx
  subst ec
  subst ed
  obtain ⟨ha, _⟩ := I1.pin (a, oe) (List.mem_append_left _ hp)
  obtain ⟨vs, hd⟩ := hf
  have hx : ObjOk X.prog X.w H1 s1.heap dd (.xd fs) := I1.hok dd _ ea
  obtain ⟨mA, hns, hr⟩ := hx
  obtain ⟨od, ho, hl⟩ := lookIn_ns hns
  obtain ⟨u, hu, ru⟩ := RelO.some_of (v := v) (o := mA n) (by rw [← l]; exact hr n)
  have J : PySem.W.InstAt s1.heap a oe C (some od) := ⟨ha, hz.1, by unfold PySem.W.notCls; rw [hd] <;> rfl, by rw [hz.2]; exact ho⟩
  exact HandSPX.exc_get I1.kIn J T.ga T.gg T.ex (PySem.W.findObj_own T.hd hno rfl (by rw [hl, hu])) (handed_of ru) ⟨v, H1, I1.tok _, ru, q⟩
/-- isinstance(e, c), e the exception pinned at a, with its dict -/
def rIsP (K : PySem.W.Frag) (D a dd : Addr) : List V → Hp → VK → Prop := fun xs H Q => ∃ (c : V) (cv : Value) (b : Bool) (fs : List (Str × V)), xs = [.ref a, c] ∧ H dd = some (.xd fs) ∧ (∀ u, RelV c u → u = cv) ∧ PySem.W.kitOne K (.ref D) cv = some b ∧ Q (.bl b) H
theorem call_isP {D dd : Addr} (hp : (a, oe) ∈ X.pn) (T : XC X.K D) (hz : Zc (.ref D) (some dd) oe) (hf : ∃ vs, oe.data = .fields vs) : CallR X (.builtin "isinstance") (rIsP X.K D a dd) := by
  intro pins s σ H xs us Q I r h
  obtain ⟨c, cv, b, fs, rfl, ea, hcv, e, q⟩ := h
  cases r with
  | cons rx rr =>
    cases rr with
    | cons rt rr =>
      cases rr
      cases rx
      have ec := hcv _ rt
      subst ec
      obtain ⟨hget, _⟩ := I.pin (a, oe) (List.mem_append.mpr (.inl hp))
      obtain ⟨vs, hv⟩ := hf
      have hx : ObjOk X.prog X.w H s.heap dd (.xd fs) := I.hok dd _ ea
      obtain ⟨mA, hns, hr⟩ := hx
      obtain ⟨od, ho, hl⟩ := lookIn_ns hns
      have J : PySem.W.InstAt s.heap a oe D (some od) := ⟨hget, hz.1, by unfold PySem.W.notCls; rw [hv] <;> rfl, by rw [hz.2]; exact ho⟩
      exact PySem.W.kia_one (PySem.W.kitx_exc T.cl T.ga T.gg T.ex T.ha T.hn T.ht T.hm) I.kIn J e (fun z => nomatch z) fun tk => ⟨.bl b, H, I.tok tk, rfl, q⟩
end
/-! ### a def that is handed the caught exception, called in the suite -/
structure FnP (P : Program) (w : World) (K : PySem.W.Frag) (mg : Str → Option Value) (base : Heap) (CX : CXT) (k : Nat) (f : Addr) (fd : FuncData) (ps : List Str) (sp : Addr → Value → Option Addr → Sp) : Prop where
  len : ∀ a cls d vs H Q E, sp a cls d vs H Q E → vs.length = ps.length
  run : ∀ (A : Around) (outer : List Env) (s : Shared) (H : Hp) (args : Args) (us : List Value) (vs : List V) (Q : VK) (E : XK) (a : Addr) (oe : Obj) (cls : Value) (d : Option Addr), L2H.RoomH k A → Zc cls d oe → (∃ vs, oe.data = .fields vs) → L2H.PinOk outer H s (a, oe) → Env0 P w K mg base A outer s H → BindsTo s fd args (ps.zip us) → Vals vs us → sp a cls d vs H Q E →
    codeAny (model P w) A (.call (.ref f) args) (CR CX outer P w H s Q E) s
/-- .. by its body -/
theorem fn_ofP {CX : CXT} {P : Program} {w : World} {K : PySem.W.Frag} {mg : Str → Option Value} {base : Heap} {k : Nat} {x q : Str} {st : Stmt} {f : Addr} {fd : FuncData} {N ps : List Str} {sp : Addr → Value → Option Addr → Sp} (F : Fun K x q st f fd) (S : FnScope N ps (defScope st))
    (len : ∀ a cls d vs H Q E, sp a cls d vs H Q E → vs.length = ps.length)
    (hbody : ∀ (cdv : Value) (A : Around) (outer : List Env) (s : Shared) (H : Hp) (vs : List V) (Q : VK) (E : XK) (a : Addr) (oe : Obj) (cls : Value) (d : Option Addr), Zc cls d oe → (∃ vs, oe.data = .fields vs) → L2H.RoomH k (A.deeper (envOfC q (defScope st) s.heap.objs.size f cdv)) → sp a cls d vs H Q E →
      ∃ t, PSs (L2H.cxH CX P w K mg base N q (defScope st) f cdv A outer s H E (a, oe)) (defBody st) t ∧ t { nx := fun _ H' => Q .non H', rt := Q } (L2.start N vs) H) :
    FnP P w K mg base CX (k + 1) f fd ps sp := by
  obtain ⟨oc, od, kV, doc, pm, an, cdv, ct, osl, rfl, lk, hcd⟩ := F.ex
  refine ⟨len, fun A outer s H args us vs Q E a oe cls d hr hz hf hpin e0 hb r hsp => ?_⟩
  have hl := len _ _ _ _ _ _ _ hsp
  have KX : K.In s.heap := e0.mod.kin.keeps fun b o e => (e0.bs b o e).1
  have lim : s.heap.NoLimit := e0.mod.nolimit.keeps fun b o e => (e0.bs b o e).1
  have hkind : ∀ y ∈ ps.zip us, (defScope st).names.lookup y.1 = some .local ∨ ((defScope st).names.lookup y.1 = some .cell ∧ ((cellsFrom (s.heap.objs.size + 1) (defScope st).names []).lookup y.1).isSome = true) := fun ⟨n, v⟩ hy => by
    rcases S.par n (List.of_mem_zip hy).1 with q | q
    · exact .inl q
    · exact .inr ⟨q, PySem.W.cellsFrom_some _ _ _ (.inl q)⟩
  refine codeAny_call_function hr.depth (KX _ _ lk) rfl S.co S.gen rfl (PySem.W.codeRec_of KX hcd) (hb _ _ _ _ ?_)
  refine wpAny_newFunctionEnv_cells S.kind hkind fun env he s1 x => ?_
  subst he
  refine ⟨lim.keeps x.toInCall.keep, codeAny_func ?_⟩
  obtain ⟨t, ht, hq⟩ := hbody cdv A outer s H vs Q E a oe cls d hz hf (hr.deeper _) hsp
  have I : Inv (L2H.cxH CX P w K mg base N q (defScope st) f cdv A outer s H E (a, oe)) [] (L2.start N vs) H s1 := L2H.inv_startH S hpin e0 hl r x
  refine wpAny_mono (ht.run [] s1 (L2.start N vs) H _ I hq) (fun fl s' hs => ?_) fun e s' hs => hs
  have fin : ∀ {σ' : St} {H' : Hp} {v : V} {u : Value}, Inv (L2H.cxH CX P w K mg base N q (defScope st) f cdv A outer s H E (a, oe)) [] σ' H' s' → RelV v u → Q v H' → CE outer P w H s Q u s' :=
    fun {σ' H' v u} J rv q => ⟨v, H', J.os, J.bare, J.base, J.hok, rv, q⟩
  cases fl with
  | ret u =>
    obtain ⟨v, σ', H', J, rv, q⟩ := hs
    exact fin J rv q
  | next =>
    obtain ⟨σ', H', J, q⟩ := hs
    exact fin (v := V.non) (u := Value.none) J rfl q
  | brk =>
    obtain ⟨_, _, _, q⟩ := hs
    exact False.elim q
  | cont =>
    obtain ⟨_, _, _, q⟩ := hs
    exact False.elim q
/-- f(e, ..) in the suite -/
def tCallP (a : Addr) (cls : Value) (d : Option Addr) (sp : Addr → Value → Option Addr → Sp) (t : TA) : TE := fun σ H Q => t σ H fun vs H1 => sp a cls d vs H1 Q (fun _ _ _ => False)
section
variable {X : Cx} {k : Nat} {f : Addr} {fd : FuncData} {ps : List Str} {sp : Addr → Value → Option Addr → Sp} {x : Str} {q pos : Pos} {e : Expr} {es : List Expr} {t : TA} {a : Addr} {oe : Obj} {cls : Value} {d : Option Addr}
theorem pe_callP (hp : (a, oe) ∈ X.pn) (hz : Zc cls d oe) (hf : ∃ vs, oe.data = .fields vs) (F : FnP X.prog X.w X.K X.mg X.base C8.CX0 k f fd ps sp) (hr : L2H.RoomH k X.A) (hg : Gl X x) (hm : X.mg x = some (.ref f)) (hk : PySem.W.keepIn X.K (.ref f) = true) (hb : Binds X.K fd ps [])
    (ha : PA X (e :: es) t) (hdb : (x == ("__debug__" : Str)) = false := by decide) (he : starEach (e :: es) X.env = (false, eval e X.env) :: starEach es X.env := by rfl) (hpl : (backTo pos (starEach es X.env)).any (·.1) = false := by rfl) :
    PE X (.Call (.Name x q) (e :: es) [] pos) (tCallP a cls d sp t) := by
  refine ⟨fun pins s σ H Q I h => ?_⟩
  refine wpAny_Call_Name_kw (ld_glob I hg hm ?_ hdb)
  refine PySem.W.callWith_K (h₀ := X.base) I.ok.mod.kin hk (thn (ha.run pos pins s σ H _ I h) fun us s1 ⟨vs, H1, I1, r, q⟩ => ⟨I1.kIn, ?_⟩) he hpl
  have hl : us.length = ps.length := by rw [← r.length]; exact F.len _ _ _ _ _ _ _ q
  have b := hb s1 us I1.kIn (by rw [List.append_nil]; exact hl)
  rw [List.append_nil] at b
  have P1 := I1.pin (a, oe) (List.mem_append_left _ hp)
  have hpin : L2H.PinOk X.stack H1 s1 (a, oe) := ⟨P1.1, P1.2.1, fun hm => (List.mem_cons.mp (I1.stkSub a hm)).elim P1.2.2.1 P1.2.2.2.1, P1.2.2.2.2⟩
  refine wpAny_call (codeAny_mono (F.run X.A X.stack s1 H1 ⟨us, []⟩ us vs Q _ a oe cls d hr hz hf hpin I1.env0 b r q) fun r s' hq => ?_)
  cases r with
  | error e => exact hq.elim
  | ok fl =>
    cases fl with
    | ret u => exact I1.after hq
    | next => exact False.elim hq
    | brk => exact False.elim hq
    | cont => exact False.elim hq
end
end L2
end
section
set_option maxHeartbeats 4000000
namespace L2
open PySem PySem.Spec PyProof.Rows
/-! ### several clauses «except C as n» -/
abbrev Hd3 : Type := Value × Nat × (Addr → Value → Option Addr → TS)
def wManyAs (K : PySem.W.Frag) (Wout : WX) (D : Ends) : List Hd3 → WX
  | [] => Wout
  | (c, i, ts) :: r => fun cls d σ H => ∃ b, PySem.W.exmOne K cls c = some b ∧ (b = true → ∀ a, H a = none → ts a cls d { nx := fun σ' H' => D.nx (σ'.set i none) H', rt := D.rt, bk := fun σ' H' => D.bk (σ'.set i none) H', ct := fun σ' H' => D.ct (σ'.set i none) H' } (σ.set i (some (.ref a))) H) ∧
      (b = false → wManyAs K Wout D r cls d σ H)
inductive HdsAs (X : Cx) : List ExceptHandler → List Hd3 → Prop
  | nil : HdsAs X [] []
  | cons {x n : Str} {c : Value} {i : Nat} {ts : Addr → Value → Option Addr → TS} {b₀ : Stmt} {suite : List Stmt} {np pos' : Pos} {hds : List ExceptHandler} {l : List Hd3} (hi : X.N[i]? = some n) (hln : X.env.kindOf n = some .local) (hc : Names X x c)
      (hsu : ∀ (a : Addr) (oe : Obj) (cls : Value) (d : Option Addr) (pn : List (Addr × Obj)), Zc cls d oe → (∃ vs, oe.data = .fields vs) → PSs (X.suite a ((a, oe) :: pn)) (b₀ :: suite) (ts a cls d)) (r : HdsAs X hds l) :
      HdsAs X (.ExceptHandler (some (.Name x np)) (some n) (b₀ :: suite) pos' :: hds) ((c, i, ts) :: l)
section
variable {X : Cx} {body : List Stmt} {h₀ : ExceptHandler} {hds : List ExceptHandler} {l : List Hd3} {pos : Pos} {tb : WX → TS} {Wout : WX}
theorem ps_try_manyAs (hs : X.stack = X.env :: X.outer) (hf : X.env.frame = some X.env.locals) (hN : X.N.Nodup) (tk : Takes X Wout)
    (hb : ∀ (W : WX) (pn : List (Addr × Obj)) (xe : Value → Shared → Prop), Takes (X.tr pn xe) W → PassesOwn (model X.prog X.w) X.A X.env xe → PSs (X.tr pn xe) body (tb W))
    (hh : HdsAs X (h₀ :: hds) l) : PS X (.Try body (h₀ :: hds) [] [] pos) (fun D σ H => tb (wManyAs X.K Wout D l) D σ H) := by
  refine ⟨fun pins s σ H D I h => ?_⟩
  have ok := I.ok
  have hfr : X.A.frames = some (X.env :: X.outer) := by rw [ok.frames, hs]
  refine wpAny_Try_except ?_
  refine wpAny_mono ((hb (wManyAs X.K Wout D l) (X.pn ++ pins) (fun e s₁ => wpAny (model X.prog X.w) X.A (noteFrame e X.env) (fun _ s₂ => wpAny (model X.prog X.w) X.A (setFlight e none) (fun _ s₃ =>
    wpAny (model X.prog X.w) X.A (handleBy e X.env (h₀ :: hds)) (SP X pins D) X.xe s₃) X.xe s₂) X.xe s₁) (fun u s' xx => ?_) PassesOwn.looking).run [] s σ H D (I.toTry _) h) (fun f s1 hsp => ?_) (fun e s1 he => he)
  · -- the catch
    obtain ⟨a, B, sI, pins', σ', H', cls, d, rfl, J', nb, up, sky, na, os, ag, w⟩ := xx
    have J : Inv X pins σ' H' sI := J'.ofTry ok
    have sky' : Sky B (X.env :: X.outer) a (Zc cls d) X.env.locals s'.heap := by rw [← hs]; exact sky
    show wpAny (model X.prog X.w) X.A (noteFrame (.ref a) X.env) _ _ _
    refine Sky.land Zc.steady hfr hf sky' fun h3 fl3 up3 => ?_
    have J3 : Inv X pins σ' H' { s' with heap := h3 } := J.landed nb fl3.1 (up.trans up3) os ag
    obtain ⟨oe3, vs3, he3, hz3, hd3⟩ := fl3.there
    have notFr : ∀ {h : Heap} {o : Obj} {vs : Array Value}, h.FunFrames B (X.env :: X.outer) → h.get? a = some o → o.data = .fields vs → a ∉ frs (X.env :: X.outer) := fun {h o vs} ff e dd hm => by
      obtain ⟨_, o', e', hnf⟩ := ff.mem hm
      rw [e] at e'; cases e'
      exact hnf _ dd
    have nfr := notFr fl3.2.2.1 he3 hd3
    have nL : a ≠ X.env.locals := fun z => nfr (List.mem_filterMap.mpr ⟨X.env, List.mem_cons_self, by rw [hf, z]⟩)
    have nF : a ∉ X.fs := fun hm => by
      obtain ⟨e, he, q⟩ := List.mem_filterMap.mp hm
      exact nfr (List.mem_filterMap.mpr ⟨e, List.mem_cons_of_mem _ he, q⟩)
    have S3 := J3.suite he3 hd3 na nL nF
    have go : ∀ {hds' : List ExceptHandler} {l' : List Hd3}, HdsAs X hds' l' → wManyAs X.K Wout D l' cls d σ' H' →
        wpAny (model X.prog X.w) X.A (handleBy (.ref a) X.env hds') (SP X pins D) X.xe { s' with heap := h3 } := by
      intro hds' l' hk
      induction hk with
      | nil =>
        intro w
        refine wpAny_handleBy_nil ?_
        obtain ⟨k1, k2, k3, oe, vs, T, oT, ts', he, hz, hd, h1, hr⟩ := id fl3
        unfold PySem.passOn
        refine wpAny_bind (wpAny_field he hd h1 ?_)
        rw [if_neg (show ¬ ((Value.ref T == Value.none) = true) from by simp)]
        have fin : wpAny (model X.prog X.w) X.A (setFlight (.ref a) X.env.frame) (fun _ s4 => wpAny (model X.prog X.w) X.A (throw (.ref a) : Sem Flow) (SP X pins D) X.xe s4) X.xe { s' with heap := h3 } := by
          rw [hf]
          refine HandSPX.setFlight_upZ fl3 fun h4 hh4 up4 => wpAny_throw (tk _ _ ?_)
          exact ⟨a, B, sI, pins, σ', H', cls, d, rfl, J, nb, (up.trans up3).trans up4, .inr (.inr (by rw [hs]; exact hh4)), na, os, ag, w⟩
        first
          | exact wpAny_bind (wpAny_pure (wpAny_bind fin))
          | exact wpAny_bind fin
      | @cons x n c i ts b₀ suite np pos' hds2 l2 hi hln hc hsu r ih =>
        intro w
        obtain ⟨b, hb1, hyes, hno⟩ := w
        have hloc : Loc X.env.scope n := .inl hln
        refine wpAny_handleBy_cons (codeAny_handlers_test ?_) (by intro q; cases q)
        have LT : PySem.W.Looks (model X.prog X.w) h3 (typeOf (.ref a)) cls := fun A Q E s k q => wpAny_typeOf_ref (k _ _ he3) (by rw [hz3.1]; exact q)
        have LM := PySem.W.exm_one (M := model X.prog X.w) (J3.kIn) LT hb1
        have test : ∀ {Q : Value → Shared → Prop} {E : Value → Shared → Prop}, Q c { s' with heap := h3 } → wpAny (model X.prog X.w) (X.A.mark (some (.ref a))) (eval (.Name x np) X.env) Q E { s' with heap := h3 } := fun {Q E} q => by
          obtain ⟨hg, hdbg, hm | ⟨hm, hv, hnn⟩⟩ := hc
          · exact ld_glob (X := X.suite a ((a, oe3) :: (X.pn ++ pins))) S3 hg hm q hdbg
          · exact ld_blt (X := X.suite a ((a, oe3) :: (X.pn ++ pins))) S3 hg hm hv q hnn hdbg
        refine test (LM.here ?_)
        cases b with
        | true =>
          refine codeAny_handlers_suite_as ?_
          refine HandSPX.lands_againZ fl3 fun h4 fl4 up4 => ?_
          have J4 : Inv X pins σ' H' { s' with heap := h4 } := J.landed nb fl4.1 ((up.trans up3).trans up4) os ag
          obtain ⟨oe4, vs4, he4, hz4, hd4⟩ := fl4.there
          have S4 := J4.suite he4 hd4 na nL nF
          refine store_ok (X := X.suite a ((a, oe4) :: (X.pn ++ pins))) (v := .ref a) S4 hN hi hloc rfl (fun s5 S5 => ?_) (.inr hln)
          refine wpAny_mono ((hsu a oe4 cls d (X.pn ++ pins) hz4 ⟨_, hd4⟩).run [] s5 _ H' _ S5 (hyes rfl a na)) (fun f s6 hsp => ?_) (fun _ _ z => False.elim z)
          have end_ : ∀ {σ6 : St} {H6 : Hp} {Q : Shared → Prop}, Inv (X.suite a ((a, oe4) :: (X.pn ++ pins))) [] σ6 H6 s6 → (∀ s7, Inv X pins (σ6.set i none) H6 s7 → Q s7) →
              wpAny (model X.prog X.w) X.A (do bindName X.env n .none; unbindBehindTheSuite X.env n pos') (fun _ s7 => Q s7) X.xe s6 := fun {σ6 H6 Q} S6 hq => gone_ok (S6.unsuite ok) hN hi hln hq
          cases f with
          | next =>
            obtain ⟨σ6, H6, S6, q6⟩ := hsp
            exact end_ S6 fun s7 J7 => ⟨_, _, J7, q6⟩
          | brk =>
            obtain ⟨σ6, H6, S6, q6⟩ := hsp
            exact end_ S6 fun s7 J7 => ⟨_, _, J7, q6⟩
          | cont =>
            obtain ⟨σ6, H6, S6, q6⟩ := hsp
            exact end_ S6 fun s7 J7 => ⟨_, _, J7, q6⟩
          | ret u =>
            obtain ⟨v6, σ6, H6, S6, r6, q6⟩ := hsp
            exact end_ S6 fun s7 J7 => ⟨_, _, _, J7, r6, q6⟩
        | false =>
          show wpAny _ X.A (handleBy (.ref a) X.env hds2) _ _ _
          exact ih (hno rfl)
    exact go hh w
  · cases f with
    | next =>
      obtain ⟨σ', H', J', q⟩ := hsp
      exact wpAny_execs_nil ⟨σ', H', J'.ofTry ok, q⟩
    | brk =>
      obtain ⟨σ', H', J', q⟩ := hsp
      exact ⟨σ', H', J'.ofTry ok, q⟩
    | cont =>
      obtain ⟨σ', H', J', q⟩ := hsp
      exact ⟨σ', H', J'.ofTry ok, q⟩
    | ret u =>
      obtain ⟨v, σ', H', J', r, q⟩ := hsp
      exact ⟨v, σ', H', J'.ofTry ok, r, q⟩
end
end L2
end
section
set_option maxHeartbeats 4000000
namespace PySem.W
open PySem PySem.Spec PySem.Calls PyProof.Rows
abbrev kld_fn (name qual : Str) (params : Arguments) (body : Expr) (scope : Scope) (cl : List (Str × Addr)) (dV pm cdv ct : Value) : FuncData :=
  { name, qualname := qual, params, body := .expr body, scope, globals := mainGlobals, closure := cl, defaults := dV, kwdefaults := .none, doc := .none, pyModule := pm, annotations := none, code := cdv, closureTuple := ct, builtins := builtinsNs }
abbrev kld_obj (name qual : Str) (params : Arguments) (body : Expr) (scope : Scope) (clos : List (Str × Addr)) (dV pm : Value) (c' : Addr) (ctv : Value) : Obj :=
  { cls := .type "function", data := .func (kld_fn name qual params body scope clos dV pm (.ref c') ctv) }
section
variable {M : Model} {A : Around} {E : Value → Shared → Prop} {s : Shared} {name qual : Str} {params : Arguments} {body : Expr} {scope : Scope} {env : Env} {c P : Addr} {ps : Array Value} {pos : Pos} {firstLine : Nat} {mg : Str → Option Value}
  {clos : List (Str × Addr)} {dV : Value} {Q : Value → Shared → Prop}
theorem kld_makeTail (hcl : closureFor scope env = pure clos) (hge0 : env.globals = mainGlobals) (hg : s.heap.Ns mainGlobals mg) (hcode : env.code = .ref c) (C : CodeHd s.heap c P) (hP : s.heap.get? P = some (tabObj ps)) (ht : TriplesOk ps.toList)
    (hnf : codeAmong pos ps.toList = none) (hgP : mainGlobals ≠ P) (hb : s.heap.BuiltinsAt mg P)
    (h : ∀ c' ctv h' tk, Heap.ExtBut P s.heap h' → s.heap.objs.size ≤ c' → c' < h'.objs.size → h'.CodeRec (.ref c') qual → h'.get? P = some (tabObj (ps ++ #[rawInt pos.line, rawInt pos.col, .ref c'])) →
      Q (.ref h'.objs.size) { s with heap := h'.push (kld_obj name qual params body scope clos dV ((mg "__name__").getD .none) c' ctv), toks := tk }) :
    wpAny M A (makeTail name qual params (.expr body) scope env dV .none none pos firstLine) Q E s := by
  obtain ⟨bm, ob, hbm, hne0, _, hneP, hbo, hcls, hdict, hdata⟩ := hb
  unfold makeTail
  rw [hcl, hge0]
  refine wpAny_bind (wpAny_pure ?_)
  cases clos with
  | nil =>
    simp only [List.isEmpty_nil, if_true]
    refine wpAny_bind (wpAny_pure ?_)
    refine wpAny_bind (wpAny_functionCodeX hcode (C.code hP ht) (C.tab hP) hnf fun c' h' tk hx hge hlt _ hrec htb _ => ?_)
    have hg' := hg.extBut hx hgP
    refine wpAny_bind (wpAny_builtinsFor hg' hbm hne0 (hx _ _ hneP hbo) hcls hdict hdata ?_)
    refine wpAny_bind (wpAny_nsGet hg' ?_)
    exact wpAny_bind (wpAny_pure (wpAny_newObj_type (h c' .none h' tk hx hge hlt hrec htb.2) (by size_fits)))
  | cons q r =>
    simp only [List.isEmpty_cons, Bool.false_eq_true, if_false]
    refine wpAny_bind (wpAny_newTextTuple ?_)
    refine wpAny_bind (wpAny_functionCodeX hcode ((C.keeps fun b o e => Heap.get?_push_of_some _ e).code (Heap.get?_push_of_some _ hP) ht) ((C.keeps fun b o e => Heap.get?_push_of_some _ e).tab (Heap.get?_push_of_some _ hP)) hnf fun c' h' tk hx hge hlt _ hrec htb _ => ?_)
    have hg' := (hg.push _).extBut hx hgP
    have hx' : Heap.ExtBut P s.heap h' := fun b o hb' e => hx b o hb' (Heap.get?_push_of_some _ e)
    have hge' : s.heap.objs.size ≤ c' := Nat.le_trans (by rw [Heap.size_push]; omega) hge
    refine wpAny_bind (wpAny_builtinsFor hg' hbm hne0 (hx' _ _ hneP hbo) hcls hdict hdata ?_)
    refine wpAny_bind (wpAny_nsGet hg' ?_)
    exact wpAny_bind (wpAny_pure (wpAny_newObj_type (h c' _ h' tk hx' hge' hlt hrec htb.2) (by size_fits)))
theorem kld_makeTailHit {cv : Value} (hcl : closureFor scope env = pure clos) (hge0 : env.globals = mainGlobals) (hg : s.heap.Ns mainGlobals mg) (hcode : env.code = .ref c) (C : CodeHd s.heap c P) (hP : s.heap.get? P = some (tabObj ps)) (ht : TriplesOk ps.toList)
    (hf : codeAmong pos ps.toList = some cv) (hb : s.heap.BuiltinsAt mg P)
    (h : ∀ (ctv : Value) (h' : Heap) (tk : Tok), (∀ b o, s.heap.get? b = some o → h'.get? b = some o) → s.heap.objs.size ≤ h'.objs.size →
      Q (.ref h'.objs.size) { s with heap := h'.push { cls := .type "function", data := .func (kld_fn name qual params body scope clos dV ((mg "__name__").getD .none) cv ctv) }, toks := tk }) :
    wpAny M A (makeTail name qual params (.expr body) scope env dV .none none pos firstLine) Q E s := by
  obtain ⟨bm, ob, hbm, hne0, _, hneP, hbo, hcls, hdict, hdata⟩ := hb
  unfold makeTail
  rw [hcl, hge0]
  refine wpAny_bind (wpAny_pure ?_)
  cases clos with
  | nil =>
    simp only [List.isEmpty_nil, if_true]
    refine wpAny_bind (wpAny_pure ?_)
    refine wpAny_bind (wpAny_functionCode_hit hcode (C.code hP ht) hf ?_)
    refine wpAny_bind (wpAny_builtinsFor hg hbm hne0 hbo hcls hdict hdata ?_)
    refine wpAny_bind (wpAny_nsGet hg ?_)
    exact wpAny_bind (wpAny_pure (wpAny_newObj_type (h .none s.heap s.toks (fun _ _ e => e) (Nat.le_refl _)) (by size_fits)))
  | cons q r =>
    simp only [List.isEmpty_cons, Bool.false_eq_true, if_false]
    refine wpAny_bind (wpAny_newTextTuple ?_)
    refine wpAny_bind (wpAny_functionCode_hit hcode ((C.keeps fun b o e => Heap.get?_push_of_some _ e).code (Heap.get?_push_of_some _ hP) ht) hf ?_)
    refine wpAny_bind (wpAny_builtinsFor (hg.push _) hbm hne0 (Heap.get?_push_of_some _ hbo) hcls hdict hdata ?_)
    refine wpAny_bind (wpAny_nsGet (hg.push _) ?_)
    have hsz : ∀ oT : Obj, s.heap.objs.size ≤ (s.heap.push oT).objs.size := fun oT => by rw [Heap.size_push]; omega
    exact wpAny_bind (wpAny_pure (wpAny_newObj_type (h _ _ s.toks (fun b o e => Heap.get?_push_of_some _ e) (hsz _)) (by size_fits)))
end
end PySem.W
namespace LamX
open PySem PySem.Spec PyProof.Rows L2
section
variable {X : Cx} {pins : List (Addr × Obj)} {σ : L2.St} {H : Hp} {s : Shared}
/-- the lambda's object is made, its defaults at dV -/
theorem lam_tail {T : List (Addr × Str)} {c P : Addr} {params : Arguments} {body : Expr} {scope : Scope} {pos : Pos} {dV : Value} {E : Value → Shared → Prop} {Q : Value → Shared → Prop} (I : Inv X pins σ H s) (TB : TabB X.base X.mg c P) (hcode : X.env.code = .ref c)
    (hm : (P, X.env.qual ++ "<lambda>") ∈ T) (hu : ∀ p ∈ T, p.1 = P → p.2 = X.env.qual ++ "<lambda>") (hT : Tabs T H) (hfree : ∀ y ∈ scope.names, y.2 = .free → ∃ c, X.env.cells.lookup y.1 = some c)
    (h : ∀ (f c' : Addr) (pm ctv : Value) (H1 : Hp) (s' : Shared), Inv X pins σ H1 s' → ExtN H H1 → Tabs T H1 →
      s'.heap.get? f = some (PySem.W.kld_obj "<lambda>" (X.env.qual ++ "<lambda>") params body scope (cloFrom X.env.cells scope.names []) dV pm c' ctv) → H1 f = none → f ∉ frs X.stack → H1 c' = some (CodeO c' (X.env.qual ++ "<lambda>")) → Q (.ref f) s') :
    wpAny (model X.prog X.w) X.A (makeTail "<lambda>" (X.env.qual ++ "<lambda>") params (.expr body) scope X.env dV .none none pos pos.line) Q E s := by
  obtain ⟨ps, hP, ht, ha⟩ := hT _ hm
  have bP : s.heap.BuiltinsAt X.mg P := TB.bm.keeps I.bk
  have hP' : s.heap.get? P = some { cls := .none, data := .fields ps } := I.hok P _ hP
  have nofr : ∀ f, s.heap.objs.size ≤ f → f ∉ frs X.stack := fun f hf z => by
    rcases List.mem_cons.mp (I.stkSub _ z) with e | e
    · have h1 := I.lt
      rw [← e] at h1
      exact Nat.lt_irrefl _ (Nat.lt_of_lt_of_le h1 hf)
    · exact I.nofs hf e
  cases hc : codeAmong pos ps.toList with
  | none =>
    refine PySem.W.kld_makeTail (mg := X.mg) (c := c) (P := P) (ps := ps) (closure_ok hfree) I.ok.glob (I.mod.glob.keeps I.bk) hcode (TB.code.keeps I.bk) hP' ht hc TB.gP bP fun c' ctv h' tk hx hge hlt hrec htb => ?_
    obtain ⟨c2, oc, vs, t, e2, hoc, hd, hv⟩ := hrec
    cases e2
    have hsz : s.heap.objs.size ≤ h'.objs.size := Nat.le_trans hge (Nat.le_of_lt hlt)
    have nC : H c' = none := I.hok.fresh hge
    have I1 := inv_table (t' := tk) (more := #[rawInt pos.line, rawInt pos.col, .ref c']) (h' := h'.push (PySem.W.kld_obj "<lambda>" (X.env.qual ++ "<lambda>") params body scope (cloFrom X.env.cells scope.names []) dV ((X.mg "__name__").getD .none) c' ctv)) I hP
      (fun b o hb e => Heap.get?_push_of_some _ (hx b o hb e)) (Heap.get?_push_of_some _ htb) hge ⟨oc, vs, t, Heap.get?_push_of_some _ hoc, hd, hv⟩
    have hE : ExtN H (upd (upd H P (.tbl (ps ++ #[rawInt pos.line, rawInt pos.col, .ref c']))) c' (CodeO c' (X.env.qual ++ "<lambda>"))) := fun b o e n => by
      rw [upd_ne (ne_of_none e nC), upd_ne (fun z => n ps (Option.some.inj (e.symm.trans (by rw [z]; exact hP))))]
      exact e
    have eL : (ps ++ #[rawInt pos.line, rawInt pos.col, .ref c']).toList = ps.toList ++ [rawInt pos.line, rawInt pos.col, .ref c'] := by simp
    refine h h'.objs.size c' ((X.mg "__name__").getD .none) ctv _ _ I1 hE (fun p hp => ?_) (Heap.get?_push_size _ rfl) ?_ (nofr _ hsz) upd_same
    · by_cases hb : p.1 = P
      · rw [hu p hp hb, hb]
        refine ⟨_, by rw [upd_ne (ne_of_none hP nC), upd_same], by rw [eL]; exact PySem.TriplesOk_snoc _ _ _ _ ht, fun p' cv hcv => ?_⟩
        rw [eL] at hcv
        rcases among_app _ ht hcv with z | z
        · obtain ⟨c0, e1, e2⟩ := ha p' cv z
          exact ⟨c0, e1, hE _ _ e2 codeO_ne⟩
        · exact ⟨c', z, upd_same⟩
      · obtain ⟨ps', a1, a2, a3⟩ := hT p hp
        refine ⟨ps', by rw [upd_ne (ne_of_none a1 nC), upd_ne hb]; exact a1, a2, fun p' cv hcv => ?_⟩
        obtain ⟨c0, e1, e2⟩ := a3 p' cv hcv
        exact ⟨c0, e1, hE _ _ e2 codeO_ne⟩
    · have n1 : h'.objs.size ≠ c' := Nat.ne_of_gt hlt
      have n2 : h'.objs.size ≠ P := Nat.ne_of_gt (Nat.lt_of_lt_of_le (Heap.lt_size hP') hsz)
      rw [upd_ne n1, upd_ne n2]
      exact I.hok.fresh hsz
  | some cv =>
    obtain ⟨c', e, hco⟩ := ha pos cv hc
    subst e
    refine PySem.W.kld_makeTailHit (mg := X.mg) (c := c) (P := P) (ps := ps) (closure_ok hfree) I.ok.glob (I.mod.glob.keeps I.bk) hcode (TB.code.keeps I.bk) hP' ht hc bP fun ctv h' tk hx hsz => ?_
    have I1 : Inv X pins σ H { s with heap := h'.push (PySem.W.kld_obj "<lambda>" (X.env.qual ++ "<lambda>") params body scope (cloFrom X.env.cells scope.names []) dV ((X.mg "__name__").getD .none) c' ctv), toks := tk } := I.kept fun b o e => Heap.get?_push_of_some _ (hx b o e)
    exact h h'.objs.size c' ((X.mg "__name__").getD .none) ctv H _ I1 (ExtN.refl H) hT (Heap.get?_push_size _ rfl) (I.hok.fresh hsz) (nofr _ hsz) hco
/-- lambda x=k: body -/
theorem lam_makeD {T : List (Addr × Str)} {c P : Addr} {params : Arguments} {body : Expr} {scope : Scope} {pos cp : Pos} {k : Int} {j : Nat} {E : Value → Shared → Prop} {Q : Value → Shared → Prop} (I : Inv X pins σ H s) (TB : TabB X.base X.mg c P) (hcode : X.env.code = .ref c)
    (hm : (P, X.env.qual ++ "<lambda>") ∈ T) (hu : ∀ p ∈ T, p.1 = P → p.2 = X.env.qual ++ "<lambda>") (hT : Tabs T H) (hdef : defaultsOf params X.env = ([eval (.Constant (.int k) j cp) X.env], [])) (hfree : ∀ y ∈ scope.names, y.2 = .free → ∃ c, X.env.cells.lookup y.1 = some c)
    (h : ∀ (f c' tu : Addr) (pm ctv : Value) (H1 : Hp) (s' : Shared), Inv X pins σ H1 s' → ExtN H H1 → Tabs T H1 → H1 tu = some (.tup [.int k]) →
      s'.heap.get? f = some (PySem.W.kld_obj "<lambda>" (X.env.qual ++ "<lambda>") params body scope (cloFrom X.env.cells scope.names []) (.ref tu) pm c' ctv) → H1 f = none → f ∉ frs X.stack → H1 c' = some (CodeO c' (X.env.qual ++ "<lambda>")) → Q (.ref f) s') :
    wpAny (model X.prog X.w) X.A (eval (.Lambda params body scope pos) X.env) Q E s := by
  rw [arm_eval_Lambda, hdef]
  show wpAny _ _ (do let dv ← evalAll [eval (.Constant (.int k) j cp) X.env]; let kdv ← holding dv (evalAllOpt []); makeFunction "<lambda>" (X.env.qual ++ "<lambda>") params (.expr body) scope X.env dv kdv [] pos pos.line) Q E s
  refine wpAny_bind (wpAny_evalAll_cons (thn ((pe_int (X := X) (i := k) (j := j) (pos := cp)).run pins s σ H (fun v H' => v = .int k ∧ H' = H) I ⟨rfl, rfl⟩) fun u s1 ⟨v, H1, I1, r1, e1, e2⟩ => wpAny_evalAll_nil ?_))
  subst e1
  rw [e2] at I1
  refine wpAny_bind (wpAny_holding (wpAny_pure ?_))
  rw [makeFunction_eq]
  simp only [List.zip_nil_right, List.filterMap_nil, List.isEmpty_nil, List.isEmpty_cons, if_true, pure_bind, Bool.false_eq_true, if_false]
  refine wpAny_bind (wpAny_newTextTuple ?_)
  have nt : H s1.heap.objs.size = none := I1.hok.fresh (Nat.le_refl _)
  have I2 : Inv X pins σ (upd H s1.heap.objs.size (.tup [.int k])) { s1 with heap := s1.heap.push { cls := .type "tuple", data := .seq [u].toArray } } :=
    I1.laid (t' := s1.toks) (a := s1.heap.objs.size) (o := .tup [.int k]) (fun b u q => Heap.get?_push_of_some _ q) (Nat.le_refl _) ⟨by show 1 ≤ sizeLine; decide, [u], .cons r1 .nil, _, Heap.get?_push_size _ rfl, rfl, _, rfl⟩
  have eH : ∀ b o, H b = some o → upd H s1.heap.objs.size (.tup [.int k]) b = some o := fun b o e => by rw [upd_ne (ne_of_none e nt)]; exact e
  refine lam_tail I2 TB hcode hm hu (hT.ext eH) hfree fun f c' pm ctv H3 s3 I3 hE hT3 ho hn hfr hc => ?_
  have ht : H3 s1.heap.objs.size = some (.tup [.int k]) := hE _ _ upd_same fun ps z => by cases z
  exact h f c' s1.heap.objs.size pm ctv H3 s3 I3 ((ExtN.of eH).trans hE) hT3 ht ho hn hfr hc
end
end LamX
end
section
set_option maxHeartbeats 4000000
namespace LamX
open PySem PySem.Spec PyProof.Rows L2
/-- one parameter with a default, no further name of its own -/
structure LamD (N : List Str) (sc scope : Scope) (px : Str) : Prop where
  kind : scope.kind = .function
  co : scope.isCoroutine = false
  gen : scope.isGenerator = false
  own : ∀ y ∈ scope.names, y.2 ≠ .cell ∧ (y.2 = .local → y.1 ∉ N)
  par : scope.names.lookup px = some .local
  free : ∀ y ∈ scope.names, y.2 = .free → sc.names.lookup y.1 = some .cell ∨ sc.names.lookup y.1 = some .free
def lamDB (N : List Str) (sc scope : Scope) (px : Str) : Bool :=
  decide (scope.kind = .function) && (!scope.isCoroutine && (!scope.isGenerator && (decide (scope.names.lookup px = some .local) &&
    scope.names.all fun y => !decide (y.2 = .cell) && ((!decide (y.2 = .local) || !N.contains y.1) && (!decide (y.2 = .free) || decide (sc.names.lookup y.1 = some .cell) || decide (sc.names.lookup y.1 = some .free))))))
theorem lamD_by {N : List Str} {sc scope : Scope} {px : Str} (h : lamDB N sc scope px = true) : LamD N sc scope px := by
  unfold lamDB at h
  simp only [Bool.and_eq_true, Bool.or_eq_true, Bool.not_eq_true', decide_eq_true_eq, decide_eq_false_iff_not, List.all_eq_true] at h
  obtain ⟨h1, h2, h3, h4, h5⟩ := h
  refine ⟨h1, h2, h3, fun y hy => ⟨(h5 y hy).1, fun e => ?_⟩, h4, fun y hy e => ?_⟩
  · rcases (h5 y hy).2.1 with z | z
    · exact absurd e z
    · intro m
      rw [List.contains_iff_mem.mpr m] at z
      cases z
  · rcases (h5 y hy).2.2 with (z | z) | z
    · exact absurd e z
    · exact .inl z
    · exact .inr z
theorem LamD.has {X : Cx} {scope : Scope} {px : Str} (L : LamD X.N X.env.scope scope px) (ok : X.Ok) : ∀ y ∈ scope.names, y.2 = .free → ∃ c, X.env.cells.lookup y.1 = some c := fun y hy e => by
  rcases L.free y hy e with k | k
  · exact ok.has _ (.inl k)
  · exact ok.has _ (.inr k)
section
variable {X : Cx} {pins : List (Addr × Obj)} {σ : L2.St} {H HZ : Hp} {s s1 : Shared}
theorem lam_startD {A : Around} {outer : List Env} {E : XK} {scope : Scope} {px : Str} {u : Value} {f c' : Addr} {h₁ : Heap} {tk : Nat} (I : Inv X pins σ H s) (L : LamD X.N X.env.scope scope px) (e0 : Env0 X.prog X.w X.K X.mg X.base A outer s1 HZ) (hd : A.handled = none)
    (un : Un (frs X.stack) [] H HZ s.heap s1.heap) (hns : h₁.Ns s1.heap.objs.size fun y => ([(px, u)] : List (Str × Value)).reverse.lookup y) (kp : ∀ b o, s1.heap.get? b = some o → h₁.get? b = some o) :
    Inv (lamCx X A outer s1 HZ E scope f c') [] σ HZ { s1 with heap := h₁, toks := tk } := by
  have hfree := L.has I.ok
  have cm : ∀ {y c}, (cloFrom X.env.cells scope.names []).lookup y = some c → X.env.cells.lookup y = some c := fun {y c} e => by
    rcases cloFrom_mem (PySem.mem_of_lookup e) with hm | ⟨h1, h2⟩
    · cases hm
    · obtain ⟨c1, hc⟩ := hfree _ h1 rfl
      have hc : X.env.cells.lookup y = some c1 := hc
      have e2 : c = c1 := by
        rw [h2, hc] <;> rfl
      rw [e2]
      exact hc
  have look : ∀ {y}, scope.names.lookup y = some .free → ∃ c, (cloFrom X.env.cells scope.names []).lookup y = some c := fun {y} hl => by
    have hy : (y, NameKind.free) ∈ scope.names := PySem.mem_of_lookup hl
    exact mem_lookup (cloFrom_has (cells := X.env.cells) (acc := []) hy)
  have cellK : ∀ {c : Addr} {v : Option Value}, H c = none → s.heap.IsCell c v → h₁.IsCell c v := fun {c v} n ⟨o, ho, hd⟩ => by
    obtain ⟨sl, q⟩ := un.any ho n (by simp)
    exact ⟨_, kp _ _ q, hd⟩
  have noA : ∀ b : Addr, b ∉ (lamCx X A outer s1 HZ E scope f c').ex := fun b z => absurd (show b ∈ ([] : List Addr) from z) (by simp)
  refine ⟨⟨e0.mod, L.kind, rfl, rfl, Nat.le_refl _, fun y z c e1 e2 => I.ok.inj y z c (cm e1) (cm e2), fun y hy => ?_, fun y c z _ => ?_, fun _ => hd, Around.frames_deeper e0.frames, .inr ⟨rfl, rfl⟩, fun b z => absurd z (noA b), e0.bs, e0.bsz, fun b _ _ => noA b,
      fun b z => absurd z (noA b), e0.funs, e0.frf⟩,
    rfl, e0.bare, Un.kept kp, ⟨_, hns, fun i y v e1 e2 e3 => ?_⟩, fun y c e => ?_, e0.hok.fresh (Nat.le_refl _), fun y c e => ?_, fun q hq => absurd (show q ∈ ([] : List (Addr × Obj)) ++ [] from hq) (by simp), e0.hok.kept kp, I.len⟩
  · have hy : scope.names.lookup y = some .cell ∨ scope.names.lookup y = some .free := hy
    rcases hy with hy | hy
    · exact absurd rfl (L.own _ (PySem.mem_of_lookup hy)).1
    · exact look hy
  · have z : false = true := z
    cases z
  · have e3 : Vis scope y := e3
    rcases e3 with k | k | k
    · exact absurd (List.mem_of_getElem? (show X.N[i]? = some y from e1)) ((L.own _ (PySem.mem_of_lookup k)).2 rfl)
    · exact absurd rfl (L.own _ (PySem.mem_of_lookup k)).1
    · obtain ⟨m, hn, hl⟩ := I.loc
      have hvis : Vis X.env.scope y := (L.free _ (PySem.mem_of_lookup k) rfl).elim (fun k => .inr (.inl k)) (fun k => .inr (.inr k))
      obtain ⟨w', r, q⟩ := hl i y v e1 e2 hvis
      obtain ⟨c2, h2⟩ := look k
      refine ⟨w', r, .inr ⟨.inr k, c2, h2, ?_⟩⟩
      have c1 := cm h2
      rcases q with ⟨k', _⟩ | ⟨_, c3, e', z⟩
      · have k' : X.env.scope.names.lookup y = some .local := k'
        rcases L.free _ (PySem.mem_of_lookup k) rfl with k2 | k2 <;> rw [show X.env.scope.names.lookup y = _ from k2] at k' <;> cases k'
      · rw [c1] at e'
        cases e'
        exact cellK (I.freeC y _ c1) z
  · obtain ⟨w', z⟩ := I.cell y c (cm e)
    exact ⟨w', cellK (I.freeC y c (cm e)) z⟩
  · obtain ⟨v, o, ho, hd⟩ := I.cell y c (cm e)
    exact un.free c o ho (I.freeC y c (cm e)) (by simp)
/-- x(), in the def that got the lambda -/
theorem pe_actD {CXg : CXT} {Eg : XK} {Ng : List Str} {qg : Str} {sg : Scope} {g f c' tu : Addr} {px : Str} {kd : Int} {cdg pm ctv : Value} {params : Arguments} {body : Expr} {scope : Scope} {k i : Nat} {a : Str} {pn : List (Addr × Obj)} {xe : Value → Shared → Prop} {W : WX} {E : XK} {tb : TE} {p1 p2 : Pos}
    (I : Inv X pins σ H s) (L : LamD X.N X.env.scope scope px) (hf : s.heap.get? f = some (PySem.W.kld_obj "<lambda>" (X.env.qual ++ "<lambda>") params body scope (cloFrom X.env.cells scope.names []) (.ref tu) pm c' ctv)) (hfn : H f = none) (hfr : f ∉ frs X.stack)
    (hbind : ∀ u : Value, ∃ kf, bindArgs (PySem.W.kld_fn "<lambda>" (X.env.qual ++ "<lambda>") params body scope (cloFrom X.env.cells scope.names []) (.ref tu) pm (.ref c') ctv) ⟨[], []⟩ = seqItems? (.ref tu) >>= kf ∧ kf (some #[u]) = pure [(px, u)])
    (tk : Takes ((cxOf CXg X.prog X.w X.K X.mg X.base Ng qg sg g cdg X.A X.stack s H Eg).tr pn xe) W) (hW : ∀ cls d σ' H', E cls d H' → W cls d σ' H') (hr : Room (k + 1) (X.A.deeper (envOfC qg sg s.heap.objs.size g cdg)))
    (hbody : ∀ (A : Around) (outer : List Env) (s : Shared) (H : Hp), Room k (A.deeper (lamEnv X scope s.heap.objs.size f c')) → PE (lamCx X A outer s H E scope f c') body tb)
    (hN : Ng[i]? = some a) (hv : Vis sg a) (hd : (a == ("__debug__" : Str)) = false := by decide) (hcd : (a == ("__classdict__" : Str)) = false := by decide) :
    PE ((cxOf CXg X.prog X.w X.K X.mg X.base Ng qg sg g cdg X.A X.stack s H Eg).tr pn xe) (.Call (.Name a p1) [] [] p2)
      (fun σZ HZ Q => σZ[i]? = some (some (.ref f)) ∧ HZ c' = some (CodeO c' (X.env.qual ++ "<lambda>")) ∧ (HZ tu = some (.tup [.int kd]) ∧ tb σ HZ Q)) := by
  refine ⟨fun pinsZ sZ σZ HZ Q IZ h => ?_⟩
  obtain ⟨hs, hc, htu, ht⟩ := h
  refine wpAny_Call_Name_kw (thn ((pe_var (pos := p1) (i := i) hN hv hd hcd).run pinsZ sZ σZ HZ (fun v H1 => v = .ref f ∧ H1 = HZ) IZ ⟨.ref f, hs, rfl, rfl⟩) fun u s1 ⟨v, H1, I1, r1, q1⟩ => ?_)
  obtain ⟨ev, eH⟩ := q1
  subst ev
  rw [eH] at I1
  obtain rfl : u = Value.ref f := r1
  have of1 : s1.heap.get? f = some (PySem.W.kld_obj "<lambda>" (X.env.qual ++ "<lambda>") params body scope (cloFrom X.env.cells scope.names []) (.ref tu) pm c' ctv) := I1.base.keep f _ hf hfn hfr (fun z => nomatch (show f ∈ ([] : List Addr) from z))
  refine PySem.W.callWith_F0 ⟨_, _, _, _, of1⟩ ?_
  have un : Un (frs X.stack) [] H HZ s.heap s1.heap := I1.base
  obtain ⟨⟨oc, vs, t, hoc, hdc, hvc⟩, _, _⟩ := I1.hok c' _ hc
  have rc : codeAny (model X.prog X.w) (X.A.deeper (envOfC qg sg s.heap.objs.size g cdg)) (.call (.ref f) ⟨[], []⟩) (CR (L2.CX X.prog X.w) (envOfC qg sg s.heap.objs.size g cdg :: X.stack) X.prog X.w HZ s1 Q E) s1 := by
    refine PySem.W.kla_callFunE hr.depth of1 rfl L.co L.gen rfl ⟨c', oc, vs, t, rfl, hoc, hdc, hvc⟩ ?_
    obtain ⟨its, rv, hT, hz⟩ := I1.tuple (SqT.of htu)
    obtain ⟨ot, hot, _, n, hdt⟩ := hT
    cases rv with
    | @cons _ u _ us ru rn =>
      cases rn
      obtain ⟨kf, hb1, hb2⟩ := hbind u
      refine BindsTo.of_defaults (fd := PySem.W.kld_fn "<lambda>" (X.env.qual ++ "<lambda>") params body scope (cloFrom X.env.cells scope.names []) (.ref tu) pm (.ref c') ctv) (args := ⟨[], []⟩) (o := ot) (items := #[u]) rfl hot hdt hb1 hb2 _ _ _ _ ?_
      refine wpAny_newFunctionEnv (fun y hy => (L.own y hy).1) (fun y hy => ?_) (fun h₁ hns hsb => ⟨I1.nolimit.fresh _ hsb, ?_⟩) L.kind
      · rw [List.mem_singleton.mp hy]
        exact L.par
      show codeAny _ _ (.expr body (lamEnv X scope s1.heap.objs.size f c')) _ _
      have kp : ∀ b o, s1.heap.get? b = some o → h₁.get? b = some o := fun b o e => hsb.extBut b o (Nat.ne_of_lt (Heap.lt_size e)) (Heap.get?_push_of_some _ e)
      have J : Inv (lamCx X (X.A.deeper (envOfC qg sg s.heap.objs.size g cdg)) (envOfC qg sg s.heap.objs.size g cdg :: X.stack) s1 HZ E scope f c') [] σ HZ { s1 with heap := h₁, toks := s1.toks + ([(px, u)] : List (Str × Value)).length } :=
        lam_startD I L I1.env0 hr.hd un hns kp
      refine PySem.W.kla_codeExpr (wpAny_mono ((hbody _ _ s1 HZ (hr.deeper _)).run [] _ _ HZ Q J ht) (fun v s' hq => ?_) fun e s' hq => hq)
      obtain ⟨w', H', J', rv, q⟩ := hq
      exact ⟨w', H', J'.os, J'.bare, J'.base, J'.hok, rv, q⟩
  have hx : Passes (L2.CX X.prog X.w) ((cxOf CXg X.prog X.w X.K X.mg X.base Ng qg sg g cdg X.A X.stack s H Eg).tr pn xe) E := passes_call tk hW
  refine wpAny_call (codeAny_mono rc fun r s' hq => ?_)
  cases r with
  | error e => exact hx pinsZ σZ HZ s1 e s' I1 hq
  | ok fl =>
    cases fl with
    | ret u => exact I1.after hq
    | next => exact False.elim hq
    | brk => exact False.elim hq
    | cont => exact False.elim hq
end
/-- x(lambda y=k: body): T's tables, the tuple of the default -/
def tLamD (T : List (Addr × Str)) (kd : Int) (TT : (XK → Hp → VK → Prop) → Hp → VK → Prop) (t : XK → TE) : TE := fun σ H Q => Tabs T H ∧ ∀ H1 tu, ExtN H H1 → Tabs T H1 → H1 tu = some (.tup [.int kd]) → TT (fun E H' Q' => H' tu = some (.tup [.int kd]) ∧ t E σ H' Q') H1 Q
section
variable {X : Cx}
theorem pe_lamcallD {T : List (Addr × Str)} {TT : (XK → Hp → VK → Prop) → Hp → VK → Prop} {x a px : Str} {g c P : Addr} {k j : Nat} {kd : Int} {pg : Arguments} {bg : List Stmt} {sg : Scope} {dV kV doc pm cdv ct oc : Value} {an od : Option Addr} {osl : Array (Option Value)} {Ng : List Str}
    {params : Arguments} {body : Expr} {scope : Scope} {t : XK → TE} {p lpos cp pos : Pos} (hg : Gl X x) (hm : X.mg x = some (.ref g)) (hk : PySem.W.keepIn X.K (.ref g) = true)
    (lk : X.K.lookup g = some ⟨oc, od, .func (PySem.W.fnOf x x pg bg sg dV kV doc pm an cdv ct), osl⟩) (hcg : PySem.W.codeIn X.K cdv x = true) (hb : L2.Binds X.K (PySem.W.fnOf x x pg bg sg dV kV doc pm an cdv ct) [a] []) (Sg : FnScope Ng [a] sg) (hNg : Ng[0]? = some a) (hva : Vis sg a)
    (hG : GivesTo X Ng x sg g cdv bg a (X.env.qual ++ "<lambda>") TT)
    (TB : TabB X.base X.mg c P) (hcode : X.env.code = .ref c) (hmT : (P, X.env.qual ++ "<lambda>") ∈ T) (hu : ∀ p ∈ T, p.1 = P → p.2 = X.env.qual ++ "<lambda>") (hr : Room (k + 2) X.A) (L : LamD X.N X.env.scope scope px) (hdef : defaultsOf params X.env = ([eval (.Constant (.int kd) j cp) X.env], []))
    (hbind : ∀ (q : Str) (cl : List (Str × Addr)) (tu : Addr) (pm cv ctv u : Value), ∃ kf, bindArgs (PySem.W.kld_fn "<lambda>" q params body scope cl (.ref tu) pm cv ctv) ⟨[], []⟩ = seqItems? (.ref tu) >>= kf ∧ kf (some #[u]) = pure [(px, u)])
    (hbody : ∀ (A : Around) (outer : List Env) (s : Shared) (H : Hp) (E : XK) (f c' : Addr), Room k (A.deeper (lamEnv X scope s.heap.objs.size f c')) → PE (lamCx X A outer s H E scope f c') body (t E))
    (hdb : (x == ("__debug__" : Str)) = false := by decide) (hd : (a == ("__debug__" : Str)) = false := by decide) (hcd : (a == ("__classdict__" : Str)) = false := by decide) :
    PE X (.Call (.Name x p) [.Lambda params body scope lpos] [] pos) (tLamD T kd TT t) := by
  refine ⟨fun pins s σ H Q I h => ?_⟩
  obtain ⟨hT, h⟩ := h
  refine wpAny_Call_Name_kw (ld_glob I hg hm ?_ hdb)
  refine PySem.W.callWith_K (h₀ := X.base) I.ok.mod.kin hk ?_ (by rfl) (by rfl)
  show wpAny _ _ (spliced ((false, eval (.Lambda params body scope lpos) X.env) :: backTo pos (starEach [] X.env))) _ _ s
  refine Calls.spliced_cons (lam_makeD I TB hcode hmT hu hT hdef (L.has I.ok) fun f c' tu pm' ctv H1 s' I1 eN T1 htu hf hfn hfr hco => ?_)
  refine Calls.spliced_nil ⟨I1.kIn, ?_⟩
  have rc : codeAny (model X.prog X.w) X.A (.call (.ref g) ⟨[.ref f], []⟩) (CR C8.CX0 X.stack X.prog X.w H1 s' Q C8.E0) s' := by
    refine run_ofS (N := Ng) (ps := [a]) (us := [.ref f]) (vs := [.ref f]) lk hcg Sg hr I1.env0 (hb s' [.ref f] I1.kIn rfl) (.cons rfl .nil) rfl fun hr' => ?_
    obtain ⟨t', ht', hq'⟩ := hG f c' s' H1 Q (fun E H' Q' => H' tu = some (.tup [.int kd]) ∧ t E σ H' Q') (fun W pn xe E p1 p2 tk hW => pe_actD (i := 0) I1 L hf hfn hfr (fun u => hbind _ _ _ _ _ _ u) tk hW hr' (fun A outer s H hr2 => hbody A outer s H E f c' hr2) hNg hva hd hcd) hco (h H1 tu eN T1 htu)
    exact ⟨t', ht'.nox, hq'⟩
  refine wpAny_call (codeAny_mono rc fun r s2 hq => ?_)
  cases r with
  | error e => exact (show False from hq).elim
  | ok fl =>
    cases fl with
    | ret u => exact I1.after hq
    | next => exact False.elim hq
    | brk => exact False.elim hq
    | cont => exact False.elim hq
end
end LamX
end
section
set_option maxHeartbeats 4000000
namespace Kx
open PySem PySem.Spec PyProof.Rows L2 RZ
/-! ### a step told, sizes asked -/
def spIst (K : PySem.W.Frag) (S : Addr) : Sp := fun vs H Q _ => ∃ (x y : V) (qs : List Rat), vs = [x, y] ∧ StAt K S H x qs ∧ Ls K H y (0 :: qs) ∧ ∀ H', Same H H' → Q (.bl true) H'
def fitB (q : Rat) : Bool := decide (q.num.natAbs < 10 ^ 60) && decide (q.den < 10 ^ 60)
def spFts (K : PySem.W.Frag) : Sp := fun vs H Q _ => ∃ (x : V) (us : List Rat), vs = [x] ∧ Ls K H x us ∧ us.length ≤ 40 ∧ ∀ H', Same H H' → Q (.bl (us.all fitB)) H'
theorem fit_of {us : List Rat} (h : us.all fitB = true) : ∀ q ∈ us, FitQ q := fun q hq => by
  have := List.all_eq_true.mp h q hq
  unfold fitB at this
  rw [Bool.and_eq_true, decide_eq_true_eq, decide_eq_true_eq] at this
  have b : (10 : Nat) ^ 60 < 2 ^ 200 := by decide
  exact ⟨Nat.lt_trans this.1 b, Nat.lt_trans this.2 b⟩
section
variable {P : Program} {w : World} {K : PySem.W.Frag} {mg : Str → Option Value} {base : Heap} {f C S CF CO o0 : Addr} {fd : FuncData}
theorem scIst : FnScope ["_law_told", "_law_f"] ["_law_told", "_law_f"] (defScope L_is_step) := ⟨rfl, rfl, rfl, by decide +kernel, rfl, by decide +kernel, by decide +kernel⟩
theorem ok_isstep (F : Fun K "_law_is_step" "_law_is_step" L_is_step f fd) (k : StepK P w K mg base C S CF CO) (mn : mg "len" = none) (UN : MUse P w K mg base CX0 1 S "numbers" ["self"] (spNuS K S) []) (US : Use P w K mg base CX0 5 "_law_same" ["_law_found", "_law_due"] (spLike K 3) []) : FnOk P w K mg base CX0 6 f fd ["_law_told", "_law_f"] (spIst K S) := by
  refine F.ok scIst (fun vs H Q E h => ?_) (fun cdv A outer s H vs Q E hr h => ?_)
  · obtain ⟨x, y, qs, rfl, _⟩ := h
    rfl
  obtain ⟨u, y, qs, rfl, hR, hL, q⟩ := h
  have hr1 := hr.mono (show 1 ≤ 5 by decide)
  refine ⟨_, pss_one (ps_ret (pe_use US hr rfl pass0 (pa_cons (pe_lst (pa_cons (pe_mu0 UN (pv 0) hr1 pass0) (pa_cons (pe_fld (pv 0) rfl) (pa_cons (pe_fld (pv 0) rfl) pa_nil))))
    (pa_cons (pe_lst (pa_cons (pe_slice sl_list (pv 1) (po_some pe_int) po_none) (pa_cons (pe_op op_sub (pe_callB call_len_seq rfl mn PySem.boot_len (pa_cons (pv 1) pa_nil)) pe_int) (pa_cons (pe_ix ix_list (pv 1) pe_int (fun _ _ => rfl)) pa_nil)))) pa_nil)))), ?_⟩
  obtain ⟨l2, l24⟩ := hR.le
  obtain ⟨x, dx, fs, x0, rfl, hx, fl, nq, fn, _⟩ := hR.ld
  obtain ⟨x', dx', _, _, gs, e', hx', _, _, _, fo⟩ := hR.nb
  obtain rfl := V.ref.inj e'
  rw [hx] at hx'
  cases hx'
  obtain ⟨a, ys, rfl, ha, ny⟩ := id hL
  have ly : ys.length = qs.length + 1 := ny.1
  obtain ⟨y1, ey1, ny1⟩ := ny.get' (i := 1) (by rw [List.length_cons]; omega)
  refine ⟨_, rfl, x, dx, fs, rfl, hx, fn, .ref x, qs, rfl, hR, fun t H1 zs s1 nt et nz => ?_⟩
  refine ⟨_, rfl, x, S, dx, _, _, rfl, s1 _ _ hx, k.c, k.nA _ (by simp [stN]), fo, _, rfl, x, S, dx, _, _, rfl, s1 _ _ hx, k.c, k.nA _ (by simp [stN]), fl, (by show 3 ≤ sizeLine; decide), fun t1 n1 => ?_⟩
  have g1 := new_same n1 (.lst [.ref t, .int (qs.length : Int), x0])
  have ha1 := g1 _ _ (s1 _ _ ha)
  refine ⟨_, rfl, 1, rfl, a, ys, rfl, SqL.of ha1, fun p np => ?_⟩
  rw [show cutV ys (some 1) none = ys.drop 1 from cut_drop ys 1]
  have g2 := new_same np (.lst (ys.drop 1))
  refine ⟨_, rfl, a, ys, rfl, .inl (SqL.of (g2 _ _ ha1)), (ys.length : Nat), 1, rfl, rfl, _, rfl, a, ys, 1, y1, rfl, rfl, SqL.of (g2 _ _ ha1), at_of (j := 1) rfl ey1, (by show 3 ≤ sizeLine; decide), fun t2 n2 => ?_⟩
  have g3 := new_same n2 (.lst [.ref p, .int (((ys.length : Nat) : Int) - 1), y1])
  have sA := s1.trans (g1.trans (g2.trans g3))
  refine ⟨_, _, rfl, Lk.lst (n := 2) ((g2.trans g3) _ _ upd_same) upd_same (by show 3 ≤ 60; decide) ?_, fun H' s' => q _ (sA.trans s')⟩
  have nq1 : Nq K H y1 (serS qs 1) := by
    have e : (0 :: qs)[1]'(by rw [List.length_cons]; omega) = serS qs 1 := by
      show qs[0]'(by omega) = qs.getD 0 0
      rw [List.getD_eq_getElem?_getD, List.getElem?_eq_getElem (by omega)]
      rfl
    rw [← e]
    exact ny1
  refine .cons (Ls.lk (n := 0) ⟨t, zs, rfl, (g1.trans (g2.trans g3)) _ _ et, nz.same (g1.trans (g2.trans g3))⟩ ⟨p, ys.drop 1, rfl, g3 _ _ upd_same, (ny.drop 1).same sA⟩ (by omega)) (.cons ?_ (.cons (Nq.lk (n := 1) (nq.same sA) (nq1.same sA)) .nil))
  show Lk K 2 _ (.int (qs.length : Int)) (.int (((ys.length : Nat) : Int) - 1))
  rw [show ((ys.length : Nat) : Int) - 1 = (qs.length : Int) by omega]
  exact Lk.flat rfl
end
end Kx
end
section
set_option maxHeartbeats 4000000
namespace Kx
open PySem PySem.Spec PyProof.Rows L2 RZ
/-! ### the law's flow -/
def spPrd (K : PySem.W.Frag) : Sp := fun vs H Q _ => ∃ (x y : V) (us fs : List Rat) (L B M C : Nat), vs = [x, y] ∧ Ls K H x us ∧ Ls K H y fs ∧ us.length = fs.length ∧ us.length ≤ 28 ∧ SmL L ∧ B ≤ 20000 ∧ SmL M ∧ C ≤ 20000 ∧ L * M < 2 ^ 9000 ∧ AllD L B us ∧ AllD M C fs ∧ GivesL K H Q (mulL us fs)
abbrev nPd : List Str := ["_law_u", "_law_w", "_law_xs", "_law_den_x", "_law_ys", "_law_den_y", "_law_n"]
section
variable {P : Program} {w : World} {K : PySem.W.Frag} {mg : Str → Option Value} {base : Heap} {f C S CF CO CN o0 o1 : Addr} {fd : FuncData} {H : Hp}
theorem scPd : FnScope nPd ["_law_u", "_law_w"] (defScope L_prod) := ⟨rfl, rfl, rfl, by decide +kernel, rfl, by decide +kernel, by decide +kernel⟩
theorem ok_lprod (F : Fun K "_law_prod" "_law_prod" L_prod f fd) (UW : Use P w K mg base CX0 1 "_law_whole" ["_law_u"] (spOol K) []) (UC : Use P w K mg base CX0 1 "_law_conv" ["_law_xs", "_law_ys"] (spConv K) []) (UL : Use P w K mg base CX0 1 "_law_low" ["_law_num_here", "_law_den"] spLowQ []) : FnOk P w K mg base CX0 2 f fd ["_law_u", "_law_w"] (spPrd K) := by
  refine F.ok scPd (fun vs H Q E h => ?_) (fun cdv A outer s H vs Q E hr h => ?_)
  · obtain ⟨x, y, us, fs, L, B, M, C, rfl, _⟩ := h
    rfl
  obtain ⟨x, y, us, fs, L, B, M, C, rfl, lx, ly, le, l28, sL, lB, sM, lC, lm, zu, zf, q⟩ := h
  refine ⟨_, pss_cons (ps_asg (pe_use UW hr rfl pass0 (pa_cons (pv 0) pa_nil)) (pg_tup rfl (pgs_cons (pg_name (i := 2) scPd.nd rfl (Or.inl rfl)) (pgs_cons (pg_name (i := 3) scPd.nd rfl (Or.inr rfl)) pgs_nil))))
    (pss_cons (ps_asg (pe_use UW hr rfl pass0 (pa_cons (pv 1) pa_nil)) (pg_tup rfl (pgs_cons (pg_name (i := 4) scPd.nd rfl (Or.inl rfl)) (pgs_cons (pg_name (i := 5) scPd.nd rfl (Or.inr rfl)) pgs_nil))))
    (pss_one (ps_ret (pe_lc (own := [("_law_n", 6)]) (g := gName 6) (tt := tYes) rfl scPd.nd (pi_list (pe_use UC hr rfl pass0 (pa_cons (pv 2) (pa_cons (pv 4) pa_nil)))) (blkOk_by (N := nPd) (sc := defScope L_prod) (by decide +kernel))
      (fun _ _ _ _ _ => pg_name (i := 6) scPd.nd rfl (Or.inl rfl)) (fun _ _ _ _ _ => pts_nil)
      (fun _ _ _ _ _ => pe_use UL hr rfl pass0 (pa_cons (pv 6) (pa_cons (pe_op op_mulW (pv 3) (pv 5)) pa_nil))))))), ?_⟩
  refine ⟨_, rfl, x, us, L, B, rfl, lx, by omega, sL, by omega, zu, fun b1 p1 H1 s1 n1 e1 t1 => ?_⟩
  refine ⟨p1, _, rfl, SqT.of t1, rfl, _, _, rfl, _, _, rfl, rfl, ?_⟩
  refine ⟨_, rfl, y, fs, M, C, rfl, ly.same s1, by omega, sM, by omega, zf, fun b2 p2 H2 s2 n2 e2 t2 => ?_⟩
  refine ⟨p2, _, rfl, SqT.of t2, rfl, _, _, rfl, _, _, rfl, rfl, ?_⟩
  have f1 := s2 _ _ e1
  have s12 := s1.trans s2
  have ux := upL_part zu sL.1
  have uy := upL_part zf sM.1
  have vx := upL_val us
  have vy := upL_val fs
  have dxp := lcmL_pos us 1 (by decide)
  have dyp := lcmL_pos fs 1 (by decide)
  have dxl : lcmL 1 us ≤ L := Nat.le_of_dvd sL.1 (AllD.lcm sL.1 us 1 zu (Nat.one_dvd _))
  have dyl : lcmL 1 fs ≤ M := Nat.le_of_dvd sM.1 (AllD.lcm sM.1 fs 1 zf (Nat.one_dvd _))
  have lux : (upL (lcmL 1 us) us).length = us.length := upL_len _ _
  have luy : (upL (lcmL 1 fs) fs).length = fs.length := upL_len _ _
  generalize upL (lcmL 1 us) us = xi at *
  generalize upL (lcmL 1 fs) fs = yi at *
  generalize lcmL 1 us = dx at *
  generalize lcmL 1 fs = dy at *
  have dxy : dx * dy < 2 ^ 9000 := Nat.lt_of_le_of_lt (Nat.mul_le_mul dxl dyl) lm
  refine ⟨_, rfl, _, rfl, b1, b2, xi, yi, B, C, rfl, SqL.of f1, SqL.of e2, by omega, by omega, ux, uy, by omega, fun c H3 s3 nc ec => ?_⟩
  have lcv : (cvI xi yi).length = us.length := by rw [cvI_len, lux]
  refine ⟨c, rfl, ⟨_, SqL.of ec⟩, fun D nD => ?_⟩
  have s13 := s12.trans s3
  refine lc_nums (K := K) (walk_list (K := K) (a := c) (xs := (cvI xi yi).map V.int)) (mulL us fs) (by rw [mulL_ser, toL_len, List.length_map, lcv]) nD (by rw [List.length_map, lcv]; omega) (fun H' s => SqL.of (s _ _ ec)) ?_ (fun H' zs s h m => q D H' zs (s13.trans s) (s13.free nD) h m)
  rintro i r z H4 H5 k hq s4 ⟨rfl, hz⟩ hk
  have hi : i < us.length := by
    rcases Nat.lt_or_ge i us.length with h | h
    · exact h
    · rw [List.getElem?_eq_none (by rw [List.length_map, lcv]; exact h)] at hz; cases hz
  rw [int_at (by omega)] at hz
  obtain rfl := Option.some.inj hz
  rw [mulL_ser, toL_get hi] at hq
  obtain rfl := Option.some.inj hq
  have val : (((cvI xi yi).getD i 0 : Int) : Rat) = mulS (ser us) (ser fs) i * ((dx * dy : Nat) : Rat) := by
    have e1 : (cvI xi yi).getD i 0 = cvp xi yi i (i + 1) := by
      unfold cvI
      rw [List.getD_eq_getElem?_getD, List.getElem?_map, List.getElem?_range (by omega)]
      exact cvp_stay xi yi i _ (by omega)
    rw [e1, cvp_val (h := ser us) (f := ser fs) (d := ((dx : Nat) : Rat)) (e := ((dy : Nat) : Rat)) (fun a _ => vx a) vy (i + 1) (Nat.le_refl _), ← Rat.natCast_mul]
    rfl
  have pos : 0 < dx * dy := Nat.mul_pos dxp dyp
  refine ⟨rfl, _, rfl, _, rfl, _, rfl, (dx : Nat), (dy : Nat), rfl, rfl, ?_, ?_⟩
  · exact wide_mul (a := 4450) (b := 4450) (by rw [Int.natAbs_natCast]; exact Nat.lt_of_le_of_lt dxl sL.2) (by rw [Int.natAbs_natCast]; exact Nat.lt_of_le_of_lt dyl sM.2) (by decide) (by decide) (by decide)
  have ep : ((dx : Nat) : Int) * (dy : Nat) = ((dx * dy : Nat) : Int) := (Int.natCast_mul _ _).symm
  refine ⟨(cvI xi yi).getD i 0, ((dx : Nat) : Int) * (dy : Nat), rfl, by rw [ep]; omega, ?_, fun t H6 s6 n6 e6 => ?_⟩
  · rw [ep]
    exact PySem.Flt.log2_lt_of (by decide) (by rw [Int.natAbs_natCast]; exact dxy)
  · rw [ep, div_of' pos val] at e6
    exact hk _ _ s6 (.at e6)
end
end Kx
end
section
set_option maxHeartbeats 4000000
namespace Kx
open PySem PySem.Spec PyProof.Rows L2 RZ
section
variable {P : Program} {w : World} {K : PySem.W.Frag} {mg : Str → Option Value} {base : Heap} {f o0 : Addr} {fd : FuncData}
end
section
variable {P : Program} {w : World} {K : PySem.W.Frag} {mg : Str → Option Value} {base : Heap} {f fL : Addr} {fd fdL : FuncData}
theorem scSub : FnScope nPQ ["_law_p", "_law_q"] (defScope L_sub) := ⟨rfl, rfl, rfl, by decide +kernel, rfl, by decide +kernel, by decide +kernel⟩
theorem ok_subQ (F : Fun K "_law_sub" "_law_sub" L_sub f fd) (G : FnOk P w K mg base CX0 1 fL fdL ["_law_num_here", "_law_den"] spLowQ) (bL : Binds K fdL ["_law_num_here", "_law_den"] []) (kL : PySem.W.keepIn K (.ref fL) = true) (mL : mg "_law_low" = some (.ref fL)) :
    FnOk P w K mg base CX0 2 f fd ["_law_p", "_law_q"] (spTwoQ K (· - ·)) := by
  refine F.ok scSub (fun vs H Q E h => ?_) (fun cdv A outer s H vs Q E hr h => ?_)
  · obtain ⟨x, y, a, b, rfl, _⟩ := h
    rfl
  obtain ⟨x, y, a, b, rfl, hx, hy, ba, bb, q⟩ := h
  obtain ⟨xa, rfl, sx, _⟩ := hx.sq
  obtain ⟨ya, rfl, sy, _⟩ := hy.sq
  refine ⟨_, pss_one (ps_ret (pe_call G hr rfl mL kL bL .nil pass0 (pa_cons (pe_op op_sub (pe_op op_mulW (pe_ix ix_tup (pv 0) pe_int (fun _ _ => rfl)) (pe_ix ix_tup (pv 1) pe_int (fun _ _ => rfl))) (pe_op op_mulW (pe_ix ix_tup (pv 1) pe_int (fun _ _ => rfl)) (pe_ix ix_tup (pv 0) pe_int (fun _ _ => rfl))))
      (pa_cons (pe_op op_mulW (pe_ix ix_tup (pv 0) pe_int (fun _ _ => rfl)) (pe_ix ix_tup (pv 1) pe_int (fun _ _ => rfl))) pa_nil)))), ?_⟩
  exact ⟨_, rfl, xa, _, 0, _, rfl, rfl, sx, rfl, _, rfl, ya, _, 1, _, rfl, rfl, sy, rfl, a.num, (b.den : Nat), rfl, rfl, wide_mul ba.1 bb.dn (by decide) (by decide) (by decide), _, rfl, ya, _, 0, _, rfl, rfl, sy, rfl, _, rfl, xa, _, 1, _, rfl, rfl, sx, rfl, b.num, (a.den : Nat), rfl, rfl, wide_mul bb.1 ba.dn (by decide) (by decide) (by decide), _, _, rfl, rfl,
      _, rfl, xa, _, 1, _, rfl, rfl, sx, rfl, _, rfl, ya, _, 1, _, rfl, rfl, sy, rfl, (a.den : Nat), (b.den : Nat), rfl, rfl, wide_mul ba.dn bb.dn (by decide) (by decide) (by decide), _, _, rfl, Int.mul_ne_zero (den_ne a) (den_ne b), log_two ba.dn bb.dn, by rw [← rat_sub]; exact q⟩
end
end Kx
end
section
set_option maxHeartbeats 4000000
namespace Kx
open PySem PySem.Spec PyProof.Rows L2 RZ
/-! ### the law's slope, reciprocal, log -/
def derS (f : Ser) : Ser := fun n => f (n + 1) * ((n + 1 : Nat) : Rat)
/-- slopes -/
def slpL (N : Nat) (F : Ser) : List Rat := toL N (derS F) ++ [0]
def spSlp (K : PySem.W.Frag) : Sp := fun vs H Q _ => ∃ (x : V) (F : Ser) (N : Nat), vs = [x] ∧ Ls K H x (toL (N + 1) F) ∧ 1 ≤ N ∧ N ≤ 30 ∧ (∀ k, k < N → Ok (F (k + 1))) ∧ GivesL K H Q (slpL N F)
theorem toL_at {K : PySem.W.Frag} {H : Hp} {xs : List V} {n i : Nat} {F : Ser} (h : Nl K H xs (toL n F)) (hi : i < n) : ∃ z, xs[i]? = some z ∧ Nq K H z (F i) := by
  obtain ⟨z, ez, nz⟩ := h.get' (i := i) (by rw [toL_len]; exact hi)
  have := toL_get (f := F) hi
  rw [List.getElem?_eq_getElem (by rw [toL_len]; exact hi)] at this
  rw [Option.some.inj this] at nz
  exact ⟨z, ez, nz⟩
theorem Nq.nat {K : PySem.W.Frag} {H : Hp} {t : Addr} {k : Nat} (h : H t = some (.tup [.int (k : Nat), .int 1])) : Nq K H (.ref t) ((k : Nat) : Rat) := ⟨t, rfl, .inl h⟩
theorem Ok.nat {k : Nat} (h : k < 2 ^ 30) : Ok ((k : Nat) : Rat) := ⟨by
  show ((k : Nat) : Int).natAbs < _
  rw [Int.natAbs_natCast]
  exact Nat.lt_of_lt_of_le h (Nat.pow_le_pow_right (by decide) (by decide)), by
  show 1 < _
  exact Nat.lt_of_lt_of_le (show 1 < 2 ^ 1 by decide) (Nat.pow_le_pow_right (by decide) (by decide))⟩
theorem crM' {M : Nat} {us : List Rat} (h : CrA M us) : SmL M := ⟨h.m0, Nat.lt_trans h.m (Nat.pow_lt_pow_right (by decide) (by decide))⟩
theorem num_div {t : Rat} (i : Nat) (hi : 1 ≤ i) : Rat.divInt t.num (((t.den : Nat) : Int) * (i : Nat)) = t / nR i := by
  rw [Rat.divInt_eq_div, Rat.intCast_mul]
  have e1 : (((t.den : Nat) : Int) : Rat) = (t.den : Rat) := rfl
  have e2 : (((i : Nat) : Int) : Rat) = nR i := rfl
  rw [e1, e2]
  have ha := up_val (q := t) (L := t.den) (Nat.dvd_refl _)
  rw [Int.ediv_self (den_ne t), Int.mul_one] at ha
  have z1 := natr_ne (Nat.pos_of_ne_zero t.den_nz)
  have z2 := nR_ne (show i ≠ 0 by omega)
  rw [ha]
  grind
def RcC (us : List Rat) : Prop := ∃ L B, 0 < L ∧ L < 2 ^ 1400 ∧ B ≤ 20000 ∧ AllD L B us ∧ AllD L B (rcL us)
def pS (us : List Rat) (j i : Nat) : Rat := oneS j - sumN (fun a => ser (rcL us) a * ser us (j - a)) i
theorem pS_d {L B : Nat} {us : List Rat} (l0 : 0 < L) (l : L < 2 ^ 1400) (hu : AllD L B us) (hr : AllD L B (rcL us)) {j i : Nat} (hi : i ≤ 32) : Dq (L * L) (2 * B + 2900) (pS us j i) := by
  have LL : L * L < 2 ^ 2800 := Nat.lt_of_lt_of_le (Nat.mul_lt_mul_of_lt_of_lt l l) (by rw [← Nat.pow_add]; exact Nat.pow_le_pow_right (by decide) (by decide))
  have a : Dq (L * L) 2800 (oneS j) := by
    unfold oneS
    split
    · exact Dq.one LL
    · exact Dq.zero
  have b : Dq (L * L) (2 * B + 5) (sumN (fun a => ser (rcL us) a * ser us (j - a)) i) := dq_sum (c := 5) _ (fun a _ => by
    have := (hr.getD a).mul (hu.getD (j - a))
    rw [show B + B = 2 * B by omega] at this
    exact this) (by omega)
  exact a.sub b (by omega) (by omega)
theorem pS_zero (us : List Rat) (j : Nat) : pS us j 0 = oneS j := by
  show oneS j - 0 = _
  grind
theorem pS_succ (us : List Rat) (j i : Nat) : pS us j (i + 1) = pS us j i - ser (rcL us) i * ser us (j - i) := by
  show oneS j - (sumN _ i + _) = oneS j - sumN _ i - _
  grind
theorem pS_end {us : List Rat} (u0 : ser us 0 = 1) {j : Nat} (hj : j < us.length) : pS us j j / ser us 0 = ser (rcL us) j := by
  have e := rc_eq (us := us) (by rw [u0]; decide) j hj
  have e : sumN (fun i => ser (rcL us) i * ser us (j - i)) j + ser (rcL us) j * ser us (j - j) = oneS j := e
  rw [Nat.sub_self, u0, Rat.mul_one] at e
  unfold pS
  rw [u0, ← e, Rat.div_def, show (1 : Rat)⁻¹ = 1 by decide +kernel]
  grind
def spRcp (K : PySem.W.Frag) : Sp := fun vs H Q _ => ∃ (x : V) (us : List Rat), vs = [x] ∧ Ls K H x us ∧ ser us 0 = 1 ∧ 1 ≤ us.length ∧ us.length ≤ 25 ∧ RcC us ∧ GivesL K H Q (rcL us)
def spLgr (K : PySem.W.Frag) : Sp := fun vs H Q _ => ∃ (x : V) (us : List Rat) (M : Nat), vs = [x] ∧ Ls K H x us ∧ ser us 0 = 1 ∧ CrA M us ∧ 2 ≤ us.length ∧ us.length ≤ 11 ∧ GivesL K H Q (lgL us)
abbrev nRcp : List Str := ["_law_u", "_law_found", "_law_j", "_law_p", "_law_i"]
abbrev nLgr : List Str := ["_law_u", "_law_part", "_law_j"]
section
variable {P : Program} {w : World} {K : PySem.W.Frag} {mg : Str → Option Value} {base : Heap} {f o0 o1 : Addr} {fd : FuncData}
theorem scLslp : FnScope ["_law_u", "_law_j"] ["_law_u"] (defScope L_slope) := ⟨rfl, rfl, rfl, by decide +kernel, rfl, by decide +kernel, by decide +kernel⟩
theorem ok_lslope (F : Fun K "_law_slope" "_law_slope" L_slope f fd) (mn : mg "len" = none) (mr : mg "range" = none) (UM : Use P w K mg base CX0 2 "_law_mul" ["_law_p", "_law_q"] (spTwoQ K (· * ·)) []) : FnOk P w K mg base CX0 3 f fd ["_law_u"] (spSlp K) := by
  refine F.ok scLslp (fun vs H Q E h => ?_) (fun cdv A outer s H vs Q E hr h => ?_)
  · obtain ⟨x, F, N, rfl, _⟩ := h
    rfl
  obtain ⟨x, F, N, rfl, ⟨xa, xs, rfl, hx, nx⟩, N1, N30, oF, q⟩ := h
  refine ⟨_, pss_one (ps_ret (pe_op op_cat (pe_lc (own := [("_law_j", 1)]) (g := gName 1) (tt := tYes) rfl scLslp.nd (pi_range1 rfl mr (pa_cons (pe_op op_sub (pe_callB call_len_seq rfl mn PySem.boot_len (pa_cons (pv 0) pa_nil)) pe_int) pa_nil)) (blkOk_by (N := ["_law_u", "_law_j"]) (sc := defScope L_slope) (by decide +kernel))
      (fun _ _ _ _ _ => pg_name (i := 1) scLslp.nd rfl (Or.inl rfl)) (fun _ _ _ _ _ => pts_nil)
      (fun _ _ _ _ _ => pe_use UM hr rfl pass0 (pa_cons (pe_ix (ixl_at K rfl) (pv 0) (pe_op op_add (pv 1) pe_int) (fun _ _ => rfl)) (pa_cons (pe_tup (pa_cons (pe_op op_add (pv 1) pe_int) (pa_cons pe_int pa_nil))) pa_nil)))) (pe_lst (pa_cons (pe_tup (pa_cons pe_int (pa_cons pe_int pa_nil))) pa_nil)))), ?_⟩
  have lx : xs.length = N + 1 := by rw [nx.1, toL_len]
  refine ⟨_, rfl, xa, xs, rfl, .inl (SqL.of hx), _, 1, rfl, rfl, _, rfl, by omega, by omega, fun D nD => ?_⟩
  refine lc_nums (K := K) (walk_range (lo := 0) (n := (((xs.length : Nat) : Int) - 1).toNat)) (toL N (derS F)) (by rw [toL_len]; omega) nD (by omega) (fun _ _ => trivial) ?_ (fun H' zs s h m => ?_)
  · rintro i r x H2 H3 k hq s2 ⟨rfl, rfl⟩ hk
    have hi : i < N := by
      rcases Nat.lt_or_ge i N with c | c
      · exact c
      · rw [List.getElem?_eq_none (by rw [toL_len]; exact c)] at hq; cases hq
    rw [toL_get hi] at hq
    obtain rfl := Option.some.inj hq
    obtain ⟨z, ez, nz⟩ := toL_at nx (i := i + 1) (by omega)
    refine ⟨rfl, _, rfl, _, rfl, 0 + (i : Int), 1, rfl, rfl, xa, xs, 0 + (i : Int) + 1, z, rfl, rfl, SqL.of (s2 _ _ hx), at_of (j := i + 1) (by omega) ez, _, rfl, 0 + (i : Int), 1, rfl, rfl, (by show 2 ≤ sizeLine; decide), fun t nt => ?_⟩
    have s3 := new_same nt (HO.tup [.int (0 + (i : Int) + 1), .int 1])
    have e2 : (0 + (i : Int) + 1) = ((i + 1 : Nat) : Int) := by omega
    have n2 : Nq K (upd H3 t (.tup [.int (0 + (i : Int) + 1), .int 1])) (.ref t) ((i + 1 : Nat) : Rat) := Nq.nat (by rw [upd_same, e2])
    generalize upd H3 t (HO.tup [.int (0 + (i : Int) + 1), .int 1]) = H5 at s3 n2
    refine ⟨z, .ref t, F (i + 1), ((i + 1 : Nat) : Rat), rfl, (nz.same s2).same s3, n2, oF i hi, Ok.nat (Nat.lt_of_lt_of_le (show i + 1 < 32 by omega) (by decide)), fun p H6 s6 n6 e6 => ?_⟩
    exact hk _ _ (s3.trans s6) (.at e6)
  · refine ⟨(by show 2 ≤ sizeLine; decide), fun z nz0 => ?_⟩
    have s0 := new_same nz0 (HO.tup [.int 0, .int 1])
    have z0 : Nq K (upd H' z (HO.tup [.int 0, .int 1])) (.ref z) 0 := .at (K := K) (show _ = some (rT 0) from upd_same)
    have h0 := s0 _ _ h
    have m0 := m.same s0
    have nd0 := s.trans s0
    generalize upd H' z (HO.tup [.int 0, .int 1]) = H0 at s0 z0 h0 m0 nd0
    refine ⟨(by show 1 ≤ sizeLine; decide), fun l nl => ⟨D, l, zs, [.ref z], rfl, rfl, new_same nl _ _ _ h0, upd_same, Nat.le_of_lt (small1000 (by rw [m.1, toL_len]; show N + 1 ≤ _; omega)), fun e ne => ?_⟩⟩
    have s2 := nd0.trans ((new_same nl (HO.lst [V.ref z])).trans (new_same ne (HO.lst (zs ++ [V.ref z]))))
    refine q e _ _ s2 ((nd0.trans (new_same nl _)).free ne) upd_same ?_
    exact ((m0.snoc z0).same (new_same nl (HO.lst [V.ref z]))).same (new_same ne (HO.lst (zs ++ [V.ref z])))
theorem scRcp : FnScope nRcp ["_law_u"] (defScope L_recip) := ⟨rfl, rfl, rfl, by decide +kernel, rfl, by decide +kernel, by decide +kernel⟩
theorem ok_lrecip (F : Fun K "_law_recip" "_law_recip" L_recip f fd) (mn : mg "len" = none) (mr : mg "range" = none) (mi : mg "int" = none) (US : Use P w K mg base CX0 2 "_law_sub" ["_law_p", "_law_q"] (spTwoQ K (· - ·)) []) (UM : Use P w K mg base CX0 2 "_law_mul" ["_law_p", "_law_q"] (spTwoQ K (· * ·)) []) (UV : Use P w K mg base CX0 2 "_law_div" ["_law_p", "_law_q"] (spDivQ K) []) : FnOk P w K mg base CX0 3 f fd ["_law_u"] (spRcp K) := by
  refine F.ok scRcp (fun vs H Q E h => ?_) (fun cdv A outer s H vs Q E hr h => ?_)
  · obtain ⟨x, us, rfl, _⟩ := h
    rfl
  obtain ⟨x, us, rfl, hx, u0, l1, l25, ⟨L, B, l0, l14, b2, hu, hrc⟩, q⟩ := h
  refine ⟨_, (pss_cons (ps_set (i := 1) scRcp.nd rfl (Or.inl rfl) (pe_lst pa_nil)) (pss_cons (ps_for PassesOwn.never rfl (pi_range1 rfl mr (pa_cons (pe_callB call_len_seq rfl mn PySem.boot_len (pa_cons (pv 0) pa_nil)) pa_nil)) (pg_name (i := 2) scRcp.nd rfl (Or.inl rfl)) (pss_cons (ps_set (i := 3) scRcp.nd rfl (Or.inl rfl) (pe_tup (pa_cons (pe_callTy call_int1 rfl mi (by decide +kernel) (pa_cons (pe_cmpR op_eq (pv 2) pe_int (nomark _)) pa_nil)) (pa_cons pe_int pa_nil)))) (pss_cons (ps_for PassesOwn.never rfl (pi_range1 rfl mr (pa_cons (pv 2) pa_nil)) (pg_name (i := 4) scRcp.nd rfl (Or.inl rfl)) (pss_one (ps_set (i := 3) scRcp.nd rfl (Or.inl rfl) (pe_use US hr rfl pass0 (pa_cons (pv 3) (pa_cons (pe_use UM hr rfl pass0 (pa_cons (pe_ix ix_list (pv 1) (pv 4) (fun _ _ => rfl)) (pa_cons (pe_ix ix_list (pv 0) (pe_op op_sub (pv 2) (pv 4)) (fun _ _ => rfl)) pa_nil))) pa_nil)))))) (pss_one (ps_expr (pe_bm PySem.F.plainAttrs_list PySem.F.slot_list_append PySem.F.type_list_append mt_append (pv 1) (pa_cons (pe_use UV hr rfl pass0 (pa_cons (pv 3) (pa_cons (pe_ix ix_list (pv 0) pe_int (fun _ _ => rfl)) pa_nil))) pa_nil))))))) (pss_one (ps_ret (pv 1))))), ?_⟩
  obtain ⟨xa, xs, rfl, hxa, nx⟩ := id hx
  have lx : xs.length = us.length := nx.1
  obtain ⟨y0, ey0, ny0⟩ := nx.get' (i := 0) (by omega)
  have s0 : us[0] = ser us 0 := by
    have := ser_at (qs := us) (k := 0) (by omega)
    rw [List.getElem?_eq_getElem (by omega)] at this
    exact Option.some.inj this
  rw [s0] at ny0
  have okr : ∀ a, Ok (ser (rcL us) a) := fun a => (hrc.getD a).ok (sm14 l0 l14) (by omega)
  have oku : ∀ a, Ok (ser us a) := fun a => (hu.getD a).ok (sm14 l0 l14) (by omega)
  have okp : ∀ {j i}, i ≤ 32 → Ok (pS us j i) := fun hi => (pS_d l0 l14 hu hrc hi).ok (sm28 l0 l14) (by omega)
  refine ⟨(by show 0 ≤ sizeLine; decide), fun fb nf => ?_⟩
  refine ⟨_, rfl, xa, xs, rfl, .inl (SqL.of ((new_same nf _) _ _ hxa)), (xs.length : Nat), rfl, by omega, by omega, for_range (lo := 0) (n := ((xs.length : Nat) : Int).toNat) (fun j σ G => Same H G ∧ (∃ v2 v3 v4, σ = [some (.ref xa), some (.ref fb), v2, v3, v4]) ∧ ∃ zs, G fb = some (.lst zs) ∧ Nl K G zs (recL (rcF us) j)) ⟨new_same nf _, ⟨none, none, none, rfl⟩, [], upd_same, Nl.nil⟩ ?_ ?_⟩
  · rintro j σ G hj ⟨s1, ⟨v2, v3, v4, rfl⟩, zs, hz, nz⟩
    have hj' : j < us.length := by omega
    refine ⟨_, rfl, rfl, .inr ⟨_, rfl, (by show 2 ≤ sizeLine; decide), fun t nt => ?_⟩⟩
    have e1 : (if decide (V.int (0 + (j : Int)) = V.int 0) = true then (1 : Int) else 0) = (oneS j).num := by
      unfold oneS
      by_cases c : j = 0
      · rw [if_pos c, c]
        rfl
      · rw [if_neg c, decide_eq_false (fun z => by have := V.int.inj z; omega)]
        rfl
    have s2 := new_same nt (HO.tup [V.int (if decide (V.int (0 + (j : Int)) = V.int 0) = true then (1 : Int) else 0), .int 1])
    have t1 : Nq K (upd G t (HO.tup [V.int (if decide (V.int (0 + (j : Int)) = V.int 0) = true then (1 : Int) else 0), .int 1])) (.ref t) (pS us j 0) := by
      rw [pS_zero]
      refine .at (K := K) ?_
      rw [upd_same, e1]
      unfold oneS
      split <;> rfl
    generalize upd G t (HO.tup [V.int (if decide (V.int (0 + (j : Int)) = V.int 0) = true then (1 : Int) else 0), .int 1]) = G1 at s2 t1
    refine ⟨_, rfl, 0 + (j : Int), rfl, by omega, by omega, for_range (lo := 0) (n := (0 + (j : Int)).toNat) (fun i σ G' => Same G1 G' ∧ ∃ vp v4, σ = [some (.ref xa), some (.ref fb), some (.int (0 + (j : Int))), some vp, v4] ∧ Nq K G' vp (pS us j i)) ⟨Same.refl _, .ref t, v4, rfl, t1⟩ ?_ ?_⟩
    · rintro i σ G2 hi ⟨s3, vp, v4, rfl, np⟩
      have hi' : i < j := by omega
      have lzs : zs.length = j := by rw [nz.1, recL_len]
      have s13 := s2.trans s3
      obtain ⟨zi, ez, nzi⟩ := nz.get' (i := i) (by rw [recL_len]; exact hi')
      have ev : (recL (rcF us) j)[i]'(by rw [recL_len]; exact hi') = ser (rcL us) i := by
        have := ser_at (qs := recL (rcF us) j) (k := i) (by rw [recL_len]; exact hi')
        rw [List.getElem?_eq_getElem (by rw [recL_len]; exact hi')] at this
        rw [Option.some.inj this]
        exact (recL_pre (rcF us) j us.length (by omega) i hi').symm
      rw [ev] at nzi
      obtain ⟨yi, ey, nyi⟩ := nx.get' (i := j - i) (by omega)
      have ev2 : us[j - i]'(by omega) = ser us (j - i) := by
        have := ser_at (qs := us) (k := j - i) (by omega)
        rw [List.getElem?_eq_getElem (by omega)] at this
        exact Option.some.inj this
      rw [ev2] at nyi
      have hz2 := s13 _ _ hz
      have hx2 := s13 _ _ (s1 _ _ hxa)
      refine ⟨_, rfl, _, rfl, _, rfl, fb, zs, 0 + (i : Int), zi, rfl, rfl, SqL.of hz2, at_of (j := i) (by omega) ez, _, rfl, _, rfl, _, rfl, 0 + (j : Int), 0 + (i : Int), rfl, rfl, xa, xs, 0 + (j : Int) - (0 + (i : Int)), yi, rfl, rfl, SqL.of hx2, at_of (j := j - i) (by omega) ey, zi, yi, _, _, rfl, nzi.same s13, nyi.same (s1.trans s13), okr i, oku (j - i), fun t5 H5 s5 n5 e5 => ?_⟩
      have okm : Ok (ser (rcL us) i * ser us (j - i)) := ((hrc.getD i).mul (hu.getD (j - i))).ok (sm28 l0 l14) (by omega)
      refine ⟨vp, .ref t5, _, _, rfl, np.same s5, .at e5, okp (by omega), okm, fun t6 H6 s6 n6 e6 => ?_⟩
      have e6 : H6 t6 = some (rT (pS us j (i + 1))) := by rw [pS_succ]; exact e6
      exact ⟨s3.trans (s5.trans s6), .ref t6, _, rfl, .at e6⟩
    · rintro σ G2 ⟨s3, vp, v4, rfl, np⟩
      have lzs : zs.length = j := by rw [nz.1, recL_len]
      rw [show (0 + (j : Int)).toNat = j by omega] at np
      have s13 := s2.trans s3
      have hz2 := s13 _ _ hz
      have hx2 := s13 _ _ (s1 _ _ hxa)
      refine ⟨_, rfl, .inl ⟨rfl, _, SqL.of hz2⟩, _, rfl, _, rfl, xa, xs, 0, y0, rfl, rfl, SqL.of hx2, at_of (j := 0) rfl ey0, vp, y0, _, _, rfl, np, ny0.same (s1.trans s13), okp (by omega), oku 0, by rw [u0]; decide, by rw [u0]; exact Nat.lt_of_lt_of_le (show (1 : Rat).num.natAbs < 2 ^ 1 by decide) (Nat.pow_le_pow_right (by decide) (by decide)), fun t5 H5 s5 n5 e5 => ?_⟩
      have e5 : H5 t5 = some (rT (ser (rcL us) j)) := by rw [← pS_end u0 hj']; exact e5
      have hz5 := s5 _ _ hz2
      refine ⟨fb, zs, _, rfl, rfl, hz5, small1000 (by omega), ?_, ⟨_, _, _, rfl⟩, zs ++ [.ref t5], upd_same, ?_⟩
      · intro d o hd
        rw [upd_ne (fun z => by rw [z, nf] at hd; cases hd)]
        exact s5 _ _ (s13 _ _ (s1 _ _ hd))
      · have e7 : recL (rcF us) (j + 1) = recL (rcF us) j ++ [ser (rcL us) j] := by
          have e0 : ser (rcL us) j = rcF us (recL (rcF us) j) := recL_at _ hj'
          rw [e0]
          rfl
        rw [e7]
        exact (Nl.snoc (((nz.same s13).same s5).setL (ys := zs ++ [.ref t5]) hz5) ((show Nq K H5 (.ref t5) _ from .at e5).setL hz5))
  · rintro σ G ⟨s1, ⟨v2, v3, v4, rfl⟩, zs, hz, nz⟩
    rw [show ((xs.length : Nat) : Int).toNat = us.length by omega] at nz
    exact ⟨_, rfl, q fb G zs s1 nf hz nz⟩
theorem scLgr : FnScope nLgr ["_law_u"] (defScope L_log_row) := ⟨rfl, rfl, rfl, by decide +kernel, rfl, by decide +kernel, by decide +kernel⟩
theorem ok_llogrow (F : Fun K "_law_log_row" "_law_log_row" L_log_row f fd) (mn : mg "len" = none) (mr : mg "range" = none) (UP : Use P w K mg base CX0 2 "_law_prod" ["_law_u", "_law_w"] (spPrd K) []) (USl : Use P w K mg base CX0 3 "_law_slope" ["_law_u"] (spSlp K) []) (URc : Use P w K mg base CX0 3 "_law_recip" ["_law_u"] (spRcp K) []) (ULo : Use P w K mg base CX0 1 "_law_low" ["_law_num_here", "_law_den"] spLowQ []) : FnOk P w K mg base CX0 4 f fd ["_law_u"] (spLgr K) := by
  refine F.ok scLgr (fun vs H Q E h => ?_) (fun cdv A outer s H vs Q E hr h => ?_)
  · obtain ⟨x, us, M, rfl, _⟩ := h
    rfl
  obtain ⟨x, us, M, rfl, hx, u0, ca, l2, l11, q⟩ := h
  refine ⟨_, (C8.pss_cut (ps_set (i := 1) scLgr.nd rfl (Or.inr rfl) (pe_use UP (hr.mono (by decide)) rfl pass0 (pa_cons (pe_use USl hr rfl pass0 (pa_cons (pv 0) pa_nil)) (pa_cons (pe_use URc hr rfl pass0 (pa_cons (pv 0) pa_nil)) pa_nil))))
    (pss_one (ps_ret (pe_op op_cat (pe_lst (pa_cons (pe_tup (pa_cons pe_int (pa_cons pe_int pa_nil))) pa_nil)) (pe_lc (own := [("_law_j", 2)]) (g := gName 2) (tt := tYes) rfl scLgr.nd (pi_range1 rfl mr (pa_cons (pe_op op_sub (pe_callB call_len_seq rfl mn PySem.boot_len (pa_cons (pv 0) pa_nil)) pe_int) pa_nil)) (blkOk_by (N := nLgr) (sc := defScope L_log_row) (by decide +kernel)) (fun _ _ _ _ _ => pg_name (i := 2) scLgr.nd rfl (Or.inl rfl)) (fun _ _ _ _ _ => pts_nil) (fun _ _ _ _ _ => (pe_use ULo (hr.mono (by decide)) rfl pass0 (pa_cons (pe_ix (ixt_at K rfl) (pe_ix (ixl_at K rfl) (pv 1) (pv 2) (fun _ _ => rfl)) pe_int (fun _ _ => rfl)) (pa_cons (pe_op op_mul (pe_ix (ixt_at K rfl) (pe_ix (ixl_at K rfl) (pv 1) (pv 2) (fun _ _ => rfl)) pe_int (fun _ _ => rfl)) (pe_op op_add (pv 2) pe_int)) pa_nil))))))))), ?_⟩
  obtain ⟨xa, xs, rfl, hxa, nx⟩ := id hx
  have lx : xs.length = us.length := nx.1
  obtain ⟨N, eN⟩ : ∃ N, us.length = N + 1 := ⟨us.length - 1, by omega⟩
  have eu : us = toL (N + 1) (ser us) := by
    have := toL_ser us
    rw [eN] at this
    exact this.symm
  have sM := crM' ca
  have okU : ∀ a, Ok (ser us a) := fun a => (ca.u.getD a).ok sM (by decide)
  refine ⟨fun σ G => Same H G ∧ ∃ vp, σ = [some (.ref xa), some vp, none] ∧ Ls K G vp (mulL (slpL N (ser us)) (rcL us)), ?_, ?_⟩
  · refine ⟨_, rfl, .ref xa, ser us, N, rfl, by rw [← eu]; exact hx, by omega, by omega, fun k _ => okU (k + 1), fun b H1 ys s1 nb hb mb => ?_⟩
    refine ⟨_, rfl, .ref xa, us, rfl, hx.same s1, u0, by omega, by omega, ?_, fun b2 H2 zs s2 nb2 hb2 mb2 => ?_⟩
    · refine ⟨M, 1200, ca.m0, Nat.lt_trans ca.m (Nat.pow_lt_pow_right (by decide) (by decide)), by decide, ca.u, ?_⟩
      rw [← pw_rc (by omega) u0]
      exact ca.p (-1) ⟨-1, by rw [show ((1 : Nat) : Rat) = 1 from rfl, Rat.mul_one]; rfl, by decide⟩
    · have zr : AllD M 1200 (rcL us) := by
        rw [← pw_rc (by omega) u0]
        exact ca.p (-1) ⟨-1, by rw [show ((1 : Nat) : Rat) = 1 from rfl, Rat.mul_one]; rfl, by decide⟩
      have zs' : AllD M 1210 (slpL N (ser us)) := fun q hq => by
        unfold slpL at hq
        rcases List.mem_append.mp hq with hq | hq
        · unfold toL at hq
          obtain ⟨k, hk, rfl⟩ := List.mem_map.mp hq
          have hk := List.mem_range.mp hk
          have x := (ca.u.getD (k + 1)).mul (nR_d (n := k + 1) (by omega))
          rw [Nat.mul_one] at x
          exact x.mono (by decide)
        · rw [List.mem_singleton.mp hq]
          exact Dq.zero
      refine ⟨.ref b, .ref b2, slpL N (ser us), rcL us, M, 1210, M, 1200, rfl, Ls.same ⟨b, ys, rfl, hb, mb⟩ s2, ⟨b2, zs, rfl, hb2, mb2⟩, by unfold slpL; rw [List.length_append, toL_len, rcL_len, eN]; rfl, by unfold slpL; rw [List.length_append, toL_len]; show N + 1 ≤ 28; omega, sM, by decide, sM, by decide, ?_, zs', zr, fun b3 H3 ws s3 nb3 hb3 mb3 => ⟨s1.trans (s2.trans s3), .ref b3, rfl, b3, ws, rfl, hb3, mb3⟩⟩
      exact Nat.lt_of_lt_of_le (Nat.mul_lt_mul_of_lt_of_lt ca.m ca.m) (by rw [← Nat.pow_add]; exact Nat.pow_le_pow_right (by decide) (by decide))
  rintro σ G ⟨s1, vp, rfl, lp⟩
  have pe : ∀ i, i < N → ser (mulL (slpL N (ser us)) (rcL us)) i = ser (lsL us) i := fun i hi => by
    have ls' : (slpL N (ser us)).length = N + 1 := by unfold slpL; rw [List.length_append, toL_len]; rfl
    have e1 := mul_ser (slpL N (ser us)) (rcL us) i (by rw [ls']; omega)
    rw [e1]
    have e2 : EqTo (us.length - 1) (ser (slpL N (ser us))) (dS (ser us)) := fun k hk => by
      show (slpL N (ser us)).getD k 0 = _
      unfold slpL
      rw [List.getD_eq_getElem?_getD, List.getElem?_append_left (by rw [toL_len]; omega), toL_get (by omega)]
      show ser us (k + 1) * ((k + 1 : Nat) : Rat) = nR (k + 1) * ser us (k + 1)
      exact Rat.mul_comm _ _
    have e3 : EqTo (us.length - 1) (mulS (mulS (dS (ser us)) (ser (rcL us))) (ser us)) (dS (ser us)) := fun k hk => by
      rw [mulS_assoc]
      have e4 : EqTo (k + 1) (mulS (ser (rcL us)) (ser us)) oneS := fun a ha => rc_eq (by rw [u0]; decide) a (by omega)
      have e5 := (EqTo.refl (k + 1) (dS (ser us))).mul e4
      rw [e5 k (by omega), mulS_comm, oneS_mul]
    have e6 := ls_uni u0 e3
    rw [e6 i (by omega)]
    exact (show EqTo (i + 1) (ser (slpL N (ser us))) (dS (ser us)) from fun a ha => e2 a (by omega)).mul (EqTo.refl (i + 1) (ser (rcL us))) i (by omega)
  obtain ⟨pa, ps, rfl, hp, np⟩ := id lp
  have lps : ps.length = N + 1 := by rw [np.1, mulL_len']; unfold slpL; rw [List.length_append, toL_len]; rfl
  refine ⟨(by show 2 ≤ sizeLine; decide), fun z nz => ⟨(by show 1 ≤ sizeLine; decide), fun c nc => ?_⟩⟩
  have s2 := new_same nz (HO.tup [.int 0, .int 1])
  have s3 := new_same nc (HO.lst [V.ref z])
  have hc : upd (upd G z (HO.tup [.int 0, .int 1])) c (HO.lst [V.ref z]) c = some (.lst [V.ref z]) := upd_same
  have z0 : Nq K (upd (upd G z (HO.tup [.int 0, .int 1])) c (HO.lst [V.ref z])) (.ref z) 0 := .at (K := K) (s3 _ _ (show _ = some (rT 0) from upd_same))
  generalize upd (upd G z (HO.tup [.int 0, .int 1])) c (HO.lst [V.ref z]) = G1 at s3 hc z0
  have s23 := s2.trans s3
  refine ⟨_, rfl, xa, xs, rfl, .inl (SqL.of (s23 _ _ (s1 _ _ hxa))), (xs.length : Nat), 1, rfl, rfl, _, rfl, by omega, by omega, fun D nD => ?_⟩
  refine lc_nums (K := K) (walk_range (lo := 0) (n := (((xs.length : Nat) : Int) - 1).toNat)) ((List.range (us.length - 1)).map fun k => ser (lsL us) k / nR (k + 1)) (by rw [List.length_map, List.length_range]; omega) nD (by omega) (fun _ _ => trivial) ?_ (fun H' ws s h m => ?_)
  · rintro i r x H2 H3 k hq s4 ⟨rfl, rfl⟩ hk
    have hi : i < us.length - 1 := by
      rcases Nat.lt_or_ge i (us.length - 1) with d | d
      · exact d
      · rw [List.getElem?_eq_none (by rw [List.length_map, List.length_range]; exact d)] at hq; cases hq
    rw [List.getElem?_map, List.getElem?_range hi] at hq
    obtain rfl := Option.some.inj hq
    obtain ⟨y, ey, ny⟩ := np.get' (i := i) (by rw [← np.1]; omega)
    have ev : (mulL (slpL N (ser us)) (rcL us))[i]'(by rw [← np.1]; omega) = ser (lsL us) i := by
      have := ser_at (qs := mulL (slpL N (ser us)) (rcL us)) (k := i) (by rw [← np.1]; omega)
      rw [List.getElem?_eq_getElem (by rw [← np.1]; omega)] at this
      rw [Option.some.inj this]
      exact pe i (by omega)
    rw [ev] at ny
    have ny3 := ny.same (s23.trans s4)
    obtain ⟨vy, rfl, sy, _⟩ := ny3.sq
    have hp3 := (s23.trans s4) _ _ hp
    have okS : Ok (ser (lsL us) i) := (ca.s.getD i).ok sM (by decide)
    have e2 : (0 + (i : Int) + 1) = ((i + 1 : Nat) : Int) := by omega
    refine ⟨rfl, _, rfl, _, rfl, pa, ps, 0 + (i : Int), .ref vy, rfl, rfl, SqL.of hp3, at_of (j := i) (by omega) ey, vy, _, 0, _, rfl, rfl, sy, rfl, _, rfl, _, rfl, pa, ps, 0 + (i : Int), .ref vy, rfl, rfl, SqL.of hp3, at_of (j := i) (by omega) ey, vy, _, 1, _, rfl, rfl, sy, rfl, _, rfl, 0 + (i : Int), 1, rfl, rfl, ((ser (lsL us) i).den : Nat), 0 + (i : Int) + 1, rfl, rfl, .inr ⟨by omega, by omega⟩, ?_⟩
    have dn : ((ser (lsL us) i).den : Int).natAbs < 2 ^ 4450 := okS.dn
    have i4 : (0 + (i : Int) + 1).natAbs < 2 ^ 4450 := Nat.lt_of_lt_of_le (show _ < 2 ^ 30 by omega) (Nat.pow_le_pow_right (by decide) (by decide))
    refine ⟨_, _, rfl, Int.mul_ne_zero (den_ne _) (by omega), log_two dn i4, fun t H5 s5 n5 e5 => ?_⟩
    refine hk _ _ s5 (.at (K := K) ?_)
    have e6 := num_div (t := ser (lsL us) i) (i + 1) (by omega)
    rw [← e2] at e6
    show H5 t = some (rT (ser (lsL us) i / nR (i + 1)))
    rw [← e6]
    exact e5
  · refine ⟨c, D, _, _, rfl, rfl, s _ _ hc, h, Nat.le_of_lt (small1000 (by rw [m.1, List.length_map, List.length_range]; show 1 + _ ≤ _; omega)), fun d nd => ?_⟩
    have s5 := new_same nd (HO.lst ([V.ref z] ++ ws))
    have sA := s1.trans (s23.trans (s.trans s5))
    exact q d _ _ sA ((s1.trans (s23.trans s)).free nd) upd_same ((Nl.cons (z0.same s) m).same s5)
end
end Kx
end
section
set_option maxHeartbeats 4000000
namespace Kx
open PySem PySem.Spec PyProof.Rows L2 RZ
/-! ### the letters behind a creep -/
def ltP (us : List Rat) (fl i : Nat) : List Rat := if i = fl then lgL us else pwL us (tR i fl)
def ltR (us : List Rat) (fl i : Nat) : List Rat := (List.replicate i 0 ++ ltP us fl i).take us.length
def ltL (us : List Rat) (fl : Nat) : List (List Rat) := (List.range (us.length - fl)).map (ltR us fl)
def spRsd1 : Sp := fun vs H Q _ => ∃ n : Nat, vs = [.int 1, .int (n : Nat)] ∧ n ≤ 1000 ∧ Q (.int 1) H
def spPwo1 (K : PySem.W.Frag) : Sp := fun vs H Q _ => ∃ (x : V) (n : Nat), vs = [x, .int (-((n : Nat) : Int))] ∧ Nq K H x 1 ∧ 1 ≤ n ∧ n ≤ 60 ∧ GivesQ H Q 1
def spLtb (K : PySem.W.Frag) : Sp := fun vs H Q _ => ∃ (x : V) (us : List Rat) (fl M : Nat), vs = [.int (fl : Nat), x] ∧ Ls K H x us ∧ ser us 0 = 1 ∧ CrA M us ∧ 1 ≤ fl ∧ fl < us.length ∧ us.length ≤ 11 ∧ GivesLL K H Q (ltL us fl)
abbrev nRsd : List Str := ["base", "n", "found", "_"]
abbrev nPwo : List Str := ["value", "n", "upper", "lower"]
abbrev nLtb : List Str := ["flat", "numbers", "order", "lead", "unit", "power", "found", "place", "part"]
section
variable {P : Program} {w : World} {K : PySem.W.Frag} {mg : Str → Option Value} {base : Heap} {f o0 o1 : Addr} {fd : FuncData}
theorem scMuO : FnScope ["numbers", "t", "number"] ["numbers", "t"] (defScope F_multiples_of) := ⟨rfl, rfl, rfl, by decide +kernel, rfl, by decide +kernel, by decide +kernel⟩
theorem ok_multiples (G : Fun K "multiples_of" "multiples_of" F_multiples_of f fd) (UM : Use P w K mg base CX0 2 "product_of" ["one", "other"] (spTwoQ K (· * ·)) []) : FnOk P w K mg base CX0 3 f fd ["numbers", "t"] (spMulsL K) := by
  refine G.ok scMuO (fun vs H Q E h => ?_) (fun cdv A outer s H vs Q E hr h => ?_)
  · obtain ⟨x, y, qs, t, rfl, _⟩ := h
    rfl
  obtain ⟨x, y, qs, t, rfl, ⟨xa, xs, rfl, hx, nx⟩, ht, l1, bq, bt, q⟩ := h
  refine ⟨_, pss_one (ps_ret (pe_lc (own := [("number", 2)]) (g := gName 2) (tt := tYes) rfl scMuO.nd (pi_list (pv 0)) (blkOk_by (N := ["numbers", "t", "number"]) (sc := defScope F_multiples_of) (by decide +kernel))
      (fun _ _ _ _ _ => pg_name (i := 2) scMuO.nd rfl (Or.inl rfl)) (fun _ _ _ _ _ => pts_nil) (fun _ _ _ _ _ => pe_use UM hr rfl pass0 (pa_cons (pv 2) (pa_cons (pv 1) pa_nil))))), ?_⟩
  refine ⟨_, rfl, xa, rfl, ⟨_, SqL.of hx⟩, fun D nD => ?_⟩
  have lx : xs.length = qs.length := nx.1
  refine lc_nums (K := K) (walk_list (K := K) (a := xa) (xs := xs)) (qs.map (· * t)) (by rw [List.length_map]; omega) nD (by omega) (fun H' s => SqL.of (s _ _ hx)) ?_ (fun H' zs s h n => q D H' zs s nD h n)
  rintro i r x H2 H3 k hq s2 ⟨rfl, hx2⟩ hk
  rw [List.getElem?_map] at hq
  obtain ⟨a, ea, rfl⟩ := Option.map_eq_some_iff.mp hq
  exact ⟨rfl, _, rfl, _, rfl, _, _, a, t, rfl, (nx.2 i x a hx2 ea).same s2, ht.same s2, bq a (List.mem_of_getElem? ea), bt, fun t' H4 s4 n4 h4 => hk _ _ s4 (.at h4)⟩
theorem scRsd : FnScope nRsd ["base", "n"] (defScope F_raised) := ⟨rfl, rfl, rfl, by decide +kernel, rfl, by decide +kernel, by decide +kernel⟩
theorem ok_raised1 (F : Fun K "raised" "raised" F_raised f fd) (mr : mg "range" = none) : FnOk P w K mg base CX0 1 f fd ["base", "n"] spRsd1 := by
  refine F.ok scRsd (fun vs H Q E h => ?_) (fun cdv A outer s H vs Q E hr h => ?_)
  · obtain ⟨n, rfl, _⟩ := h
    rfl
  obtain ⟨n, rfl, n1, q⟩ := h
  refine ⟨_, (pss_cons (ps_set (i := 2) scRsd.nd rfl (Or.inl rfl) pe_int) (pss_cons (ps_for PassesOwn.never rfl (pi_range1 rfl mr (pa_cons (pv 1) pa_nil)) (pg_name (i := 3) scRsd.nd rfl (Or.inl rfl)) (pss_one (ps_set (i := 2) scRsd.nd rfl (Or.inl rfl) (pe_op op_mul (pv 2) (pv 0))))) (pss_one (ps_ret (pv 2))))), ?_⟩
  refine ⟨_, rfl, (n : Nat), rfl, by omega, by omega, for_range (lo := 0) (n := ((n : Nat) : Int).toNat) (fun i σ G => G = H ∧ ∃ v3, σ = [some (.int 1), some (.int (n : Nat)), some (.int 1), v3]) ⟨rfl, none, rfl⟩ ?_ ?_⟩
  · rintro i σ G hi ⟨rfl, v3, rfl⟩
    exact ⟨_, rfl, _, rfl, 1, 1, rfl, rfl, .inl ⟨by decide, by decide⟩, rfl, _, rfl⟩
  · rintro σ G ⟨rfl, v3, rfl⟩
    exact ⟨_, rfl, q⟩
theorem scPwo : FnScope nPwo ["value", "n"] (defScope F_power_of) := ⟨rfl, rfl, rfl, by decide +kernel, rfl, by decide +kernel, by decide +kernel⟩
theorem ok_powerof1 (F : Fun K "power_of" "power_of" F_power_of f fd) (mMP : ∃ u, mg "MOST_POWER" = some u ∧ RelV (.int 64) u) (UB : Use P w K mg base CX0 2 "is_between" ["value", "low", "high"] (spBtw K) []) (URs : Use P w K mg base CX0 1 "raised" ["base", "n"] spRsd1 []) (URt : Use P w K mg base CX0 1 "ratio" ["upper", "lower"] spLowQ []) : FnOk P w K mg base CX0 3 f fd ["value", "n"] (spPwo1 K) := by
  refine F.ok scPwo (fun vs H Q E h => ?_) (fun cdv A outer s H vs Q E hr h => ?_)
  · obtain ⟨x, n, rfl, _⟩ := h
    rfl
  obtain ⟨x, n, rfl, hx, n1, n60, q⟩ := h
  have hr1 := hr.mono (show 1 ≤ 2 by decide)
  have hr2 := hr
  refine ⟨_, (C8.pss_cut (ps_if (pt_not (pt_val (pe_use UB hr2 rfl pass0 (pa_cons (pv 1) (pa_cons (pe_un un_neg (C8.pe_gc rfl mMP)) (pa_cons (C8.pe_gc rfl mMP) pa_nil)))))) (pss_one ps_never) pss_nil)
    (C8.pss_cut (ps_asg (pv 0) (pg_tup rfl (pgs_cons (pg_name (i := 2) scPwo.nd rfl (Or.inl rfl)) (pgs_cons (pg_name (i := 3) scPwo.nd rfl (Or.inl rfl)) pgs_nil))))
    (C8.pss_cut (ps_if (pt_cmpR op_lt (pv 1) pe_int (nomark _)) (pss_one (ps_ret (pe_use URt hr1 rfl pass0 (pa_cons (pe_use URs hr1 rfl pass0 (pa_cons (pv 3) (pa_cons (pe_un un_neg (pv 1)) pa_nil))) (pa_cons (pe_use URs hr1 rfl pass0 (pa_cons (pv 2) (pa_cons (pe_un un_neg (pv 1)) pa_nil))) pa_nil))))) pss_nil)
    (pss_one ps_never)))), ?_⟩
  obtain ⟨va, rfl, sa, _⟩ := hx.sq
  refine ⟨fun σ G => G = H ∧ σ = [some (.ref va), some (.int (-((n : Nat) : Int))), none, none], ?_, ?_⟩
  · exact ⟨_, rfl, 64, rfl, .int (-((n : Nat) : Int)), -64, 64, true, rfl, InR.yes (by omega) (by omega), _, rfl, iteF ⟨rfl, rfl⟩⟩
  rintro σ G ⟨rfl, rfl⟩
  refine ⟨fun σ G' => G' = G ∧ σ = [some (.ref va), some (.int (-((n : Nat) : Int))), some (.int 1), some (.int 1)], ?_, ?_⟩
  · exact ⟨_, rfl, va, _, rfl, sa, rfl, _, [_], rfl, _, [], rfl, rfl, rfl, rfl⟩
  rintro σ G' ⟨rfl, rfl⟩
  refine ⟨fun σ G => False, ?_, fun _ _ h => h.elim⟩
  have nn : [V.int 1, V.int (-(-((n : Nat) : Int)))] = [V.int 1, V.int ((n : Nat) : Int)] := by rw [Int.neg_neg]
  refine ⟨_, rfl, -((n : Nat) : Int), 0, rfl, rfl, _, rfl, ?_⟩
  rw [decide_eq_true (show -((n : Nat) : Int) < 0 by omega)]
  refine iteT ⟨_, rfl, _, rfl, _, rfl, n, nn, by omega, _, rfl, _, rfl, _, rfl, n, nn, by omega, 1, 1, rfl, by decide, by decide, ?_⟩
  exact q
theorem scLtb : FnScope nLtb ["flat", "numbers"] (defScope F_letters_behind) := ⟨rfl, rfl, rfl, by decide +kernel, rfl, by decide +kernel, by decide +kernel⟩
theorem ok_letters (F : Fun K "letters_behind" "letters_behind" F_letters_behind f fd) (mn : mg "len" = none) (mr : mg "range" = none) (k0 : KP K o0 0 1) (mZ : mg "ZERO" = some (.ref o0)) (k1 : KP K o1 1 1) (mO : mg "ONE" = some (.ref o1)) (UQ : Use P w K mg base CX0 2 "quotient_of" ["one", "other"] (spDivQ K) []) (UMs : Use P w K mg base CX0 3 "multiples_of" ["numbers", "t"] (spMulsL K) []) (UPw : Use P w K mg base CX0 4 "unit_power" ["numbers", "t"] (spPwL K) []) (UPo : Use P w K mg base CX0 3 "power_of" ["value", "n"] (spPwo1 K) []) (ULg : Use P w K mg base CX0 4 "unit_log" ["numbers"] (spLgL K) []) (UMl : Use P w K mg base CX0 2 "multiplied" ["one", "other"] (spMulL K) []) : FnOk P w K mg base CX0 5 f fd ["flat", "numbers"] (spLtb K) := by
  refine F.ok scLtb (fun vs H Q E h => ?_) (fun cdv A outer s H vs Q E hr h => ?_)
  · obtain ⟨x, us, fl, M, rfl, _⟩ := h
    rfl
  obtain ⟨x, us, fl, M, rfl, hx, u0, ca, f1, fn, l11, q⟩ := h
  have hr2 := hr.mono (show 2 ≤ 4 by decide)
  have hr3 := hr.mono (show 3 ≤ 4 by decide)
  have hr4 := hr
  refine ⟨_, (C8.pss_cut (ps_par (i := 2) (j := 3) rfl scLtb.nd rfl rfl (by decide) rfl rfl (pa_cons (pe_callB call_len_seq rfl mn PySem.boot_len (pa_cons (pv 1) pa_nil)) (pa_cons (pe_ix ix_list (pv 1) pe_int (fun _ _ => rfl)) pa_nil)) rfl)
    (C8.pss_cut (ps_set (i := 4) scLtb.nd rfl (Or.inl rfl) (pe_use UMs hr3 rfl pass0 (pa_cons (pv 1) (pa_cons (pe_use UQ hr2 rfl pass0 (pa_cons (C8.pe_gc (v := .ref o1) rfl ⟨_, mO, rfl⟩) (pa_cons (pv 3) pa_nil))) pa_nil))))
    (C8.pss_cut (ps_set (i := 5) scLtb.nd rfl (Or.inl rfl) (pe_use UMs hr3 rfl pass0 (pa_cons (pe_use UPw hr4 rfl pass0 (pa_cons (pv 4) (pa_cons (pe_tup (pa_cons (pe_un un_neg (pv 0)) (pa_cons pe_int pa_nil))) pa_nil))) (pa_cons (pe_use UPo hr3 rfl pass0 (pa_cons (pv 3) (pa_cons (pe_un un_neg (pv 0)) pa_nil))) pa_nil))))
    (C8.pss_cut (ps_set (i := 6) scLtb.nd rfl (Or.inl rfl) (pe_lst pa_nil))
    (pss_cons (ps_for PassesOwn.never rfl (pi_range2 rfl mr (pa_cons (pe_un un_neg (pv 0)) (pa_cons (pe_op op_sub (pv 2) (pe_op op_mul pe_int (pv 0))) pa_nil))) (pg_name (i := 7) scLtb.nd rfl (Or.inl rfl)) (C8.pss_cut (ps_set (i := 8) scLtb.nd rfl (Or.inl rfl) (pe_ifExp (pt_cmpR op_eq (pv 7) pe_int (nomark _)) (pe_use ULg hr4 rfl pass0 (pa_cons (pv 4) pa_nil)) (pv 5)))
    (pss_cons (ps_expr (pe_bm PySem.F.plainAttrs_list PySem.F.slot_list_append PySem.F.type_list_append mt_append (pv 6) (pa_cons (pe_slice sl_list (pe_op op_cat (pe_op op_rep (pe_lst (pa_cons (C8.pe_gc (v := .ref o0) rfl ⟨_, mZ, rfl⟩) pa_nil)) (pe_op op_add (pv 7) (pv 0))) (pv 8)) po_none (po_some (pv 2))) pa_nil))) (pss_one (ps_set (i := 5) scLtb.nd rfl (Or.inl rfl) (pe_use UMl hr2 rfl pass0 (pa_cons (pv 5) (pa_cons (pv 1) pa_nil)))))))) (pss_one (ps_ret (pv 6)))))))), ?_⟩
  have l1 : 1 ≤ us.length := by omega
  have sM : SmL M := ⟨ca.m0, Nat.lt_trans ca.m (Nat.pow_lt_pow_right (by decide) (by decide))⟩
  have au : AllO us := ca.u.ok sM (by decide)
  have p1 : us.map (· * (1 : Rat)) = us := by
    have : (fun q : Rat => q * 1) = id := funext fun q => Rat.mul_one q
    rw [this, List.map_id]
  obtain ⟨xa, xs, rfl, hxa, nx⟩ := id hx
  have lx : xs.length = us.length := nx.1
  obtain ⟨y0, ey, ny⟩ := nx.get' (i := 0) (by omega)
  have s0 : us[0] = ser us 0 := by
    have := ser_at (qs := us) (k := 0) (by omega)
    rw [List.getElem?_eq_getElem (by omega)] at this
    exact Option.some.inj this
  rw [s0, u0] at ny
  refine ⟨fun σ G => G = H ∧ σ = [some (.int (fl : Nat)), some (.ref xa), some (.int (us.length : Nat)), some y0, none, none, none, none, none], ?_, ?_⟩
  · refine ⟨_, rfl, xa, xs, rfl, .inl (SqL.of hxa), _, rfl, xa, xs, 0, y0, rfl, rfl, SqL.of hxa, at_of (j := 0) rfl ey, _, _, rfl, rfl, ?_⟩
    rw [lx]
    rfl
  rintro σ G ⟨rfl, rfl⟩
  refine ⟨fun σ G' => Same G G' ∧ ∃ vu, σ = [some (.int (fl : Nat)), some (.ref xa), some (.int (us.length : Nat)), some y0, some vu, none, none, none, none] ∧ Ls K G' vu us, ?_, ?_⟩
  · have o1n : ∀ {G : Hp}, Nq K G (.ref o1) 1 := ⟨_, rfl, .inr k1⟩
    refine ⟨_, rfl, _, rfl, .ref o1, y0, 1, 1, rfl, o1n, ny, Ok.one, Ok.one, by decide, by decide, fun t G1 s1 nt et => ?_⟩
    rw [show (1 : Rat) / 1 = 1 by decide +kernel] at et
    have t1 : Nq K G1 (.ref t) 1 := .at et
    refine ⟨.ref xa, .ref t, us, 1, rfl, hx.same s1, t1, by omega, au, Ok.one, fun b G2 ys s2 nb hb mb => ?_⟩
    rw [p1] at mb
    exact ⟨s1.trans s2, .ref b, rfl, b, ys, rfl, hb, mb⟩
  rintro σ G1 ⟨s1, vu, rfl, lu⟩
  refine ⟨fun σ G' => Same G G' ∧ ∃ vp, σ = [some (.int (fl : Nat)), some (.ref xa), some (.int (us.length : Nat)), some y0, some vu, some vp, none, none, none] ∧ Ls K G' vu us ∧ Ls K G' vp (pwL us (tR 0 fl)), ?_, ?_⟩
  · refine ⟨_, rfl, _, rfl, fl, rfl, (by show 2 ≤ sizeLine; decide), fun t nt => ?_⟩
    have s2 := new_same nt (HO.tup [V.int (-((fl : Nat) : Int)), .int 1])
    have tn : Nq K (upd G1 t (HO.tup [V.int (-((fl : Nat) : Int)), .int 1])) (.ref t) (tR 0 fl) := ⟨t, rfl, .inl (by rw [upd_same]; show some (HO.tup [V.int (-((fl : Nat) : Int)), .int 1]) = some (HO.tup [V.int (((0 : Nat) : Int) - (fl : Int)), .int 1]); rw [show (((0 : Nat) : Int) - (fl : Int)) = -((fl : Nat) : Int) by omega])⟩
    refine ⟨vu, .ref t, us, tR 0 fl, rfl, lu.same s2, tn, l1, by omega, u0, ca.pw (tR_d (by omega) (by omega)), fun b G2 ys s3 nb hb mb => ?_⟩
    have s123 := s1.trans (s2.trans s3)
    refine ⟨_, rfl, _, rfl, fl, rfl, y0, fl, rfl, ny.same s123, f1, by omega, fun t2 G4 s4 nt2 et2 => ?_⟩
    refine ⟨.ref b, .ref t2, pwL us (tR 0 fl), 1, rfl, Ls.same ⟨b, ys, rfl, hb, mb⟩ s4, .at et2, by rw [pwL_len]; omega, (ca.p _ (tR_d (by omega) (by omega))).ok sM (by decide), Ok.one, fun b5 G5 zs s5 nb5 hb5 mb5 => ?_⟩
    have p2 : (pwL us (tR 0 fl)).map (· * (1 : Rat)) = pwL us (tR 0 fl) := by
      have : (fun q : Rat => q * 1) = id := funext fun q => Rat.mul_one q
      rw [this, List.map_id]
    rw [p2] at mb5
    exact ⟨s123.trans (s4.trans s5), .ref b5, rfl, lu.same (s2.trans (s3.trans (s4.trans s5))), b5, zs, rfl, hb5, mb5⟩
  clear s1 lu
  rintro σ G2 ⟨s1, vp, rfl, lu, lp⟩
  refine ⟨fun σ G' => Same G G' ∧ ∃ fb, σ = [some (.int (fl : Nat)), some (.ref xa), some (.int (us.length : Nat)), some y0, some vu, some vp, some (.ref fb), none, none] ∧ Ls K G' vu us ∧ Ls K G' vp (pwL us (tR 0 fl)) ∧ G fb = none ∧ vu ≠ .ref fb ∧ vp ≠ .ref fb ∧ G' fb = some (.lst []), ?_, ?_⟩
  · exact ⟨(by show 0 ≤ sizeLine; decide), fun fb nf => ⟨s1.trans (new_same nf _), fb, rfl, lu.same (new_same nf _), lp.same (new_same nf _), s1.free nf, (by obtain ⟨b, _, rfl, hb, _⟩ := lu; exact fun z => by rw [V.ref.inj z, nf] at hb; cases hb), (by obtain ⟨b, _, rfl, hb, _⟩ := lp; exact fun z => by rw [V.ref.inj z, nf] at hb; cases hb), upd_same⟩⟩
  clear s1 lu lp
  rintro σ G3 ⟨s1, fb, rfl, lu, lp, nf, uf, pf, hf⟩
  have xf : xa ≠ fb := fun z => by rw [z, nf] at hxa; cases hxa
  have pws : ∀ i, mulL (pwL us (tR i fl)) us = pwL us (tR (i + 1) fl) := fun i => by
    have e : tR (i + 1) fl = tR i fl + 1 := by
      unfold tR
      rw [show (((i + 1 : Nat) : Int) - (fl : Int)) = ((i : Int) - (fl : Int)) + 1 by omega, Rat.intCast_add]
      rfl
    rw [e, pw_add _ _ l1, pw_one l1 u0]
  refine ⟨_, rfl, fl, rfl, _, rfl, _, rfl, 2, fl, rfl, rfl, .inl ⟨by decide, by decide⟩, (us.length : Nat), (2 : Int) * (fl : Nat), rfl, rfl, -((fl : Nat) : Int), ((us.length : Nat) : Int) - 2 * ((fl : Nat) : Int), rfl, ⟨by omega, by omega, by omega, by omega⟩, for_range (lo := -((fl : Nat) : Int)) (n := (((us.length : Nat) : Int) - 2 * ((fl : Nat) : Int) - -((fl : Nat) : Int)).toNat) (fun i σ G' => Same G G' ∧ ∃ vp v7 v8 zs, σ = [some (.int (fl : Nat)), some (.ref xa), some (.int (us.length : Nat)), some y0, some vu, some vp, some (.ref fb), v7, v8] ∧ Ls K G' vu us ∧ Ls K G' vp (pwL us (tR i fl)) ∧ vp ≠ .ref fb ∧ G' fb = some (.lst zs) ∧ Lsl K G' zs ((List.range i).map (ltR us fl)) ∧ ∀ z ∈ zs, z ≠ .ref fb) ⟨s1, vp, none, none, [], rfl, lu, lp, pf, hf, ⟨rfl, fun i x r h _ => by simp at h⟩, fun _ h => nomatch h⟩ ?_ ?_⟩
  · rintro i σ G4 hi ⟨s4, vp, v7, v8, zs, rfl, lu, lp, pf, hf, lz, nz⟩
    have hi' : i < us.length - fl := by omega
    refine ⟨fun σ G' => Same G G' ∧ Same G4 G' ∧ ∃ vq, σ = [some (.int (fl : Nat)), some (.ref xa), some (.int (us.length : Nat)), some y0, some vu, some vp, some (.ref fb), some (.int (-((fl : Nat) : Int) + (i : Int))), some vq] ∧ Ls K G' vq (ltP us fl i), ?_, ?_⟩
    · refine ⟨_, rfl, rfl, _, rfl, ?_⟩
      by_cases c : i = fl
      · rw [decide_eq_true (show V.int (-((fl : Nat) : Int) + (i : Int)) = .int 0 by congr 1; omega)]
        refine iteT ⟨_, rfl, vu, us, rfl, lu, l1, by omega, u0, ca.ls, fun b G5 ys s5 nb hb mb => ⟨s4.trans s5, s5, .ref b, rfl, b, ys, rfl, hb, ?_⟩⟩
        unfold ltP
        rw [if_pos c]
        exact mb
      · rw [decide_eq_false (show ¬ V.int (-((fl : Nat) : Int) + (i : Int)) = .int 0 from fun z => by have := V.int.inj z; omega)]
        refine iteF ⟨_, rfl, s4, Same.refl _, vp, rfl, ?_⟩
        unfold ltP
        rw [if_neg c]
        exact lp
    rintro σ G5 ⟨s5, s45, vq, rfl, lq⟩
    obtain ⟨vqa, qs, rfl, hq, nq⟩ := id lq
    have lqs : qs.length = us.length := by
      rw [nq.1]
      unfold ltP
      split
      · exact lgL_len l1
      · exact pwL_len us _
    have hf5 := s45 _ _ hf
    refine ⟨_, rfl, .inl ⟨rfl, _, SqL.of hf5⟩, (by show 1 ≤ sizeLine; decide), fun c nc => ?_⟩
    have s6 := new_same nc (HO.lst [V.ref o0])
    refine ⟨_, rfl, _, rfl, _, _, rfl, rfl, c, -((fl : Nat) : Int) + (i : Int) + (fl : Nat), [.ref o0], rfl, rfl, upd_same, by omega, by omega, (by show 1 * _ ≤ sizeLine; exact Nat.le_of_lt (small1000 (by omega))), fun d nd => ?_⟩
    have rep : (List.replicate (-((fl : Nat) : Int) + (i : Int) + (fl : Nat)).toNat [V.ref o0]).flatten = List.replicate i (.ref o0) := by
      rw [List.flatten_replicate_singleton]
      congr 1
      omega
    rw [rep]
    have s7 := new_same nd (HO.lst (List.replicate i (V.ref o0)))
    have hd7 : upd (upd G5 c (HO.lst [V.ref o0])) d (HO.lst (List.replicate i (V.ref o0))) d = some (.lst (List.replicate i (V.ref o0))) := upd_same
    have s67 := s6.trans s7
    generalize upd (upd G5 c (HO.lst [V.ref o0])) d (HO.lst (List.replicate i (V.ref o0))) = G7 at s67 hd7
    refine ⟨_, rfl, d, vqa, _, _, rfl, rfl, hd7, s67 _ _ hq, Nat.le_of_lt (small1000 (by rw [List.length_replicate]; omega)), fun e ne => ?_⟩
    have s8 := new_same ne (HO.lst (List.replicate i (V.ref o0) ++ qs))
    have n8 : Nl K (upd G7 e (HO.lst (List.replicate i (V.ref o0) ++ qs))) (List.replicate i (V.ref o0) ++ qs) (List.replicate i 0 ++ ltP us fl i) := (reps ⟨o0, rfl, .inr k0⟩ i).app (nq.same (s67.trans s8))
    have he8 : upd G7 e (HO.lst (List.replicate i (V.ref o0) ++ qs)) e = some (.lst (List.replicate i (V.ref o0) ++ qs)) := upd_same
    generalize upd G7 e (HO.lst (List.replicate i (V.ref o0) ++ qs)) = G8 at s8 n8 he8
    refine ⟨_, rfl, (us.length : Nat), rfl, e, _, rfl, SqL.of he8, fun p np => ?_⟩
    rw [cut_take]
    have s9 := new_same np (HO.lst ((List.replicate i (V.ref o0) ++ qs).take us.length))
    have n9 : Ls K (upd G8 p (HO.lst ((List.replicate i (V.ref o0) ++ qs).take us.length))) (.ref p) (ltR us fl i) := ⟨p, _, rfl, upd_same, (n8.take us.length).same s9⟩
    generalize upd G8 p (HO.lst ((List.replicate i (V.ref o0) ++ qs).take us.length)) = G9 at s9 n9
    have sB := s67.trans (s8.trans s9)
    have hf9 := sB _ _ hf5
    have pfb : p ≠ fb := fun z => by rw [z, (s67.trans s8) _ _ hf5] at np; cases np
    obtain ⟨l10, n10⟩ := rows_snoc (lz.same (s45.trans sB)) hf9 nz n9 pfb
    have lzs : zs.length = i := by rw [lz.1, List.length_map, List.length_range]
    refine ⟨fb, zs, _, rfl, rfl, hf9, small1000 (by omega), ?_⟩
    have bu : But fb G9 (upd G9 fb (.lst (zs ++ [.ref p]))) := fun b o n h => by rw [upd_ne n]; exact h
    have lu10 : Ls K (upd G9 fb (.lst (zs ++ [.ref p]))) vu us := (lu.same (s45.trans sB)).butL hf9 uf bu
    have lp10 : Ls K (upd G9 fb (.lst (zs ++ [.ref p]))) vp (pwL us (tR i fl)) := (lp.same (s45.trans sB)).butL hf9 pf bu
    have lx10 : Ls K (upd G9 fb (.lst (zs ++ [.ref p]))) (.ref xa) us := (hx.same (s5.trans sB)).butL hf9 (fun z => xf (V.ref.inj z)) bu
    have hf10 : upd G9 fb (.lst (zs ++ [.ref p])) fb = some (.lst (zs ++ [.ref p])) := upd_same
    have s10 : Same G (upd G9 fb (.lst (zs ++ [.ref p]))) := fun b o hb => by
      rw [upd_ne (fun z => by rw [z, nf] at hb; cases hb)]
      exact (s5.trans sB) _ _ hb
    generalize upd G9 fb (.lst (zs ++ [.ref p])) = G10 at l10 n10 lu10 lp10 lx10 hf10 s10
    refine ⟨_, rfl, _, rfl, vp, .ref xa, _, us, M, 1200, M, 1200, rfl, lp10, lx10, by rw [pwL_len], by rw [pwL_len]; omega, sM, by decide, sM, by decide, ca.p _ (tR_d (by omega) (by omega)), ca.u, fun b G11 ys s11 nb hb mb => ?_⟩
    rw [pws] at mb
    refine ⟨s10.trans s11, .ref b, _, _, zs ++ [.ref p], rfl, lu10.same s11, ⟨b, ys, rfl, hb, mb⟩, (fun z => by rw [V.ref.inj z, hf10] at nb; cases nb), s11 _ _ hf10, ?_, n10⟩
    rw [List.range_succ, List.map_append]
    exact l10.same s11
  · rintro σ G4 ⟨s4, vp, v7, v8, zs, rfl, lu, lp, pf, hf, lz, nz⟩
    rw [show (((us.length : Nat) : Int) - 2 * ((fl : Nat) : Int) - -((fl : Nat) : Int)).toNat = us.length - fl by omega] at lz
    exact ⟨_, rfl, q fb G4 zs s4 nf hf lz⟩
end
end Kx
end
section
set_option maxHeartbeats 4000000
namespace Kx
open PySem PySem.Spec PyProof.Rows L2 RZ
/-! ### tallies -/
def taN : List Str := ["_numbers", "flat", "order", "last", "log"]
def taF (b : Addr) (fl n : Nat) (lg : V) : List (Str × V) := [("_numbers", .ref b), ("flat", .int (fl : Nat)), ("order", .int ((fl : Nat) + (n : Nat) : Int)), ("last", .int (((n : Nat) : Int) - (fl : Nat) - 1)), ("log", lg)]
def LgV (K : PySem.W.Frag) (H : Hp) (lg : V) (fl : Nat) (cs : List Rat) : Prop := (cs.length ≤ fl ∧ lg = .non) ∨ (fl < cs.length ∧ Nq K H lg (ser cs fl))
def TaAt (K : PySem.W.Frag) (TA : Addr) (H : Hp) (v : V) (fl : Nat) (cs : List Rat) : Prop := ∃ (x dx b : Addr) (xs : List V) (lg : V), v = .ref x ∧ H x = some (.ins TA dx (taF b fl cs.length lg)) ∧ H b = some (.lst xs) ∧ Nl K H xs cs ∧ LgV K H lg fl cs ∧ 1 ≤ cs.length
theorem LgV.same {K : PySem.W.Frag} {H H' : Hp} {lg : V} {fl : Nat} {cs : List Rat} (h : LgV K H lg fl cs) (s : Same H H') : LgV K H' lg fl cs := h.imp id fun h => ⟨h.1, h.2.same s⟩
theorem TaAt.same {K : PySem.W.Frag} {TA : Addr} {H H' : Hp} {v : V} {fl : Nat} {cs : List Rat} (h : TaAt K TA H v fl cs) (s : Same H H') : TaAt K TA H' v fl cs := by
  obtain ⟨x, dx, b, xs, lg, e, h1, h2, h3, h4, h5⟩ := h
  exact ⟨x, dx, b, xs, lg, e, s _ _ h1, s _ _ h2, h3.same s, h4.same s, h5⟩
def spCkt (K : PySem.W.Frag) : Sp := fun vs H Q _ => ∃ (fl : Nat) (a : Addr) (xs : List V) (cs : List Rat), vs = [.int (fl : Nat), .ref a] ∧ H a = some (.lst xs) ∧ Nl K H xs cs ∧ 1 ≤ fl ∧ fl ≤ 23 ∧ 1 ≤ cs.length ∧ fl + cs.length ≤ 24 ∧ ∀ b H', Same H H' → H b = none → H' b = some (.lst xs) → Q (.ref b) H'
def spTaI (K : PySem.W.Frag) (TA : Addr) : Sp := fun vs H Q _ => ∃ (x dx a : Addr) (fl : Nat) (xs : List V) (cs : List Rat), vs = [.ref x, .int (fl : Nat), .ref a] ∧ a ≠ x ∧ H x = some (.ins TA dx []) ∧ H a = some (.lst xs) ∧ Nl K H xs cs ∧ 1 ≤ fl ∧ fl ≤ 23 ∧ 1 ≤ cs.length ∧ fl + cs.length ≤ 24 ∧
  ∀ H' b lg, But x H H' → H b = none → H' x = some (.ins TA dx (taF b fl cs.length lg)) → H' b = some (.lst xs) → Nl K H' xs cs → LgV K H' lg fl cs → Q .non H'
abbrev nCkt : List Str := ["flat", "numbers", "order"]
abbrev nTaI : List Str := ["self", "flat", "numbers"]
section
variable {P : Program} {w : World} {K : PySem.W.Frag} {mg : Str → Option Value} {base : Heap} {f o0 o1 CF TA : Addr} {fd : FuncData}
theorem scCkt : FnScope nCkt ["flat", "numbers"] (defScope F_checked_tally) := ⟨rfl, rfl, rfl, by decide +kernel, rfl, by decide +kernel, by decide +kernel⟩
theorem ok_cktally (F : Fun K "checked_tally" "checked_tally" F_checked_tally f fd) (mn : mg "len" = none) (ml : mg "list" = none) (mHO : ∃ u, mg "HIGHEST_ORDER" = some u ∧ RelV (.int 24) u) (UB : Use P w K mg base CX0 2 "is_between" ["value", "low", "high"] (spBtw K) []) (UI : Use P w K mg base CX0 1 "is_listing" ["value"] (spIl K) []) (UF : Use P w K mg base (L2.CX P w) 4 "check_fractions" ["numbers"] (spCf K CF) []) : FnOk P w K mg base (L2.CX P w) 5 f fd ["flat", "numbers"] (spCkt K) := by
  refine F.okX scCkt (fun vs H Q E h => ?_) (fun cdv A outer s H vs Q E hr h => ?_)
  · obtain ⟨fl, a, xs, cs, rfl, _⟩ := h
    rfl
  obtain ⟨fl, a, xs, cs, rfl, ha, nx, f1, f23, c1, l24, q⟩ := h
  have hr1 := hr.mono (show 1 ≤ 4 by decide)
  have hr2 := hr.mono (show 2 ≤ 4 by decide)
  have lx : xs.length = cs.length := nx.1
  refine ⟨_, (pss_cons (ps_if (pt_not (pt_val (pe_use UB hr2 rfl pass0 (pa_cons (pv 0) (pa_cons pe_int (pa_cons (pe_op op_sub (C8.pe_gc rfl mHO) pe_int) pa_nil)))))) (pss_one ps_never) pss_nil) (pss_cons (ps_if (pt_not (pt_val (pe_use UI hr1 rfl pass0 (pa_cons (pv 1) pa_nil)))) (pss_one ps_never) pss_nil) (pss_cons (ps_set (i := 2) scCkt.nd rfl (Or.inl rfl) (pe_op op_add (pv 0) (pe_callB call_len_seq rfl mn PySem.boot_len (pa_cons (pv 1) pa_nil)))) (pss_cons (ps_if (PW.pt (pw_or (pt_cmpR op_eq (pe_callB call_len_seq rfl mn PySem.boot_len (pa_cons (pv 1) pa_nil)) pe_int (nomark _)) (pw_or1 (pt_cmpR op_gt (pv 2) (C8.pe_gc rfl mHO) (nomark _))))) (pss_one ps_never) pss_nil) (pss_cons (ps_expr (pe_use (E := E) UF hr rfl (passes_call (takes_of rfl rfl rfl rfl) (fun _ _ _ _ h => h)) (pa_cons (pv 1) pa_nil))) (pss_one (ps_ret (pe_callTy call_list_of rfl ml (by decide +kernel) (pa_cons (pv 1) pa_nil))))))))), ?_⟩
  refine ⟨_, rfl, 24, 1, rfl, rfl, .int (fl : Nat), 1, 23, true, rfl, InR.yes (by omega) (by omega), _, rfl, iteF ?_⟩
  refine ⟨_, rfl, .ref a, true, rfl, SqH.lsv (.inl ha), fun H1 s1 => ⟨_, rfl, iteF ?_⟩⟩
  have ha1 := s1 _ _ ha
  refine ⟨_, rfl, _, rfl, a, xs, rfl, .inl (SqL.of ha1), fl, (xs.length : Nat), rfl, rfl, ?_⟩
  refine ⟨_, rfl, a, xs, rfl, .inl (SqL.of ha1), rfl, _, rfl, ?_⟩
  rw [decide_eq_false (show ¬ V.int ((xs.length : Nat) : Int) = .int 0 from fun z => by have := V.int.inj z; omega)]
  refine iteF ⟨_, rfl, ((fl : Nat) : Int) + (xs.length : Nat), 24, rfl, rfl, _, rfl, ?_⟩
  rw [decide_eq_false (show ¬ ((fl : Nat) : Int) + (xs.length : Nat) > 24 by omega)]
  refine iteF ⟨_, rfl, a, xs, _, rfl, .inl ha1, (nx.same s1).its, fun _ H2 s2 => ?_, fun k hk => ?_⟩
  · exact ⟨_, rfl, a, xs, rfl, .inl (SqL.of (s2 _ _ ha1)), fun c nc => q c _ (s1.trans (s2.trans (new_same nc _))) ((s1.trans s2).free nc) upd_same⟩
  · rw [bad_rep] at hk
    cases hk
theorem scTaI : FnScope nTaI nTaI (defScope C_Tally_init) := ⟨rfl, rfl, rfl, by decide +kernel, rfl, by decide +kernel, by decide +kernel⟩
theorem ok_tainit (G : Fun K "__init__" "Tally.__init__" C_Tally_init f fd) (c : Cls K TA) (nA : ∀ n ∈ taN, NoAttr K TA n) (mn : mg "len" = none) (UC : Use P w K mg base (L2.CX P w) 5 "checked_tally" ["flat", "numbers"] (spCkt K) []) : FnOk P w K mg base (L2.CX P w) 6 f fd ["self", "flat", "numbers"] (spTaI K TA) := by
  refine G.okX scTaI (fun vs H Q E h => ?_) (fun cdv A outer s H vs Q E hr h => ?_)
  · obtain ⟨x, dx, a, fl, xs, cs, rfl, _⟩ := h
    rfl
  obtain ⟨x, dx, a, fl, xs, cs, rfl, ax, hx, ha, nx, f1, f23, c1, l24, q⟩ := h
  have n1 := nA "_numbers" (by simp [taN])
  have n2 := nA "flat" (by simp [taN])
  have n3 := nA "order" (by simp [taN])
  have n4 := nA "last" (by simp [taN])
  have n5 := nA "log" (by simp [taN])
  have lx : xs.length = cs.length := nx.1
  refine ⟨_, (pss_cons (ps_fld (pv 0) (pe_use (E := E) UC hr rfl (passes_call (takes_of rfl rfl rfl rfl) (fun _ _ _ _ h => h)) (pa_cons (pv 1) (pa_cons (pv 2) pa_nil))) rfl) (pss_cons (ps_fld (pv 0) (pv 1) rfl) (pss_cons (ps_fld (pv 0) (pe_op op_add (pv 1) (pe_callB call_len_seq rfl mn PySem.boot_len (pa_cons (pv 2) pa_nil))) rfl) (pss_cons (ps_fld (pv 0) (pe_op op_sub (pe_op op_sub (pe_callB call_len_seq rfl mn PySem.boot_len (pa_cons (pv 2) pa_nil)) (pv 1)) pe_int) rfl) (pss_one (ps_fld (pv 0) (pe_ifExp (pt_cmpR op_lt (pe_fld (pv 0) rfl) pe_int (nomark _)) pe_non (pe_ix ix_list (pe_fld (pv 0) rfl) (pv 1) (fun _ _ => rfl))) rfl)))))), ?_⟩
  refine ⟨_, rfl, _, rfl, fl, a, xs, cs, rfl, ha, nx, f1, f23, c1, l24, fun b H1 s1 nb hb => ?_⟩
  have xb : b ≠ x := fun z => by rw [z, hx] at nb; cases nb
  have g1 : Stg K H H1 x TA dx [] b xs cs := ⟨But.same s1, s1 _ _ hx, hb, nx.same s1, xb⟩
  have ha1 := s1 _ _ ha
  refine ⟨_, rfl, x, TA, dx, _, rfl, g1.hx, c, n1, by decide, ?_⟩
  have g2 := g1.put (putF "_numbers" (.ref b) [])
  have ha2 : upd H1 x (.ins TA dx (putF "_numbers" (.ref b) [])) a = some (.lst xs) := by rw [upd_ne ax]; exact ha1
  generalize upd H1 x (.ins TA dx (putF "_numbers" (.ref b) [])) = H2 at g2 ha2
  refine ⟨_, rfl, _, rfl, x, TA, dx, _, rfl, g2.hx, c, n2, (by show 1 < 1000; decide), ?_⟩
  have g3 := g2.put (putF "flat" (.int (fl : Nat)) (putF "_numbers" (.ref b) []))
  have ha3 : upd H2 x (.ins TA dx (putF "flat" (.int (fl : Nat)) (putF "_numbers" (.ref b) []))) a = some (.lst xs) := by rw [upd_ne ax]; exact ha2
  generalize upd H2 x (.ins TA dx (putF "flat" (.int (fl : Nat)) (putF "_numbers" (.ref b) []))) = H3 at g3 ha3
  refine ⟨_, rfl, _, rfl, a, xs, rfl, .inl (SqL.of ha3), fl, (xs.length : Nat), rfl, rfl, _, rfl, x, TA, dx, _, rfl, g3.hx, c, n3, (by show 2 < 1000; decide), ?_⟩
  rw [lx]
  have g4 := g3.put (putF "order" (.int ((fl : Nat) + (cs.length : Nat) : Int)) (putF "flat" (.int (fl : Nat)) (putF "_numbers" (.ref b) [])))
  have ha4 : upd H3 x (.ins TA dx (putF "order" (.int ((fl : Nat) + (cs.length : Nat) : Int)) (putF "flat" (.int (fl : Nat)) (putF "_numbers" (.ref b) [])))) a = some (.lst xs) := by rw [upd_ne ax]; exact ha3
  generalize upd H3 x (.ins TA dx (putF "order" (.int ((fl : Nat) + (cs.length : Nat) : Int)) (putF "flat" (.int (fl : Nat)) (putF "_numbers" (.ref b) [])))) = H4 at g4 ha4
  refine ⟨_, rfl, a, xs, rfl, .inl (SqL.of ha4), _, rfl, (xs.length : Nat), fl, rfl, rfl, ((xs.length : Nat) : Int) - (fl : Nat), 1, rfl, rfl, _, rfl, x, TA, dx, _, rfl, g4.hx, c, n4, (by show 3 < 1000; decide), ?_⟩
  rw [lx]
  have g5 := g4.put (putF "last" (.int (((cs.length : Nat) : Int) - (fl : Nat) - 1)) (putF "order" (.int ((fl : Nat) + (cs.length : Nat) : Int)) (putF "flat" (.int (fl : Nat)) (putF "_numbers" (.ref b) []))))
  generalize upd H4 x (.ins TA dx (putF "last" (.int (((cs.length : Nat) : Int) - (fl : Nat) - 1)) (putF "order" (.int ((fl : Nat) + (cs.length : Nat) : Int)) (putF "flat" (.int (fl : Nat)) (putF "_numbers" (.ref b) []))))) = H5 at g5
  have fin : ∀ lg, LgV K H5 lg fl cs → Q .non (upd H5 x (.ins TA dx (putF "log" lg (putF "last" (.int (((cs.length : Nat) : Int) - (fl : Nat) - 1)) (putF "order" (.int ((fl : Nat) + (cs.length : Nat) : Int)) (putF "flat" (.int (fl : Nat)) (putF "_numbers" (.ref b) []))))))) := fun lg hl => by
    have g6 := g5.put (putF "log" lg (putF "last" (.int (((cs.length : Nat) : Int) - (fl : Nat) - 1)) (putF "order" (.int ((fl : Nat) + (cs.length : Nat) : Int)) (putF "flat" (.int (fl : Nat)) (putF "_numbers" (.ref b) [])))))
    exact q _ b lg g6.u nb g6.hx g6.hb g6.nx (hl.imp id fun h => ⟨h.1, h.2.but g5.hx but_put⟩)
  refine ⟨_, rfl, x, TA, dx, _, _, rfl, g5.hx, c, n4, rfl, ((cs.length : Nat) : Int) - (fl : Nat) - 1, 0, rfl, rfl, _, rfl, ?_⟩
  by_cases e : cs.length ≤ fl
  · rw [decide_eq_true (show ((cs.length : Nat) : Int) - (fl : Nat) - 1 < 0 by omega)]
    refine iteT ⟨_, rfl, x, TA, dx, _, rfl, g5.hx, c, n5, (by show 4 < 1000; decide), fin .non (.inl ⟨e, rfl⟩)⟩
  · rw [decide_eq_false (show ¬ ((cs.length : Nat) : Int) - (fl : Nat) - 1 < 0 by omega)]
    obtain ⟨y, ey, ny⟩ := g5.nx.get' (i := fl) (by omega)
    have sv : cs[fl]'(by omega) = ser cs fl := by
      have := ser_at (qs := cs) (k := fl) (by omega)
      rw [List.getElem?_eq_getElem (by omega)] at this
      exact Option.some.inj this
    rw [sv] at ny
    refine iteF ⟨_, rfl, x, TA, dx, _, _, rfl, g5.hx, c, n1, rfl, _, rfl, b, xs, (fl : Nat), y, rfl, rfl, SqL.of g5.hb, at_of (j := fl) rfl ey, _, rfl, x, TA, dx, _, rfl, g5.hx, c, n5, (by show 4 < 1000; decide), fin y (.inr ⟨by omega, ny⟩)⟩
end
end Kx
end
section
set_option maxHeartbeats 4000000
namespace Kx
open PySem PySem.Spec PyProof.Rows L2 RZ
/-! ### the gains of the letters -/
structure CrC (us : List Rat) (fl M : Nat) : Prop where
  u0 : ser us 0 = 1
  lo : ∀ j, 1 ≤ j → j < fl → ser us j = 0
  a0 : ser us fl ≠ 0
  f1 : 1 ≤ fl
  fn : fl < us.length
  l11 : us.length ≤ 11
  c : CrA M us
theorem flS_cr {us : List Rat} {fl M : Nat} (h : CrC us fl M) : kindS us = "creep" ∧ flS us = .int (fl : Nat) := by
  have f1 := h.f1
  have fn := h.fn
  have e0 : us.getD 0 0 = 1 := h.u0
  have ef : us[fl]? = some (ser us fl) := ser_at fn
  have mem : ser us fl ∈ us.drop 1 := by
    refine List.mem_of_getElem? (i := fl - 1) ?_
    rw [List.getElem?_drop, show 1 + (fl - 1) = fl by omega]
    exact ef
  have k : kindS us = "creep" := by
    unfold kindS
    rw [e0, if_neg (by decide), if_pos rfl, if_neg]
    intro z
    have := List.all_eq_true.mp z _ mem
    exact h.a0 (of_decide_eq_true this)
  refine ⟨k, ?_⟩
  rw [flS_yes k]
  unfold hgtV
  rw [hgtN_hit (us.drop 1) (fl - 1) 0 (ser us fl) (fun r hr => ?_) (by rw [List.getElem?_drop, show 1 + (fl - 1) = fl by omega]; exact ef) h.a0]
  · show V.int (1 + ((0 + (fl - 1) : Nat) : Int)) = _
    congr 1
    omega
  · obtain ⟨i, hi⟩ := List.getElem?_of_mem hr
    rw [List.getElem?_take] at hi
    split at hi
    · rename_i c
      rw [List.getElem?_drop, ser_at (show 1 + i < us.length by omega), h.lo (1 + i) (by omega) (by omega)] at hi
      exact (Option.some.inj hi).symm
    · cases hi
/-- a letter behind, from the place 0 on -/
def rwE (us : List Rat) (fl r m : Nat) : Rat := if r = fl then ser (lgL us) m else if m + fl < r then 0 else ser (pwL us (tR r fl)) (m + fl - r)
def rwR (us : List Rat) (fl r : Nat) : List Rat := (List.range (us.length - fl)).map (rwE us fl r)
theorem rw_eq {us : List Rat} {fl r : Nat} (l1 : 1 ≤ us.length) (fn : fl < us.length) (hr : r < us.length - fl) : (ltR us fl r).drop fl = rwR us fl r := by
  have lp : (ltP us fl r).length = us.length := by
    unfold ltP
    split
    · exact lgL_len l1
    · exact pwL_len us _
  apply List.ext_getElem?
  intro m
  unfold ltR rwR
  rw [List.getElem?_drop, List.getElem?_take, List.getElem?_map]
  by_cases c : m < us.length - fl
  · rw [if_pos (by omega), List.getElem?_range c]
    show _ = some (rwE us fl r m)
    by_cases d : fl + m < r
    · rw [List.getElem?_append_left (by rw [List.length_replicate]; exact d), List.getElem?_replicate, if_pos d]
      unfold rwE
      rw [if_neg (by omega), if_pos (by omega)]
    · rw [List.getElem?_append_right (by rw [List.length_replicate]; omega), List.length_replicate, ser_at (by rw [lp]; omega)]
      unfold rwE ltP
      by_cases e : r = fl
      · rw [if_pos e, if_pos e, e, show fl + m - fl = m by omega]
      · rw [if_neg e, if_neg e, if_neg (by omega), Nat.add_comm]
  · rw [if_neg (by omega), List.getElem?_eq_none (by rw [List.length_range]; omega)]
    rfl
theorem rw_gn {us : List Rat} {fl r : Nat} (h : r ≤ fl) : rwR us fl r = gnR us fl r := by
  unfold rwR gnR
  refine List.map_congr_left fun m _ => ?_
  unfold rwE gnE
  by_cases e : r = fl
  · rw [if_pos e, if_pos e]
  · rw [if_neg e, if_neg e, if_neg (by omega), if_neg (by omega)]
theorem map_set {α : Type} {n r : Nat} {F : Nat → α} {y : α} : ((List.range n).map F).set r y = (List.range n).map fun j => if j = r then y else F j := by
  apply List.ext_getElem?
  intro k
  rw [List.getElem?_set, List.getElem?_map, List.getElem?_map]
  by_cases c : r = k
  · subst c
    rw [if_pos rfl]
    by_cases d : r < n
    · rw [if_pos (by rw [List.length_map, List.length_range]; exact d), List.getElem?_range d]
      show _ = some (if r = r then y else F r)
      rw [if_pos rfl]
    · rw [if_neg (by rw [List.length_map, List.length_range]; exact d), List.getElem?_eq_none (by rw [List.length_range]; omega)]
      rfl
  · rw [if_neg c]
    by_cases d : k < n
    · rw [List.getElem?_range d]
      show _ = some (if k = r then y else F k)
      rw [if_neg (fun z => c z.symm)]
      rfl
    · rw [List.getElem?_eq_none (by rw [List.length_range]; omega)]
      rfl
/-- one is taken off at the own place -/
theorem rw_set {us : List Rat} {fl r : Nat} (l1 : 1 ≤ us.length) (h : fl < r) : (rwR us fl r).set (r - fl) 0 = gnR us fl r := by
  unfold rwR gnR
  rw [map_set]
  refine List.map_congr_left fun m _ => ?_
  unfold rwE gnE
  by_cases e : m = r - fl
  · rw [if_pos e, if_neg (by omega), if_pos (by omega)]
  · have rf : ¬ r = fl := by omega
    simp only [if_neg e, if_neg rf]
    by_cases d : m + fl < r
    · rw [if_pos d, if_pos (show m + fl ≤ r by omega)]
    · rw [if_neg d, if_neg (show ¬ m + fl ≤ r by omega)]
theorem rw_one {us : List Rat} {fl r : Nat} (l1 : 1 ≤ us.length) (h : fl < r) : rwE us fl r (r - fl) = 1 := by
  unfold rwE
  rw [if_neg (by omega), if_neg (by omega), show r - fl + fl - r = 0 by omega, pw_zero _ l1]
/-! lists of numbers, each new and none twice -/
/-- lists of numbers, each new and none twice -/
theorem lc_rowsD {K : PySem.W.Frag} {J : It} {n : Nat} {G : Hp → Prop} {Y : Nat → Hp → V → Hp → Prop} (w : Walk J n G Y) {g : TG} {te : TE} {vs : List Nat} {σ : L2.St} {H1 : Hp} {D : Addr} {Qd : Hp → Prop} (rows : List (List Rat))
    (hl : rows.length = n) (nD : H1 D = none) (hn : n ≤ 900) (hG : ∀ H, Same H1 H → G H)
    (hs : ∀ i r x H H' (k : V → Hp → Prop), rows[i]? = some r → Same H1 H → Y i H x H' → (∀ b H4, Same H H4 → H b = none → H4 b ≠ none → Ls K H4 (.ref b) r → k (.ref b) H4) → g x (wipe σ vs) H' fun σ2 H2 => wipe σ2 vs = wipe σ vs ∧ te σ2 H2 k)
    (hd : ∀ H xs, Same H1 H → H D = some (.lst xs) → Lsl K H xs rows → xs.Nodup → (∀ x ∈ xs, ∃ a, x = .ref a ∧ a ≠ D ∧ H1 a = none) → Qd H) :
    ∃ W : Nat → Nat → Hp → Prop, (∃ m, W 0 m (upd H1 D (.lst []))) ∧ ∀ i m H, W i m H →
      (J.stop i H ∧ Qd H) ∨ (J.go i H ∧ ∃ Nx : Hp → Prop, (∀ H', Nx H' → ∃ m', m' < m ∧ W (i + 1) m' H') ∧ ∀ x H', J.yld i H x H' → g x (wipe σ vs) H' fun σ2 H2 => wipe σ2 vs = wipe σ vs ∧ tYes σ2 H2 fun b H3 =>
        if b = true then te σ2 H3 fun y H4 => ∃ acc, H4 D = some (.lst acc) ∧ acc.length < sizeLine ∧ Nx (upd H4 D (.lst (acc ++ [y]))) else Nx H3) := by
  refine lc_it w (fun i H => Same H1 H ∧ ∃ xs, H D = some (.lst xs) ∧ xs.length = i ∧ xs.Nodup ∧ (∀ x ∈ xs, ∃ a, x = .ref a ∧ a ≠ D ∧ H1 a = none ∧ H a ≠ none) ∧ ∀ (j : Nat) y r, xs[j]? = some y → rows[j]? = some r → Ls K H y r) ⟨new_same nD _, [], upd_same, rfl, List.nodup_nil, fun _ h => (List.not_mem_nil h).elim, fun j y r h _ => by simp at h⟩ (fun i H _ h => hG H h.1) ?_ ?_
  · rintro i x H H' hi ⟨s1, xs, hx, hl', hn', ha, hR⟩ y
    have er := List.getElem?_eq_getElem (l := rows) (i := i) (by omega)
    have z := hs i _ x H H' (fun y H4 => ∃ acc, H4 D = some (.lst acc) ∧ acc.length < sizeLine ∧ (Same H1 (upd H4 D (.lst (acc ++ [y]))) ∧ ∃ xs, (upd H4 D (.lst (acc ++ [y]))) D = some (.lst xs) ∧ xs.length = i + 1 ∧ xs.Nodup ∧ (∀ x ∈ xs, ∃ a, x = .ref a ∧ a ≠ D ∧ H1 a = none ∧ (upd H4 D (.lst (acc ++ [y]))) a ≠ none) ∧ ∀ (j : Nat) z r, xs[j]? = some z → rows[j]? = some r → Ls K (upd H4 D (.lst (acc ++ [y]))) z r)) er s1 y (fun b H4 s4 nb hb r4 => ?_)
    · exact z
    · have h4 := s4 _ _ hx
      have bD : b ≠ D := fun z => by rw [z, hx] at nb; cases nb
      have sm : But D H4 (upd H4 D (.lst (xs ++ [.ref b]))) := fun e o n h => by rw [upd_ne n]; exact h
      refine ⟨xs, h4, small1000 (by omega), fun e o h => ?_, xs ++ [.ref b], upd_same, by rw [List.length_append, hl']; rfl, ?_, fun x hx' => ?_, fun j z r hz hr => ?_⟩
      · rw [upd_ne (ne_of_none h nD)]
        exact s4 _ _ (s1 _ _ h)
      · refine List.nodup_append.mpr ⟨hn', List.nodup_cons.mpr ⟨List.not_mem_nil, List.nodup_nil⟩, fun p hp q hq => ?_⟩
        rw [List.mem_singleton.mp hq]
        rintro rfl
        obtain ⟨a, ea, _, _, na⟩ := ha _ hp
        rw [V.ref.inj ea] at nb
        exact na nb
      · rcases List.mem_append.mp hx' with hp | hq
        · obtain ⟨a, ea, aD, n1, na⟩ := ha _ hp
          refine ⟨a, ea, aD, n1, ?_⟩
          rw [upd_ne aD]
          cases e : H a with
          | none => exact absurd e na
          | some o => rw [s4 _ _ e]; intro z; cases z
        · rw [List.mem_singleton.mp hq]
          refine ⟨b, rfl, bD, ?_, by rw [upd_ne bD]; exact hb⟩
          cases e : H1 b with
          | none => rfl
          | some o => rw [s1 _ _ e] at nb; cases nb
      · by_cases c : j < xs.length
        · rw [List.getElem?_append_left c] at hz
          refine ((hR j z r hz hr).same s4).butL h4 ?_ sm
          obtain ⟨a, ea, aD, _⟩ := ha z (List.mem_of_getElem? hz)
          rw [ea]
          exact fun q => aD (V.ref.inj q)
        · rw [List.getElem?_append_right (by omega)] at hz
          match hj : j - xs.length, hz with
          | 0, hz =>
            rw [← Option.some.inj (show some (V.ref b) = some z from hz)]
            obtain rfl : j = i := by omega
            rw [er] at hr
            rw [← Option.some.inj hr]
            exact r4.butL h4 (fun q => bD (V.ref.inj q)) sm
          | _ + 1, hz => simp at hz
  · rintro H ⟨s1, xs, hx, hl', hn', ha, hR⟩
    exact hd H xs s1 hx ⟨by omega, fun i x q h1 h2 => hR i x q h1 h2⟩ hn' fun x hx => by
      obtain ⟨a, ea, aD, n1, _⟩ := ha x hx
      exact ⟨a, ea, aD, n1⟩
theorem Nl.setD {K : PySem.W.Frag} {H : Hp} {D : Addr} {ys : List V} {rs : List Rat} {y : V} {r : Rat} {i : Nat} (h : Nl K H ys rs) (hD : H D = some (.lst ys)) (hy : Nq K H y r) : Nl K (upd H D (.lst (ys.set i y))) (ys.set i y) (rs.set i r) := by
  have bu : But D H (upd H D (.lst (ys.set i y))) := fun b o n h => by rw [upd_ne n]; exact h
  refine ⟨by rw [List.length_set, List.length_set, h.1], fun a x z h1 h2 => ?_⟩
  rw [List.getElem?_set] at h1 h2
  by_cases c' : i = a
  · subst c'
    rw [if_pos rfl] at h1 h2
    by_cases l : i < ys.length
    · rw [if_pos l] at h1
      rw [if_pos (by rw [← h.1]; exact l)] at h2
      rw [← Option.some.inj h1, ← Option.some.inj h2]
      exact hy.butL hD bu
    · rw [if_neg l] at h1
      cases h1
  · rw [if_neg c'] at h1 h2
    exact (h.2 a x z h1 h2).butL hD bu
theorem ixN_of {n i : Nat} (h : i < n) : ixN n (i : Int) = some i := by
  unfold ixN
  rw [if_pos (by omega), if_pos (by omega)]
  congr 1
def midR (us : List Rat) (fl i r : Nat) : List Rat := if fl + 1 + i ≤ r then rwR us fl r else gnR us fl r
theorem mid_set {us : List Rat} {fl i n : Nat} : ((List.range n).map (midR us fl i)).set (fl + 1 + i) (gnR us fl (fl + 1 + i)) = (List.range n).map (midR us fl (i + 1)) := by
  rw [map_set]
  refine List.map_congr_left fun r _ => ?_
  unfold midR
  by_cases c : r = fl + 1 + i
  · rw [if_pos c, if_neg (by omega), c]
  · rw [if_neg c]
    by_cases d : fl + 1 + i ≤ r
    · rw [if_pos d, if_pos (by omega)]
    · rw [if_neg d, if_neg (by omega)]
theorem len_mid (us : List Rat) (fl i r : Nat) : (midR us fl i r).length = us.length - fl := by
  unfold midR rwR gnR
  split <;> rw [List.length_map, List.length_range]
def spLtg (K : PySem.W.Frag) (S : Addr) : Sp := fun vs H Q _ => ∃ (v : V) (us : List Rat) (fl M : Nat), vs = [v] ∧ StF K S H v us ∧ CrC us fl M ∧ ∀ a H' xs, Same H H' → H a = none → H' a = some (.lst xs) → Lsl K H' xs (gnL us fl) → Q (.ref a) H'
abbrev nLtg : List Str := ["creep", "flat", "gains", "part", "place", "own"]
theorem StF.flat {K : PySem.W.Frag} {S C CF CO : Addr} {P : Program} {w : World} {mg : Str → Option Value} {base : Heap} {H : Hp} {v : V} {us : List Rat} (h : StF K S H v us) (k : StepK P w K mg base C S CF CO) : At K H v "flat" (flS us) := by
  obtain ⟨x, dx, b, xs, x0, sv, e, h1, _⟩ := h
  exact ⟨x, S, dx, _, e, h1, k.c, k.nA _ (by simp [stN]), rfl⟩
section
variable {P : Program} {w : World} {K : PySem.W.Frag} {mg : Str → Option Value} {base : Heap} {f o0 o1 C S CF CO TA : Addr} {fd : FuncData}
theorem scLtg : FnScope nLtg ["creep"] (defScope F_letter_gains) := ⟨rfl, rfl, rfl, by decide +kernel, rfl, by decide +kernel, by decide +kernel⟩
theorem ok_lettergains (F : Fun K "letter_gains" "letter_gains" F_letter_gains f fd) (k : StepK P w K mg base C S CF CO) (mn : mg "len" = none) (mr : mg "range" = none) (k1 : KP K o1 1 1) (mO : mg "ONE" = some (.ref o1)) (ULt : Use P w K mg base CX0 5 "letters_behind" ["flat", "numbers"] (spLtb K) []) (UN : MUse P w K mg base CX0 1 S "numbers" ["self"] (spNuS K S) []) (UD : Use P w K mg base CX0 2 "difference_of" ["one", "other"] (spTwoQ K (· - ·)) []) : FnOk P w K mg base CX0 6 f fd ["creep"] (spLtg K S) := by
  refine F.ok scLtg (fun vs H Q E h => ?_) (fun cdv A outer s H vs Q E hr h => ?_)
  · obtain ⟨v, us, fl, M, rfl, _⟩ := h
    rfl
  obtain ⟨v, us, fl, M, rfl, hS, hC, q⟩ := h
  have hr1 := hr.mono (show 1 ≤ 5 by decide)
  have hr2 := hr.mono (show 2 ≤ 5 by decide)
  have hr5 := hr
  refine ⟨_, (C8.pss_cut (ps_set (i := 1) scLtg.nd rfl (Or.inr rfl) (pe_fld (pv 0) rfl))
    (C8.pss_cut (ps_setLc (i := 2) (own := [("part", 3)]) (g := gName 3) (tt := tYes) rfl scLtg.nd rfl rfl (sw_true rfl rfl rfl (by decide +kernel)) (pi_list (pe_use ULt hr5 rfl pass0 (pa_cons (pv 1) (pa_cons (pe_mu0 (E := fun _ _ _ => False) UN (pv 0) hr1 pass0) pa_nil)))) (blkOk_by (N := nLtg) (sc := defScope F_letter_gains) (by decide +kernel)) (fun _ _ _ _ _ => pg_name (i := 3) scLtg.nd rfl (Or.inl rfl)) (fun _ _ _ _ _ => pts_nil) (fun _ _ _ _ _ => (pe_slice (sll_at K rfl) (pv 3) (po_some (pv 1)) po_none)))
    (pss_cons (ps_for PassesOwn.never rfl (pi_range2 rfl mr (pa_cons pe_int (pa_cons (pe_op op_sub (pe_callB call_len_seq rfl mn PySem.boot_len (pa_cons (pv 2) pa_nil)) (pv 1)) pa_nil))) (pg_name (i := 4) scLtg.nd rfl (Or.inl rfl)) (pss_cons (ps_set (i := 5) scLtg.nd rfl (Or.inl rfl) (pe_ix ix_list (pv 2) (pe_op op_add (pv 4) (pv 1)) (fun _ _ => rfl))) (pss_one (ps_asg (pe_use UD hr2 rfl pass0 (pa_cons (pe_ix ix_list (pv 5) (pv 4) (fun _ _ => rfl)) (pa_cons (C8.pe_gc (v := .ref o1) rfl ⟨_, mO, rfl⟩) pa_nil))) (pg_sub (pv 5) (pv 4) set_list))))) (pss_one (ps_ret (pv 2)))))), ?_⟩
  have f1 := hC.f1
  have fn := hC.fn
  have l11 := hC.l11
  obtain ⟨x, dx, fs, x0, rfl, hx, fl', nq, fno, _⟩ := hS.st.ld
  refine ⟨fun σ G => G = H ∧ σ = [some (.ref x), some (.int (fl : Nat)), none, none, none, none], ?_, ?_⟩
  · obtain ⟨y, C', dy, gs, e, hy, hc, hn, hl⟩ := hS.flat k
    obtain rfl := V.ref.inj e
    rw [(flS_cr hC).2] at hl
    exact ⟨_, rfl, x, C', dy, gs, _, rfl, hy, hc, hn, hl, rfl, rfl⟩
  rintro σ G ⟨rfl, rfl⟩
  refine ⟨fun σ G' => ∃ (t : Addr) (xs : List V), σ = [some (.ref x), some (.int (fl : Nat)), some (.ref t), none, none, none] ∧ Same G G' ∧ G t = none ∧ G' t = some (.lst xs) ∧ Lsl K G' xs ((List.range (us.length - fl)).map (midR us fl 0)) ∧ xs.Nodup ∧ ∀ z ∈ xs, ∃ a, z = .ref a ∧ a ≠ t ∧ G a = none, ?_, ?_⟩
  · refine ⟨_, rfl, _, rfl, x, dx, fs, rfl, hx, fno, .ref x, us, rfl, hS.st, fun b H1 ys s1 nb hb mb => ?_⟩
    refine ⟨.ref b, us, fl, M, rfl, ⟨b, ys, rfl, hb, mb⟩, hC.u0, hC.c, f1, fn, l11, fun c H2 zs s2 nc hc lc => ?_⟩
    refine ⟨c, rfl, ⟨_, SqL.of hc⟩, fun D nD => ?_⟩
    have lzs : zs.length = us.length - fl := by rw [lc.1]; unfold ltL; rw [List.length_map, List.length_range]
    refine lc_rowsD (K := K) (walk_list (K := K) (a := c) (xs := zs)) ((List.range (us.length - fl)).map (midR us fl 0)) (by rw [List.length_map, List.length_range, lzs]) nD (by omega) (fun H3 s3 => SqL.of (s3 _ _ hc)) ?_ ?_
    · rintro i r z H3 H4 kk er s3 ⟨rfl, hz⟩ hk
      have hi : i < us.length - fl := by
        have := (List.getElem?_eq_some_iff.mp er).1
        rw [List.length_map, List.length_range] at this
        exact this
      rw [List.getElem?_map, List.getElem?_range hi] at er
      obtain rfl := Option.some.inj er
      have el : (ltL us fl)[i]? = some (ltR us fl i) := by
        unfold ltL
        rw [List.getElem?_map, List.getElem?_range hi]
        rfl
      obtain ⟨d, ws, rfl, hd, md⟩ := (lc.2 i z _ hz el).same s3
      refine ⟨rfl, _, rfl, _, rfl, fl, rfl, d, ws, rfl, SqL.of hd, fun p np => ?_⟩
      rw [show cutV ws (some ((fl : Nat) : Int)) none = ws.drop fl from cut_drop ws fl]
      refine hk p _ (new_same np _) np (by rw [upd_same]; intro z; cases z) ⟨p, _, rfl, upd_same, ?_⟩
      have m2 := (md.drop fl).same (new_same np (HO.lst (ws.drop fl)))
      rw [rw_eq (by omega) fn hi] at m2
      have e : midR us fl 0 i = rwR us fl i := by
        unfold midR
        split
        · rfl
        · exact (rw_gn (by omega)).symm
      rw [e]
      exact m2
    · intro H3 xs s3 hD lx nd hz
      have s12 := s1.trans s2
      refine ⟨D, xs, rfl, s12.trans s3, s12.free nD, hD, lx, nd, fun z hz' => ?_⟩
      obtain ⟨a, e, aD, na⟩ := hz z hz'
      exact ⟨a, e, aD, s12.free na⟩
  rintro σ G1 ⟨t, xs, rfl, s1, nt, ht, lx, nd, hz⟩
  have lxs : xs.length = us.length - fl := by rw [lx.1, List.length_map, List.length_range]
  refine ⟨_, rfl, t, xs, rfl, .inl (SqL.of ht), _, rfl, (xs.length : Nat), fl, rfl, rfl, 1, ((xs.length : Nat) : Int) - (fl : Nat), rfl, ⟨by omega, by omega, by omega, by omega⟩, for_range (lo := 1) (n := (((xs.length : Nat) : Int) - (fl : Nat) - 1).toNat) (fun i σ G' => Same G G' ∧ (∃ v4 v5, σ = [some (.ref x), some (.int (fl : Nat)), some (.ref t), none, v4, v5]) ∧ G' t = some (.lst xs) ∧ Lsl K G' xs ((List.range (us.length - fl)).map (midR us fl i))) ⟨s1, ⟨none, none, rfl⟩, ht, lx⟩ ?_ ?_⟩
  · rintro i σ G2 hi ⟨s2, ⟨v4, v5, rfl⟩, ht, lx⟩
    have hr : fl + 1 + i < us.length - fl := by omega
    obtain ⟨z, ez⟩ : ∃ z, xs[fl + 1 + i]? = some z := ⟨_, List.getElem?_eq_getElem (by omega)⟩
    obtain ⟨a, rfl, aD, na⟩ := hz z (List.mem_of_getElem? ez)
    have er : ((List.range (us.length - fl)).map (midR us fl i))[fl + 1 + i]? = some (rwR us fl (fl + 1 + i)) := by
      rw [List.getElem?_map, List.getElem?_range hr]
      show some (midR us fl i (fl + 1 + i)) = _
      unfold midR
      rw [if_pos (Nat.le_refl _)]
    obtain ⟨a', ys, ea, ha, ny⟩ := lx.2 _ _ _ ez er
    obtain rfl := V.ref.inj ea
    have lr : (rwR us fl (fl + 1 + i)).length = us.length - fl := by unfold rwR; rw [List.length_map, List.length_range]
    have lys : ys.length = us.length - fl := by rw [ny.1, lr]
    obtain ⟨y, ey, nyy⟩ := ny.get' (i := 1 + i) (by omega)
    have ev : (rwR us fl (fl + 1 + i))[1 + i]'(by omega) = 1 := by
      have e : (rwR us fl (fl + 1 + i))[1 + i]? = some (rwE us fl (fl + 1 + i) (1 + i)) := by
        unfold rwR
        rw [List.getElem?_map, List.getElem?_range (by omega)]
        rfl
      rw [List.getElem?_eq_getElem (by omega)] at e
      rw [Option.some.inj e]
      have := rw_one (us := us) (fl := fl) (r := fl + 1 + i) (by omega) (by omega)
      rw [show fl + 1 + i - fl = 1 + i by omega] at this
      exact this
    rw [ev] at nyy
    have o1n : ∀ {G : Hp}, Nq K G (.ref o1) 1 := ⟨_, rfl, .inr k1⟩
    refine ⟨_, rfl, _, rfl, _, rfl, 1 + (i : Int), fl, rfl, rfl, t, xs, 1 + (i : Int) + (fl : Nat), .ref a, rfl, rfl, SqL.of ht, at_of (j := fl + 1 + i) (by omega) ez, ?_⟩
    refine ⟨_, rfl, _, rfl, a, ys, 1 + (i : Int), y, rfl, rfl, SqL.of ha, at_of (j := 1 + i) (by omega) ey, y, .ref o1, 1, 1, rfl, nyy, o1n, Ok.one, Ok.one, fun tq H3 s3 n3 e3 => ?_⟩
    have e3 : H3 tq = some (rT 0) := by
      have : H3 tq = some (rT (1 - 1)) := e3
      rw [show (1 : Rat) - 1 = 0 by decide +kernel] at this
      exact this
    have ha3 := s3 _ _ ha
    have ht3 := s3 _ _ ht
    have nl := (ny.same s3).setD (i := 1 + i) ha3 (.at e3)
    have rs := rw_set (us := us) (fl := fl) (r := fl + 1 + i) (by omega) (by omega)
    rw [show fl + 1 + i - fl = 1 + i by omega] at rs
    rw [rs] at nl
    have bu : But a H3 (upd H3 a (.lst (ys.set (1 + i) (.ref tq)))) := fun b o n h => by rw [upd_ne n]; exact h
    refine ⟨_, rfl, _, rfl, a, ys, 1 + (i : Int), 1 + i, rfl, rfl, ha3, ?_, fun b o hb => ?_, ⟨_, _, rfl⟩, ?_, ?_⟩
    · show ixN ys.length (1 + (i : Int)) = some (1 + i)
      rw [show (1 + (i : Int)) = ((1 + i : Nat) : Int) by omega]
      exact ixN_of (by omega)
    · rw [upd_ne (fun z => by rw [z, na] at hb; cases hb)]
      exact s3 _ _ (s2 _ _ hb)
    · rw [upd_ne (fun z => aD z.symm)]
      exact ht3
    · rw [← mid_set]
      refine ⟨by rw [List.length_set]; exact lx.1, fun j z' r h1 h2 => ?_⟩
      rw [List.getElem?_set] at h2
      by_cases c : fl + 1 + i = j
      · subst c
        rw [if_pos rfl, if_pos (by rw [List.length_map, List.length_range]; exact hr)] at h2
        rw [ez] at h1
        rw [← Option.some.inj h1, ← Option.some.inj h2]
        exact ⟨a, _, rfl, upd_same, nl⟩
      · rw [if_neg c] at h2
        refine ((lx.2 j z' r h1 h2).same s3).butL ha3 (fun e => ?_) bu
        rw [e] at h1
        exact c ((List.getElem?_inj (by omega) nd).mp (by rw [ez, h1]))
  · rintro σ G2 ⟨s2, ⟨v4, v5, rfl⟩, ht, lx⟩
    refine ⟨_, rfl, q t G2 xs s2 nt ht ?_⟩
    have e : (List.range (us.length - fl)).map (midR us fl (((xs.length : Nat) : Int) - (fl : Nat) - 1).toNat) = gnL us fl := by
      unfold gnL
      refine List.map_congr_left fun r hr => ?_
      have hr := List.mem_range.mp hr
      unfold midR
      rw [if_neg (by omega)]
    rw [e] at lx
    exact lx
end
end Kx
end
section
set_option maxHeartbeats 4000000
namespace Kx
open PySem PySem.Spec PyProof.Rows L2 RZ
/-! ### gain, along, clock_of -/
section
variable (K : PySem.W.Frag) (C : Addr)
def GivesR (H : Hp) (Q : VK) (rs : List Rat) : Prop := ∀ H' y, Same H H' → RwAt K C H' y rs → Q y H'
def spNu : Sp := fun vs H Q _ => ∃ (x : V) (qs : List Rat), vs = [x] ∧ RwAt K C H x qs ∧ GivesL K H Q qs
end
structure RowK (P : Program) (w : World) (K : PySem.W.Frag) (mg : Str → Option Value) (base : Heap) (C CF CO : Addr) : Prop where
  c : Cls K C
  nA : ∀ n ∈ rwN, NoAttr K C n
  m : mg "Row" = some (.ref C)
  ini : ∃ (fI : Addr) (fd : FuncData), Mk K C fI ∧ FnOk P w K mg base (L2.CX P w) 6 fI fd ["self", "numbers"] (spRI K C CF CO) ∧ Binds K fd ["self", "numbers"] []
structure TaK (P : Program) (w : World) (K : PySem.W.Frag) (mg : Str → Option Value) (base : Heap) (TA : Addr) : Prop where
  c : Cls K TA
  nA : ∀ n ∈ taN, NoAttr K TA n
  m : mg "Tally" = some (.ref TA)
  ini : ∃ (fI : Addr) (fd : FuncData), Mk K TA fI ∧ FnOk P w K mg base (L2.CX P w) 6 fI fd ["self", "flat", "numbers"] (spTaI K TA) ∧ Binds K fd ["self", "flat", "numbers"] []
section
variable {K : PySem.W.Frag} {C CF CO : Addr}
theorem row_newF {H : Hp} {a : Addr} {xs : List V} {qs : List Rat} {E : XK} {R : VK} {x dx : Addr} (ha : SqH H a xs) (hn : Nl K H xs qs) (l1 : 3 ≤ qs.length) (l2 : qs.length ≤ 25) (nx : H x = none) (ndx : H dx = none) (ne : dx ≠ x)
    (q : ∀ H', Same H H' → RwAt K C H' (.ref x) qs → R .non H') : spRI K C CF CO [.ref x, .ref a] (upd (upd H dx (.own x)) x (.ins C dx [])) R E := by
  have hx2 : upd (upd H dx (.own x)) x (.ins C dx []) x = some (.ins C dx []) := upd_same
  have sm : Same H (upd (upd H dx (.own x)) x (.ins C dx [])) := (new_same ndx _).trans (new_same (by rw [upd_ne (Ne.symm ne)]; exact nx) _)
  have xa : V.ref a ≠ .ref x := fun z => by
    rw [V.ref.inj z] at ha
    rcases ha with h | h <;> rw [h] at nx <;> cases nx
  have lq : xs.length = qs.length := hn.1
  refine ⟨x, dx, .ref a, rfl, xa, hx2, .inr ⟨a, xs, rfl, ha.same sm, .inr ⟨by omega, by omega, .inr ⟨qs, hn.same sm, fun H' b u nb hx hb => ?_⟩⟩⟩⟩
  have s' : Same H H' := fun e o he => u e o (fun z => by rw [z, nx] at he; cases he) (sm e o he)
  exact q H' s' ⟨x, dx, b, xs, rfl, hx, hb, hn.same s', l1, l2⟩
theorem tally_new {TA a x dx : Addr} {H : Hp} {fl : Nat} {xs : List V} {cs : List Rat} {E : XK} {R : VK} (ha : H a = some (.lst xs)) (hn : Nl K H xs cs) (f1 : 1 ≤ fl) (f23 : fl ≤ 23) (c1 : 1 ≤ cs.length) (l24 : fl + cs.length ≤ 24) (nx : H x = none) (ndx : H dx = none) (ne : dx ≠ x)
    (q : ∀ H', Same H H' → TaAt K TA H' (.ref x) fl cs → R .non H') : spTaI K TA [.ref x, .int (fl : Nat), .ref a] (upd (upd H dx (.own x)) x (.ins TA dx [])) R E := by
  have hx2 : upd (upd H dx (.own x)) x (.ins TA dx []) x = some (.ins TA dx []) := upd_same
  have sm : Same H (upd (upd H dx (.own x)) x (.ins TA dx [])) := (new_same ndx _).trans (new_same (by rw [upd_ne (Ne.symm ne)]; exact nx) _)
  have ax : a ≠ x := fun z => by rw [z, nx] at ha; cases ha
  refine ⟨x, dx, a, fl, xs, cs, rfl, ax, hx2, sm _ _ ha, hn.same sm, f1, f23, c1, l24, fun H' b lg u nb hx hb nl hl => ?_⟩
  have s' : Same H H' := fun e o he => u e o (fun z => by rw [z, nx] at he; cases he) (sm e o he)
  exact q H' s' ⟨x, dx, b, xs, lg, rfl, hx, hb, nl, hl, c1⟩
end
section
variable {P : Program} {w : World} {K : PySem.W.Frag} {mg : Str → Option Value} {base : Heap} {f C S R CF CO CU CN CI CV TA o0 o1 : Addr} {fd : FuncData}
theorem RwAt.ord {H : Hp} {v : V} {qs : List Rat} (h : RwAt K C H v qs) (k : RowK P w K mg base C CF CO) : At K H v "order" (.int ((qs.length : Int) - 1)) := by
  obtain ⟨x, dx, b, xs, e, h1, _⟩ := h
  exact ⟨x, C, dx, _, e, h1, k.c, k.nA _ (by simp [rwN]), rfl⟩
theorem scRNu : FnScope ["self"] ["self"] (defScope C_Row_numbers) := ⟨rfl, rfl, rfl, by decide +kernel, rfl, by decide +kernel, by decide +kernel⟩
theorem ok_rnumbers (G : Fun K "numbers" "Row.numbers" C_Row_numbers f fd) (k : RowK P w K mg base C CF CO) (ml : mg "list" = none) : FnOk P w K mg base CX0 1 f fd ["self"] (spNu K C) := by
  refine G.ok scRNu (fun vs H Q E h => ?_) (fun cdv A outer s H vs Q E hr h => ?_)
  · obtain ⟨x, qs, rfl, _⟩ := h
    rfl
  obtain ⟨v, qs, rfl, hR, q⟩ := h
  obtain ⟨x, dx, b, xs, rfl, hx, hb, nx, _⟩ := hR
  refine ⟨_, pss_one (ps_ret (pe_callTy call_list_of rfl ml (by decide +kernel) (pa_cons (pe_fld (pv 0) rfl) pa_nil))), ?_⟩
  exact ⟨_, rfl, x, C, dx, _, _, rfl, hx, k.c, k.nA _ (by simp [rwN]), rfl, b, xs, rfl, .inl (SqL.of hb), fun l nl => q l _ xs (new_same nl _) nl upd_same (nx.same (new_same nl _))⟩
theorem TaAt.ord {H : Hp} {v : V} {fl : Nat} {cs : List Rat} (h : TaAt K TA H v fl cs) (k : TaK P w K mg base TA) : At K H v "order" (.int ((fl : Nat) + (cs.length : Nat) : Int)) ∧ At K H v "flat" (.int (fl : Nat)) := by
  obtain ⟨x, dx, b, xs, lg, e, h1, _⟩ := h
  exact ⟨⟨x, TA, dx, _, e, h1, k.c, k.nA _ (by simp [taN]), rfl⟩, ⟨x, TA, dx, _, e, h1, k.c, k.nA _ (by simp [taN]), rfl⟩⟩
def spTnu (K : PySem.W.Frag) (TA : Addr) : Sp := fun vs H Q _ => ∃ (x : V) (fl : Nat) (cs : List Rat), vs = [x] ∧ TaAt K TA H x fl cs ∧ GivesL K H Q cs
theorem scTNu : FnScope ["self"] ["self"] (defScope C_Tally_numbers) := ⟨rfl, rfl, rfl, by decide +kernel, rfl, by decide +kernel, by decide +kernel⟩
theorem ok_tnumbers (G : Fun K "numbers" "Tally.numbers" C_Tally_numbers f fd) (k : TaK P w K mg base TA) (ml : mg "list" = none) : FnOk P w K mg base CX0 1 f fd ["self"] (spTnu K TA) := by
  refine G.ok scTNu (fun vs H Q E h => ?_) (fun cdv A outer s H vs Q E hr h => ?_)
  · obtain ⟨x, fl, cs, rfl, _⟩ := h
    rfl
  obtain ⟨v, fl, cs, rfl, ⟨x, dx, b, xs, lg, rfl, hx, hb, nx, _⟩, q⟩ := h
  refine ⟨_, pss_one (ps_ret (pe_callTy call_list_of rfl ml (by decide +kernel) (pa_cons (pe_fld (pv 0) rfl) pa_nil))), ?_⟩
  exact ⟨_, rfl, x, TA, dx, _, _, rfl, hx, k.c, k.nA _ (by simp [taN]), rfl, b, xs, rfl, .inl (SqL.of hb), fun l nl => q l _ xs (new_same nl _) nl upd_same (nx.same (new_same nl _))⟩
theorem scI_IsStill : FnScope ["self", "have"] ["self", "have"] (defScope C_IsStill_init) := ⟨rfl, rfl, rfl, by decide +kernel, rfl, by decide +kernel, by decide +kernel⟩
theorem init_IsStill (F : Fun K "__init__" "IsStill.__init__" C_IsStill_init f fd) (T : XC K C) (n0 : PySem.W.findIn K (.ref C) "code" = some none) (n1 : PySem.W.findIn K (.ref C) "have" = some none) : FnOk P w K mg base CX0 1 f fd ["self", "have"] (spIn C 1 (fs1 "IsStill" "have")) := by
  refine F.ok scI_IsStill (fun vs H Q E h => ?_) (fun cdv A outer s H vs Q E hr h => ?_)
  · obtain ⟨a, ws, rfl, l, _⟩ := h
    exact congrArg Nat.succ l
  obtain ⟨a, ws, rfl, l, ha, q⟩ := h
  obtain ⟨v, rfl⟩ : ∃ v, ws = [v] := by match ws, l with | [v], _ => exact ⟨v, rfl⟩
  refine ⟨_, pss_cons (ps_xst (pv 0) pe_str) (pss_one (ps_xst (pv 0) (pv 1))), ?_⟩
  refine ⟨_, rfl, a, _, rfl, T, n0, .inl ⟨ha, fun e H1 ne he h1 h2 h3 => ?_⟩⟩
  refine ⟨_, rfl, _, rfl, a, _, rfl, T, n1, .inr ⟨e, _, h1, h2, (by show 1 ≤ 900; decide), ?_⟩⟩
  exact q e _ ne he (by rw [upd_ne (Ne.symm ne)]; exact h1) (by rw [upd_same]; rfl) (fun b b1 b2 => by rw [upd_ne b2]; exact h3 b b1 b2)
theorem scI_UF : FnScope ["self", "one", "other"] ["self", "one", "other"] (defScope C_UnlikeFlats_init) := ⟨rfl, rfl, rfl, by decide +kernel, rfl, by decide +kernel, by decide +kernel⟩
theorem init_UF (F : Fun K "__init__" "UnlikeFlats.__init__" C_UnlikeFlats_init f fd) (T : XC K C) (n0 : PySem.W.findIn K (.ref C) "code" = some none) (n1 : PySem.W.findIn K (.ref C) "one" = some none) (n2 : PySem.W.findIn K (.ref C) "other" = some none) : FnOk P w K mg base CX0 1 f fd ["self", "one", "other"] (spIn C 2 (fs2 "UnlikeFlats" "one" "other")) := by
  refine F.ok scI_UF (fun vs H Q E h => ?_) (fun cdv A outer s H vs Q E hr h => ?_)
  · obtain ⟨a, ws, rfl, l, _⟩ := h
    exact congrArg Nat.succ l
  obtain ⟨a, ws, rfl, l, ha, q⟩ := h
  obtain ⟨v, u, rfl⟩ : ∃ v u, ws = [v, u] := by match ws, l with | [v, u], _ => exact ⟨v, u, rfl⟩
  refine ⟨_, pss_cons (ps_xst (pv 0) pe_str) (pss_cons (ps_xst (pv 0) (pv 1)) (pss_one (ps_xst (pv 0) (pv 2)))), ?_⟩
  refine ⟨_, rfl, a, _, rfl, T, n0, .inl ⟨ha, fun e H1 ne he h1 h2 h3 => ?_⟩⟩
  refine ⟨_, rfl, _, rfl, a, _, rfl, T, n1, .inr ⟨e, _, h1, h2, (by show 1 ≤ 900; decide), ?_⟩⟩
  refine ⟨_, rfl, _, rfl, a, _, rfl, T, n2, .inr ⟨e, _, (by rw [upd_ne (Ne.symm ne)]; exact h1), upd_same, (by show 2 ≤ 900; decide), ?_⟩⟩
  exact q e _ ne he (by rw [upd_ne (Ne.symm ne), upd_ne (Ne.symm ne)]; exact h1) (by rw [upd_same]; rfl) (fun b b1 b2 => by rw [upd_ne b2, upd_ne b2]; exact h3 b b1 b2)
def spCfl (K : PySem.W.Frag) (CV : Addr) : Sp := fun vs H Q E => ∃ (x y : V) (n m : Int), vs = [x, y] ∧ At K H x "flat" (.int n) ∧ At K H y "flat" (.int m) ∧ (n = m → Q .non H) ∧ (n ≠ m → Air H CV (fs2 "UnlikeFlats" "one" "other" [.int n, .int m]) E)
theorem scCfl2 : FnScope ["one", "other"] ["one", "other"] (defScope F_check_flats) := ⟨rfl, rfl, rfl, by decide +kernel, rfl, by decide +kernel, by decide +kernel⟩
theorem ok_cflats (G : Fun K "check_flats" "check_flats" F_check_flats f fd) (Z : ErrC P w K mg base "UnlikeFlats" 2 (fs2 "UnlikeFlats" "one" "other") CV) : FnOk P w K mg base (L2.CX P w) 3 f fd ["one", "other"] (spCfl K CV) := by
  refine G.okX scCfl2 (fun vs H Q E h => ?_) (fun cdv A outer s H vs Q E hr h => ?_)
  · obtain ⟨x, y, n, m, rfl, _⟩ := h
    rfl
  obtain ⟨x, y, n, m, rfl, ⟨xa, C, dx, fs, rfl, hx, cx, nx, lx⟩, ⟨ya, D, dy, gs, rfl, hy, cy, ny, ly⟩, h1, h2⟩ := h
  obtain ⟨fI, fdI, ps, i1, i2, i3, i4⟩ := Z.i
  refine ⟨_, pss_one (ps_if (pt_cmpR op_ne (pe_fld (pv 0) rfl) (pe_fld (pv 1) rfl) (nomark _)) (pss_one (ps_raise rfl (takes_of rfl rfl rfl rfl) (pmk_xo Z.T Z.ty i1 i2 i3 hr i4 pass0 rfl Z.m (pa_cons (pe_fld (pv 0) rfl) (pa_cons (pe_fld (pv 1) rfl) pa_nil))))) pss_nil), ?_⟩
  refine ⟨_, rfl, xa, C, dx, _, _, rfl, hx, cx, nx, lx, _, rfl, ya, D, dy, _, _, rfl, hy, cy, ny, ly, rfl, _, rfl, ?_⟩
  by_cases c : n = m
  · subst c
    rw [decide_eq_true rfl]
    exact iteF (h1 rfl)
  · rw [decide_eq_false (fun e => c (V.int.inj e))]
    exact iteT ⟨_, rfl, xa, C, dx, _, _, rfl, hx, cx, nx, lx, _, rfl, ya, D, dy, _, _, rfl, hy, cy, ny, ly, (by show 2 ≤ 1000; decide), fun a na => air_of (C := CV) (n := 2) (ws := [.int n, .int m]) na rfl (h2 c)⟩
def spCkc (K : PySem.W.Frag) (S CN CI : Addr) : Sp := fun vs H Q E => ∃ (v : V) (us : List Rat), vs = [v] ∧ StAt K S H v us ∧ (serS us 1 ≠ 1 → ∀ x0, Nq K H x0 (serS us 1) → Air H CN (fs1 "NotSlow" "first" [x0]) E) ∧ (serS us 1 = 1 → kindS us = "still" → Air H CI (fs1 "IsStill" "have" [.int (us.length : Int)]) E) ∧ (serS us 1 = 1 → kindS us ≠ "still" → Q .non H)
theorem scCkc : FnScope ["step"] ["step"] (defScope F_check_creep) := ⟨rfl, rfl, rfl, by decide +kernel, rfl, by decide +kernel, by decide +kernel⟩
theorem ok_ccreep (G : Fun K "check_creep" "check_creep" F_check_creep f fd) (k : StepK P w K mg base C S CF CO) (UW : Use P w K mg base (L2.CX P w) 3 "check_slow" ["step"] (spCkS K S CN) []) (Z : ErrC P w K mg base "IsStill" 1 (fs1 "IsStill" "have") CI) : FnOk P w K mg base (L2.CX P w) 4 f fd ["step"] (spCkc K S CN CI) := by
  refine G.okX scCkc (fun vs H Q E h => ?_) (fun cdv A outer s H vs Q E hr h => ?_)
  · obtain ⟨v, us, rfl, _⟩ := h
    rfl
  obtain ⟨v, us, rfl, hX, h1, h2, h3⟩ := h
  obtain ⟨fI, fdI, ps, i1, i2, i3, i4⟩ := Z.i
  refine ⟨_, (pss_cons (ps_expr (pe_use (E := E) UW hr rfl (passes_call (takes_of rfl rfl rfl rfl) (fun _ _ _ _ h => h)) (pa_cons (pv 0) pa_nil))) (pss_one (ps_if (pt_cmpR op_eq (pe_fld (pv 0) rfl) pe_str (nomark _)) (pss_one (ps_raise rfl (takes_of rfl rfl rfl rfl) (pmk_xo Z.T Z.ty i1 i2 i3 (hr.mono (by decide)) i4 pass0 rfl Z.m (pa_cons (pe_fld (pv 0) rfl) pa_nil)))) pss_nil))), ?_⟩
  refine ⟨_, rfl, v, us, rfl, hX, fun e1 => ?_, h1⟩
  obtain ⟨x, dx, b, xs, x0, fv, sv, rfl, hx, _⟩ := id hX
  refine ⟨_, rfl, x, S, dx, _, _, rfl, hx, k.c, k.nA _ (by simp [stN]), rfl, rfl, _, rfl, ?_⟩
  by_cases c : kindS us = "still"
  · rw [decide_eq_true (show V.str (kindS us) = .str "still" by rw [c])]
    exact iteT ⟨_, rfl, x, S, dx, _, _, rfl, hx, k.c, k.nA _ (by simp [stN]), rfl, (by show 1 ≤ 1000; decide), fun a na => air_of (C := CI) (n := 1) (ws := [.int (us.length : Int)]) na rfl (h2 e1 c)⟩
  · rw [decide_eq_false (show ¬ V.str (kindS us) = .str "still" from fun z => c (V.str.inj z))]
    exact iteF (h3 e1 c)
def spCkN (K : PySem.W.Frag) : Sp := fun vs H Q _ => ∃ (v : V) (q : Rat), vs = [v] ∧ Nq K H v q ∧ Q .non H
def spRct (K : PySem.W.Frag) (R o1 : Addr) : Sp := fun vs H Q _ => ∃ n : Nat, vs = [.ref o1, .int (n : Nat)] ∧ 2 ≤ n ∧ n ≤ 24 ∧ GivesR K R H Q (1 :: List.replicate n 0)
theorem scCt : FnScope ["value", "order"] ["value", "order"] (defScope C_Row_constant) := ⟨rfl, rfl, rfl, by decide +kernel, rfl, by decide +kernel, by decide +kernel⟩
theorem ok_rconst (G : Fun K "constant" "Row.constant" C_Row_constant f fd) (k : RowK P w K mg base R CF CO) (k0 : KP K o0 0 1) (mZ : mg "ZERO" = some (.ref o0)) (k1 : KP K o1 1 1) (UK : Use P w K mg base (L2.CX P w) 3 "check_number" ["value"] (spCkN K) []) (UC : Use P w K mg base (L2.CX P w) 3 "check_order" ["order"] (spCo K CO) []) : FnOk P w K mg base (L2.CX P w) 8 f fd ["value", "order"] (spRct K R o1) := by
  refine G.okX scCt (fun vs H Q E h => ?_) (fun cdv A outer s H vs Q E hr h => ?_)
  · obtain ⟨n, rfl, _⟩ := h
    rfl
  obtain ⟨n, rfl, n2, n24, q⟩ := h
  obtain ⟨fI, fdI, M, FI, bI⟩ := k.ini
  have hr3 := hr.mono (show 3 ≤ 7 by decide)
  have o1n : ∀ {G : Hp}, Nq K G (.ref o1) 1 := ⟨_, rfl, .inr k1⟩
  refine ⟨_, (pss_cons (ps_expr (pe_use (E := E) UK hr3 rfl (passes_call (takes_of rfl rfl rfl rfl) (fun _ _ _ _ h => h)) (pa_cons (pv 0) pa_nil))) (pss_cons (ps_expr (pe_use (E := E) UC hr3 rfl (passes_call (takes_of rfl rfl rfl rfl) (fun _ _ _ _ h => h)) (pa_cons (pv 1) pa_nil))) (pss_one (ps_ret (pe_make (E := E) M FI hr rfl k.m bI .nil (passes_call (takes_of rfl rfl rfl rfl) (fun _ _ _ _ h => h)) (pa_cons (pe_op op_cat (pe_lst (pa_cons (pv 0) pa_nil)) (pe_op op_rep (pe_lst (pa_cons (C8.pe_gc (v := .ref o0) rfl ⟨_, mZ, rfl⟩) pa_nil)) (pv 1))) pa_nil)))))), ?_⟩
  refine ⟨_, rfl, .ref o1, 1, rfl, o1n, ?_⟩
  refine ⟨_, rfl, .int (n : Nat), true, rfl, InR.yes (by omega) (by omega), fun _ => ?_, fun z => Bool.noConfusion z⟩
  refine ⟨_, rfl, (by show 1 ≤ sizeLine; decide), fun a na => ⟨(by show 1 ≤ sizeLine; decide), fun b nb => ⟨_, rfl, b, (n : Int), [.ref o0], rfl, rfl, upd_same, by omega, by omega, (by show 1 * _ ≤ sizeLine; exact Nat.le_of_lt (small1000 (by omega))), fun c nc => ?_⟩⟩⟩
  have rep : (List.replicate (n : Int).toNat [V.ref o0]).flatten = List.replicate n (.ref o0) := by
    rw [List.flatten_replicate_singleton]
    congr 1
  rw [rep]
  refine ⟨a, c, _, _, rfl, rfl, new_same nc _ _ _ (new_same nb _ _ _ upd_same), upd_same, Nat.le_of_lt (small1000 (by rw [List.length_replicate]; show 1 + _ ≤ _; omega)), fun d nd => ?_⟩
  have s4 := ((new_same na (.lst [V.ref o1])).trans ((new_same nb (.lst [V.ref o0])).trans ((new_same nc (.lst (List.replicate n (V.ref o0)))).trans (new_same nd (.lst ([V.ref o1] ++ List.replicate n (V.ref o0)))))))
  refine fun x dx xn dn en => row_newF (.inl upd_same) (Nl.cons o1n (zeros ⟨o0, rfl, .inr k0⟩ _)) (by rw [List.length_cons, List.length_replicate]; omega) (by rw [List.length_cons, List.length_replicate]; omega) xn dn en fun H' s hX => ⟨rfl, q H' _ (s4.trans s) hX⟩
/-- what stands before a gain is told: the creep's errors -/
def CrE (K : PySem.W.Frag) (CN CI : Addr) (H : Hp) (us : List Rat) (E : XK) (good : Prop) : Prop := (serS us 1 ≠ 1 → ∀ H' x0, Same H H' → Nq K H' x0 (serS us 1) → Air H' CN (fs1 "NotSlow" "first" [x0]) E) ∧ (serS us 1 = 1 → kindS us = "still" → Air H CI (fs1 "IsStill" "have" [.int (us.length : Int)]) E) ∧ (serS us 1 = 1 → kindS us ≠ "still" → good)
theorem CrE.imp {H H' : Hp} {us : List Rat} {E : XK} {g g' : Prop} (h : CrE K CN CI H us E g) (s : Same H H') (f : g → g') : CrE K CN CI H' us E g' := ⟨fun a H2 x0 s2 => h.1 a H2 x0 (s.trans s2), fun a b => (h.2.1 a b).same s, fun a b => f (h.2.2 a b)⟩
theorem StAt.ord {v : V} {qs : List Rat} (h : StAt K S H v qs) (k : StepK P w K mg base C S CF CO) : At K H v "order" (.int (qs.length : Int)) := by
  obtain ⟨y, dy, _, _, gs, ey, hy, _, _, _, g2⟩ := h.nb
  exact ⟨y, S, dy, gs, ey, hy, k.c, k.nA _ (by simp [stN]), g2⟩
theorem gn_row {us : List Rat} {fl : Nat} : ∀ r ∈ gnL us fl, r.length = us.length - fl := fun r hr => by
  unfold gnL at hr
  obtain ⟨i, _, rfl⟩ := List.mem_map.mp hr
  exact gnR_len us fl i
theorem gn_all {M : Nat} {us : List Rat} {fl : Nat} (h : CrA M us) (l11 : us.length ≤ 11) : ∀ r ∈ gnL us fl, AllD M 1200 r := fun r hr q hq => by
  unfold gnL at hr
  obtain ⟨i, hi, rfl⟩ := List.mem_map.mp hr
  have hi := List.mem_range.mp hi
  unfold gnR at hq
  obtain ⟨m, _, rfl⟩ := List.mem_map.mp hq
  by_cases c : fl ≤ 32
  · exact gn_d h (by omega) c
  · omega
theorem crM {M : Nat} {us : List Rat} (h : CrA M us) : SmL M := ⟨h.m0, Nat.lt_trans h.m (Nat.pow_lt_pow_right (by decide) (by decide))⟩
def spGai (K : PySem.W.Frag) (S TA CU CN CI CV : Addr) : Sp := fun vs H Q E => ∃ (v x : V) (fl : Nat) (cs us : List Rat), vs = [v, x] ∧ TaAt K TA H v fl cs ∧ StF K S H x us ∧
  (fl + cs.length ≠ us.length → Air H CU (fs2 "UnlikeOrders" "one" "other" [.int ((fl : Nat) + (cs.length : Nat) : Int), .int (us.length : Int)]) E) ∧
  (fl + cs.length = us.length → CrE K CN CI H us E (∃ fl' M, CrC us fl' M ∧ (fl ≠ fl' → Air H CV (fs2 "UnlikeFlats" "one" "other" [.int (fl : Nat), .int (fl' : Nat)]) E) ∧ (fl = fl' → ∃ L B, SmL L ∧ B ≤ 100000 ∧ AllD L B cs ∧ GivesL K H Q (gaL us fl cs))))
def GivesT (K : PySem.W.Frag) (TA : Addr) (H : Hp) (Q : VK) (fl : Nat) (cs : List Rat) : Prop := ∀ H' y, Same H H' → TaAt K TA H' y fl cs → Q y H'
def SlvC (us : List Rat) (fl : Nat) (ws : List Rat) (M : Nat) : Prop := AllO ws ∧ ∃ L B, SmL (L * M) ∧ B ≤ 90000 ∧ AllD L B (slvL (gnL us fl) ws (us.length - fl))
def spAlo (K : PySem.W.Frag) (S R TA CN CI : Addr) : Sp := fun vs H Q E => ∃ (r x : V) (ws us : List Rat), vs = [r, x] ∧ RwAt K R H r ws ∧ StF K S H x us ∧ ws.length = us.length + 1 ∧ CrE K CN CI H us E (∃ fl M, CrC us fl M ∧ SlvC us fl (ws.take (us.length - fl)) M ∧ (∀ k, k < us.length - fl → (gnE us fl k k).num.natAbs < 2 ^ 4450) ∧ GivesT K TA H Q fl (slvL (gnL us fl) (ws.take (us.length - fl)) (us.length - fl)))
def spClk (K : PySem.W.Frag) (S TA CN CI : Addr) : Sp := fun vs H Q E => ∃ (x : V) (us : List Rat), vs = [x] ∧ StF K S H x us ∧ us.length ≤ 23 ∧ CrE K CN CI H us E (∃ fl M, CrC us fl M ∧ SlvC us fl (oneL (us.length - fl)) M ∧ (∀ k, k < us.length - fl → (gnE us fl k k).num.natAbs < 2 ^ 4450) ∧ GivesT K TA H Q fl (clkL us fl))
abbrev nGai : List Str := ["tally", "creep"]
abbrev nAlo : List Str := ["row", "creep", "wanted"]
theorem scGai : FnScope nGai nGai (defScope F_gain) := ⟨rfl, rfl, rfl, by decide +kernel, rfl, by decide +kernel, by decide +kernel⟩
theorem ok_gain (G : Fun K "gain" "gain" F_gain f fd) (k : StepK P w K mg base C S CF CO) (kt : TaK P w K mg base TA) (UO : Use P w K mg base (L2.CX P w) 3 "check_orders" ["one", "other"] (spCor K CU) []) (UC : Use P w K mg base (L2.CX P w) 4 "check_creep" ["step"] (spCkc K S CN CI) []) (UF : Use P w K mg base (L2.CX P w) 3 "check_flats" ["one", "other"] (spCfl K CV) []) (UT : MUse P w K mg base CX0 1 TA "numbers" ["self"] (spTnu K TA) []) (UG : Use P w K mg base CX0 6 "letter_gains" ["creep"] (spLtg K S) []) (UM : Use P w K mg base CX0 3 "mixed" ["factors", "lists"] (spMix K) []) : FnOk P w K mg base (L2.CX P w) 7 f fd ["tally", "creep"] (spGai K S TA CU CN CI CV) := by
  refine G.okX scGai (fun vs H Q E h => ?_) (fun cdv A outer s H vs Q E hr h => ?_)
  · obtain ⟨v, x, fl, cs, us, rfl, _⟩ := h
    rfl
  obtain ⟨v, x, fl, cs, us, rfl, hT, hS, ho, hg⟩ := h
  have hr1 := hr.mono (show 1 ≤ 6 by decide)
  have hr3 := hr.mono (show 3 ≤ 6 by decide)
  have hr4 := hr.mono (show 4 ≤ 6 by decide)
  refine ⟨_, (pss_cons (ps_expr (pe_use (E := E) UO hr3 rfl (passes_call (takes_of rfl rfl rfl rfl) (fun _ _ _ _ h => h)) (pa_cons (pv 0) (pa_cons (pv 1) pa_nil)))) (pss_cons (ps_expr (pe_use (E := E) UC hr4 rfl (passes_call (takes_of rfl rfl rfl rfl) (fun _ _ _ _ h => h)) (pa_cons (pv 1) pa_nil))) (pss_cons (ps_expr (pe_use (E := E) UF hr3 rfl (passes_call (takes_of rfl rfl rfl rfl) (fun _ _ _ _ h => h)) (pa_cons (pv 0) (pa_cons (pv 1) pa_nil)))) (pss_one (ps_ret (pe_use UM hr3 rfl pass0 (pa_cons (pe_mu0 (E := fun _ _ _ => False) UT (pv 0) hr1 pass0) (pa_cons (pe_use UG hr rfl pass0 (pa_cons (pv 1) pa_nil)) pa_nil)))))))), ?_⟩
  obtain ⟨ot, ft⟩ := hT.ord kt
  refine ⟨_, rfl, _, rfl, v, x, ((fl : Nat) + (cs.length : Nat) : Int), (us.length : Int), rfl, ot, hS.st.ord k, fun e => ?_, fun n => ho (fun z => n (by omega))⟩
  have e : fl + cs.length = us.length := by omega
  obtain ⟨c1, c2, c3⟩ := hg e
  refine ⟨_, rfl, x, us, rfl, hS.st, fun a x0 n => c1 a H x0 (Same.refl _) n, c2, fun e1 e2 => ?_⟩
  obtain ⟨fl', M, hC, d1, d2⟩ := c3 e1 e2
  have fx := hS.flat k
  rw [(flS_cr hC).2] at fx
  refine ⟨_, rfl, _, rfl, v, x, (fl : Int), (fl' : Int), rfl, ft, fx, fun e3 => ?_, fun n => d1 (fun z => n (by rw [z]))⟩
  have e3 : fl = fl' := by omega
  subst e3
  obtain ⟨L, B, sL, lB, al, q⟩ := d2 rfl
  obtain ⟨xt, dx, bt, xst, lg, rfl, hx, _⟩ := id hT
  have fn := hC.fn
  have l11 := hC.l11
  refine ⟨_, rfl, xt, dx, _, rfl, hx, rfl, .ref xt, fl, cs, rfl, hT, fun b H1 ys s1 nb hb mb => ?_⟩
  refine ⟨_, rfl, x, us, fl, M, rfl, hS.same s1, hC, fun t H2 zs s2 nt ht lt => ?_⟩
  have s12 := s1.trans s2
  refine ⟨.ref b, .ref t, cs, gnL us fl, us.length - fl, L, B, M, 1200, rfl, Ls.same ⟨b, ys, rfl, hb, mb⟩ s2, ⟨t, zs, rfl, ht, lt⟩, by rw [gnL_len]; omega, by rw [gnL_len]; omega, by omega, gn_row, sL, lB, crM hC.c, by decide, al, gn_all hC.c l11, fun b3 H3 ws s3 n3 h3 m3 => q b3 H3 ws (s12.trans s3) (s12.free n3) h3 m3⟩
theorem scAlo : FnScope nAlo ["row", "creep"] (defScope F_along) := ⟨rfl, rfl, rfl, by decide +kernel, rfl, by decide +kernel, by decide +kernel⟩
theorem ok_along (G : Fun K "along" "along" F_along f fd) (k : StepK P w K mg base C S CF CO) (kt : TaK P w K mg base TA) (kr : RowK P w K mg base R CF CO) (UO : Use P w K mg base (L2.CX P w) 3 "check_orders" ["one", "other"] (spCor K CU) []) (UC : Use P w K mg base (L2.CX P w) 4 "check_creep" ["step"] (spCkc K S CN CI) []) (UR : MUse P w K mg base CX0 1 R "numbers" ["self"] (spNu K R) []) (UG : Use P w K mg base CX0 6 "letter_gains" ["creep"] (spLtg K S) []) (US : Use P w K mg base CX0 3 "solved" ["lines", "wanted"] (spSolv K) []) : FnOk P w K mg base (L2.CX P w) 8 f fd ["row", "creep"] (spAlo K S R TA CN CI) := by
  refine G.okX scAlo (fun vs H Q E h => ?_) (fun cdv A outer s H vs Q E hr h => ?_)
  · obtain ⟨r, x, ws, us, rfl, _⟩ := h
    rfl
  obtain ⟨r, x, ws, us, rfl, hR, hS, lw, hg⟩ := h
  have hr1 := hr.mono (show 1 ≤ 7 by decide)
  have hr3 := hr.mono (show 3 ≤ 7 by decide)
  have hr4 := hr.mono (show 4 ≤ 7 by decide)
  have hr6 := hr.mono (show 6 ≤ 7 by decide)
  obtain ⟨fT, fdT, MT, FT, bT⟩ := kt.ini
  have mT := kt.m
  refine ⟨_, (pss_cons (ps_expr (pe_use (E := E) UO hr3 rfl (passes_call (takes_of rfl rfl rfl rfl) (fun _ _ _ _ h => h)) (pa_cons (pv 0) (pa_cons (pv 1) pa_nil)))) (pss_cons (ps_expr (pe_use (E := E) UC hr4 rfl (passes_call (takes_of rfl rfl rfl rfl) (fun _ _ _ _ h => h)) (pa_cons (pv 1) pa_nil))) (pss_cons (ps_set (i := 2) scAlo.nd rfl (Or.inl rfl) (pe_slice sl_list (pe_mu0 (E := fun _ _ _ => False) UR (pv 0) hr1 pass0) po_none (po_some (pe_op op_sub (pe_fld (pv 1) rfl) (pe_fld (pv 1) rfl))))) (pss_one (ps_ret (pe_make (E := E) MT FT hr rfl mT bT .nil (passes_call (takes_of rfl rfl rfl rfl) (fun _ _ _ _ h => h)) (pa_cons (pe_fld (pv 1) rfl) (pa_cons (pe_use US hr3 rfl pass0 (pa_cons (pe_use UG hr6 rfl pass0 (pa_cons (pv 1) pa_nil)) (pa_cons (pv 2) pa_nil))) pa_nil)))))))), ?_⟩
  have orr := hR.ord kr
  refine ⟨_, rfl, _, rfl, r, x, (ws.length : Int) - 1, (us.length : Int), rfl, orr, hS.st.ord k, fun _ => ?_, fun n => absurd (by omega) n⟩
  obtain ⟨c1, c2, c3⟩ := hg
  refine ⟨_, rfl, x, us, rfl, hS.st, fun a x0 n => c1 a H x0 (Same.refl _) n, c2, fun e1 e2 => ?_⟩
  obtain ⟨fl, M, hC, ⟨ao, L, B, sL, lB, al⟩, dg, q⟩ := c3 e1 e2
  have fx := hS.flat k
  rw [(flS_cr hC).2] at fx
  have f1 := hC.f1
  have fn := hC.fn
  have l11 := hC.l11
  obtain ⟨xr, dxr, br, xsr, rfl, hxr, _⟩ := id hR
  obtain ⟨y1, D1, dy1, gs1, ey1, hy1, hc1, hn1, hl1⟩ := hS.st.ord k
  obtain ⟨y2, D2, dy2, gs2, ey2, hy2, hc2, hn2, hl2⟩ := fx
  refine ⟨_, rfl, xr, dxr, _, rfl, hxr, rfl, .ref xr, ws, rfl, hR, fun b H1 ys s1 nb hb mb => ?_⟩
  refine ⟨_, rfl, y1, D1, dy1, gs1, _, ey1, s1 _ _ hy1, hc1, hn1, hl1, _, rfl, y2, D2, dy2, gs2, _, ey2, s1 _ _ hy2, hc2, hn2, hl2, (us.length : Int), (fl : Int), rfl, rfl, (us.length : Int) - (fl : Int), rfl, b, ys, rfl, SqL.of hb, fun p np => ?_⟩
  rw [show cutV ys none (some ((us.length : Int) - (fl : Int))) = ys.take (us.length - fl) by rw [show (us.length : Int) - (fl : Int) = ((us.length - fl : Nat) : Int) by omega]; exact cut_take ys _]
  have s2 := new_same np (HO.lst (ys.take (us.length - fl)))
  have wl : Ls K (upd H1 p (HO.lst (ys.take (us.length - fl)))) (.ref p) (ws.take (us.length - fl)) := ⟨p, _, rfl, upd_same, (mb.take _).same s2⟩
  generalize upd H1 p (HO.lst (ys.take (us.length - fl))) = H2 at s2 wl
  have s12 := s1.trans s2
  have lt : (ws.take (us.length - fl)).length = us.length - fl := by rw [List.length_take]; omega
  refine ⟨_, rfl, y2, D2, dy2, gs2, _, ey2, s12 _ _ hy2, hc2, hn2, hl2, ?_⟩
  refine ⟨_, rfl, x, us, fl, M, rfl, hS.same s12, hC, fun t H3 zs s3 nt ht lt3 => ?_⟩
  refine ⟨_, rfl, .ref t, .ref p, gnL us fl, ws.take (us.length - fl), L, B, M, 1200, rfl, ⟨t, zs, rfl, ht, lt3⟩, wl.same s3, by rw [gnL_len, lt], by omega, by omega, fun r hr => by rw [lt]; exact gn_row r hr, sL, by omega, by rw [lt]; exact al, gn_all hC.c l11, ao, fun kk hk => ?_, fun b4 H4 vs s4 n4 h4 m4 => ?_⟩
  · rw [lt] at hk
    rw [gn_tt hk hk]
    refine ⟨?_, dg kk hk⟩
    rw [gn_dg hC.u0 hC.lo fn f1]
    intro z
    rcases Rat.mul_eq_zero.mp z with c | c
    · exact byR_ne kk fl c
    · exact hC.a0 c
  · rw [lt] at m4
    have s14 := s12.trans (s3.trans s4)
    exact fun y dy ny ndy ne => tally_new h4 m4 f1 (by omega) (by rw [slvL_len]; omega) (by rw [slvL_len]; omega) ny ndy ne fun H5 s5 hT => ⟨rfl, q H5 _ (s14.trans s5) hT⟩
theorem scClk : FnScope ["creep"] ["creep"] (defScope F_clock_of) := ⟨rfl, rfl, rfl, by decide +kernel, rfl, by decide +kernel, by decide +kernel⟩
theorem ok_clock {pS gS : Addr} {fdS : FuncData} (G : Fun K "clock_of" "clock_of" F_clock_of f fd) (k : StepK P w K mg base C S CF CO) (kr : RowK P w K mg base R CF CO) (rd : ClX.CRead K R (.type "type")) (cS : CSta K R (.type "type") "constant" pS gS) (FS : FnOk P w K mg base (L2.CX P w) 8 gS fdS ["value", "order"] (spRct K R o1)) (bS : Binds K fdS ["value", "order"] []) (mO : mg "ONE" = some (.ref o1)) (UA : Use P w K mg base (L2.CX P w) 8 "along" ["row", "creep"] (spAlo K S R TA CN CI) []) : FnOk P w K mg base (L2.CX P w) 9 f fd ["creep"] (spClk K S TA CN CI) := by
  refine G.okX scClk (fun vs H Q E h => ?_) (fun cdv A outer s H vs Q E hr h => ?_)
  · obtain ⟨x, us, rfl, _⟩ := h
    rfl
  obtain ⟨x, us, rfl, hS, l23, hg⟩ := h
  refine ⟨_, (pss_one (ps_ret (pe_use (E := E) UA hr rfl (passes_call (takes_of rfl rfl rfl rfl) (fun _ _ _ _ h => h)) (pa_cons (pe_static (E := E) (C8.pe_gc (v := .ref R) rfl ⟨_, kr.m, rfl⟩) rd cS FS hr bS (passes_call (takes_of rfl rfl rfl rfl) (fun _ _ _ _ h => h)) (pa_cons (C8.pe_gc (v := .ref o1) rfl ⟨_, mO, rfl⟩) (pa_cons (pe_fld (pv 0) rfl) pa_nil))) (pa_cons (pv 0) pa_nil))))), ?_⟩
  obtain ⟨y1, D1, dy1, gs1, rfl, hy1, hc1, hn1, hl1⟩ := hS.st.ord k
  obtain ⟨_, l2, l24⟩ : True ∧ 2 ≤ us.length ∧ us.length ≤ 24 := by
    obtain ⟨_, _, _, _, _, _, _, _, _, _, _, _, h5, h6⟩ := hS
    exact ⟨trivial, h5, h6⟩
  refine ⟨rfl, _, rfl, y1, D1, dy1, gs1, _, rfl, hy1, hc1, hn1, hl1, us.length, rfl, l2, l24, fun H1 r s1 hr => ?_⟩
  refine ⟨_, rfl, r, .ref y1, _, us, rfl, hr, hS.same s1, by rw [List.length_cons, List.length_replicate], hg.imp s1 ?_⟩
  rintro ⟨fl, M, hC, hs, hd, q⟩
  have f1 := hC.f1
  have fn := hC.fn
  have e : (1 :: List.replicate us.length (0 : Rat)).take (us.length - fl) = oneL (us.length - fl) := by
    unfold oneL
    obtain ⟨n, en⟩ : ∃ n, us.length - fl = n + 1 := ⟨us.length - fl - 1, by omega⟩
    rw [en]
    show 1 :: (List.replicate us.length (0 : Rat)).take n = _
    rw [List.take_replicate, Nat.min_eq_left (by omega)]
    rfl
  exact ⟨fl, M, hC, by rw [e]; exact hs, hd, fun H' y s hT => by rw [e] at hT; exact q H' y (s1.trans s) hT⟩
end
end Kx
end
section
set_option maxHeartbeats 4000000
namespace Kx
open PySem PySem.Spec PyProof.Rows L2
/-! ### own rule: a list gets an item at its head -/
def rIns0 : V → List V → Hp → VK → Prop := fun x vs H Q => ∃ l xs y, x = .ref l ∧ vs = [.int 0, y] ∧ H l = some (.lst xs) ∧ xs.length < sizeLine ∧ Q .non (upd H l (.lst (y :: xs)))
section
variable {X : Cx}
theorem mt_ins0 : MtM X "list.insert" rIns0 := by
  intro pins s σ H x vs v us Q I rx rv h
  obtain ⟨l, xs, y, rfl, rfl, hH, hz, q⟩ := h
  cases rx
  obtain ⟨u1, u2, rfl, r1, r2⟩ := vals2 rv
  obtain ⟨t, rfl⟩ := r1
  obtain ⟨z, its, n, r, hl, e⟩ := I.lstM hH
  refine call_meets F.slot_list_insert ⟨_, e, rfl⟩ F.entry_list_insert (F.args_list_insert_3 _ _ _) (PySem.AutoSeq1.list_insert_list_int_val_1 l its.toArray n 0 t u2 (by decide) (by rw [List.size_toArray]; omega)) ⟨e, ?_⟩
  refine ⟨.non, _, I.lset (its' := u2 :: its) hH e ?_ (.cons r2 r) ?_, rfl, q⟩
  · show (its.toArray.extract 0 (if (0 : Int) < 0 then ((0 : Int) + (its.toArray.size : Int)).toNat else min (0 : Int).toNat its.toArray.size)).push u2 ++ its.toArray.extract (if (0 : Int) < 0 then ((0 : Int) + (its.toArray.size : Int)).toNat else min (0 : Int).toNat its.toArray.size) = (u2 :: its).toArray
    rw [if_neg (by decide)]
    apply Array.toList_inj.mp
    simp
  · rw [List.length_cons]
    omega
end
end Kx
end
section
set_option maxHeartbeats 4000000
namespace Kx
open PySem PySem.Spec PyProof.Rows L2 RZ
/-! ### the law's parts and gain -/
def spPts (K : PySem.W.Frag) : Sp := fun vs H Q _ => ∃ (x : V) (us : List Rat) (kk M : Nat), vs = [x, .int (kk : Nat), .int ((us.length - kk : Nat) : Int)] ∧ Ls K H x us ∧ ser us 0 = 1 ∧ CrA M us ∧ 1 ≤ kk ∧ kk < us.length ∧ us.length ≤ 11 ∧ GivesLL K H Q ((List.range (us.length - kk)).map (ltP us kk))
abbrev nPts : List Str := ["_law_s", "_law_kk", "_law_count_y", "_law_under", "_law_found", "_law_e", "_law_run"]
theorem tR_step (i fl : Nat) : tR (i + 1) fl = tR i fl + 1 := by
  unfold tR
  rw [show (((i + 1 : Nat) : Int) - (fl : Int)) = ((i : Int) - (fl : Int)) + 1 by omega, Rat.intCast_add]
  rfl
theorem tR_both (i fl : Nat) : tR (i + 1) (fl + 1) = tR i fl := by
  unfold tR
  rw [show (((i + 1 : Nat) : Int) - ((fl + 1 : Nat) : Int)) = ((i : Int) - (fl : Int)) by omega]
theorem tR_down (fl : Nat) : tR 0 (fl + 1) = tR 0 fl + (-1) := by
  unfold tR
  rw [show (((0 : Nat) : Int) - ((fl + 1 : Nat) : Int)) = (((0 : Nat) : Int) - (fl : Int)) + (-1) by omega, Rat.intCast_add]
  rfl
theorem tR_one (kk : Nat) : tR (kk + 1) kk = 1 := by
  unfold tR
  rw [show (((kk + 1 : Nat) : Int) - (kk : Int)) = 1 by omega]
  rfl
theorem m1_d : Dq 1 6 (-1) := ⟨-1, by rw [show ((1 : Nat) : Rat) = 1 from rfl, Rat.mul_one]; rfl, by decide⟩
/-- a row put at the head of a list -/
theorem rows_head {K : PySem.W.Frag} {H : Hp} {pa b : Addr} {ps : List V} {rows : List (List Rat)} {r : List Rat} (h : Lsl K H ps rows) (hp : H pa = some (.lst ps)) (hne : ∀ x ∈ ps, x ≠ .ref pa) (hb : Ls K H (.ref b) r) (nb : b ≠ pa) :
    Lsl K (upd H pa (.lst (V.ref b :: ps))) (.ref b :: ps) (r :: rows) ∧ ∀ x ∈ V.ref b :: ps, x ≠ .ref pa := by
  have bu : But pa H (upd H pa (.lst (V.ref b :: ps))) := fun e o n h => by rw [upd_ne n]; exact h
  refine ⟨⟨by rw [List.length_cons, List.length_cons, h.1], fun i x r' h1 h2 => ?_⟩, fun x hx => ?_⟩
  · match i, h1, h2 with
    | 0, h1, h2 =>
      rw [← Option.some.inj h1, ← Option.some.inj h2]
      exact hb.butL hp (fun z => nb (V.ref.inj z)) bu
    | i + 1, h1, h2 => exact (h.2 i x r' h1 h2).butL hp (hne x (List.mem_of_getElem? h1)) bu
  · rcases List.mem_cons.mp hx with rfl | hx
    · exact fun z => nb (V.ref.inj z)
    · exact hne x hx
theorem ls_ne {K : PySem.W.Frag} {H : Hp} {v : V} {qs : List Rat} {fb : Addr} (h : Ls K H v qs) (n : H fb = none) : v ≠ .ref fb := by
  obtain ⟨b, _, rfl, hb, _⟩ := h
  exact fun z => by rw [V.ref.inj z, n] at hb; cases hb
section
variable {P : Program} {w : World} {K : PySem.W.Frag} {mg : Str → Option Value} {base : Heap} {f o0 o1 : Addr} {fd : FuncData}
theorem scPts : FnScope nPts ["_law_s", "_law_kk", "_law_count_y"] (defScope L_parts) := ⟨rfl, rfl, rfl, by decide +kernel, rfl, by decide +kernel, by decide +kernel⟩
theorem ok_lparts (F : Fun K "_law_parts" "_law_parts" L_parts f fd) (mr : mg "range" = none) (UP : Use P w K mg base CX0 2 "_law_prod" ["_law_u", "_law_w"] (spPrd K) []) (URc : Use P w K mg base CX0 3 "_law_recip" ["_law_u"] (spRcp K) []) (UL : Use P w K mg base CX0 4 "_law_log_row" ["_law_u"] (spLgr K) []) : FnOk P w K mg base CX0 5 f fd ["_law_s", "_law_kk", "_law_count_y"] (spPts K) := by
  refine F.ok scPts (fun vs H Q E h => ?_) (fun cdv A outer s H vs Q E hr h => ?_)
  · obtain ⟨x, us, kk, M, rfl, _⟩ := h
    rfl
  obtain ⟨x, us, kk, M, rfl, hx, u0, ca, k1, kn, l11, q⟩ := h
  have hr2 := hr.mono (show 2 ≤ 4 by decide)
  have hr3 := hr.mono (show 3 ≤ 4 by decide)
  refine ⟨_, (C8.pss_cut (ps_set (i := 3) scPts.nd rfl (Or.inl rfl) (pe_use URc hr3 rfl pass0 (pa_cons (pv 0) pa_nil)))
    (C8.pss_cut (ps_set (i := 4) scPts.nd rfl (Or.inl rfl) (pe_lst (pa_cons (pv 3) pa_nil)))
    (C8.pss_cut (ps_for PassesOwn.never rfl (pi_range1 rfl mr (pa_cons (pe_op op_sub (pv 1) pe_int) pa_nil)) (pg_name (i := 5) scPts.nd rfl (Or.inl rfl)) (pss_one (ps_expr (pe_bm PySem.F.plainAttrs_list PySem.F.slot_list_insert PySem.F.type_list_insert mt_ins0 (pv 4) (pa_cons pe_int (pa_cons (pe_use UP hr2 rfl pass0 (pa_cons (pe_ix ix_list (pv 4) pe_int (fun _ _ => rfl)) (pa_cons (pv 3) pa_nil))) pa_nil))))))
    (C8.pss_cut (ps_expr (pe_bm PySem.F.plainAttrs_list PySem.F.slot_list_append PySem.F.type_list_append mt_append (pv 4) (pa_cons (pe_use UL hr rfl pass0 (pa_cons (pv 0) pa_nil)) pa_nil)))
    (C8.pss_cut (ps_set (i := 6) scPts.nd rfl (Or.inl rfl) (pv 0))
    (C8.pss_cut (ps_for PassesOwn.never rfl (pi_range1 rfl mr (pa_cons (pe_op op_sub (pe_op op_sub (pv 2) (pv 1)) pe_int) pa_nil)) (pg_name (i := 5) scPts.nd rfl (Or.inl rfl)) (pss_cons (ps_expr (pe_bm PySem.F.plainAttrs_list PySem.F.slot_list_append PySem.F.type_list_append mt_append (pv 4) (pa_cons (pv 6) pa_nil))) (pss_one (ps_set (i := 6) scPts.nd rfl (Or.inl rfl) (pe_use UP hr2 rfl pass0 (pa_cons (pv 6) (pa_cons (pv 0) pa_nil)))))))
    (pss_one (ps_ret (pe_slice sl_list (pv 4) po_none (po_some (pv 2))))))))))), ?_⟩
  have l1 : 1 ≤ us.length := by omega
  have sM := crM ca
  have MM : M * M < 2 ^ 9000 := Nat.lt_of_lt_of_le (Nat.mul_lt_mul_of_lt_of_lt ca.m ca.m) (by rw [← Nat.pow_add]; exact Nat.pow_le_pow_right (by decide) (by decide))
  have ap : ∀ {i j : Nat}, i ≤ 32 → j ≤ 32 → AllD M 1200 (pwL us (tR i j)) := fun hi hj => ca.p _ (tR_d hi hj)
  have am : AllD M 1200 (pwL us (-1)) := ca.p _ m1_d
  refine ⟨fun σ G => Same H G ∧ ∃ vu, σ = [some x, some (.int (kk : Nat)), some (.int ((us.length - kk : Nat) : Int)), some vu, none, none, none] ∧ Ls K G vu (pwL us (-1)), ?_, ?_⟩
  · refine ⟨_, rfl, x, us, rfl, hx, u0, l1, by omega, ⟨M, 1200, ca.m0, Nat.lt_trans ca.m (Nat.pow_lt_pow_right (by decide) (by decide)), by decide, ca.u, by rw [← pw_rc l1 u0]; exact am⟩, fun b G ys s nb hb mb => ?_⟩
    rw [← pw_rc l1 u0] at mb
    exact ⟨s, .ref b, rfl, b, ys, rfl, hb, mb⟩
  rintro σ G ⟨s1, vu, rfl, lu⟩
  refine ⟨fun σ G' => Same G G' ∧ ∃ fb, σ = [some x, some (.int (kk : Nat)), some (.int ((us.length - kk : Nat) : Int)), some vu, some (.ref fb), none, none] ∧ G fb = none ∧ G' fb = some (.lst [vu]), ?_, ?_⟩
  · exact ⟨_, rfl, (by show 1 ≤ sizeLine; decide), fun fb nf => ⟨new_same nf _, fb, rfl, nf, upd_same⟩⟩
  rintro σ G1 ⟨s2, fb, rfl, nf, hf⟩
  have uf := ls_ne lu nf
  have xf := ls_ne (hx.same s1) nf
  have nfH := s1.free nf
  refine ⟨fun σ G' => Same H G' ∧ ∃ v5 zs, σ = [some x, some (.int (kk : Nat)), some (.int ((us.length - kk : Nat) : Int)), some vu, some (.ref fb), v5, none] ∧ G' fb = some (.lst zs) ∧ Lsl K G' zs ((List.range kk).map (ltP us kk)) ∧ (∀ z ∈ zs, z ≠ .ref fb) ∧ Ls K G' x us, ?_, ?_⟩
  · refine ⟨_, rfl, (kk : Nat), 1, rfl, rfl, _, rfl, by omega, by omega, for_range (lo := 0) (n := (((kk : Nat) : Int) - 1).toNat) (fun e σ G' => Same H G' ∧ ∃ v5 zs, σ = [some x, some (.int (kk : Nat)), some (.int ((us.length - kk : Nat) : Int)), some vu, some (.ref fb), v5, none] ∧ G' fb = some (.lst zs) ∧ Lsl K G' zs ((List.range (e + 1)).map fun i => pwL us (tR i (e + 1))) ∧ (∀ z ∈ zs, z ≠ .ref fb) ∧ Ls K G' x us ∧ Ls K G' vu (pwL us (-1))) ⟨s1.trans s2, none, [vu], rfl, hf, ⟨rfl, fun i z r h1 h2 => ?_⟩, fun z hz => by rw [List.mem_singleton.mp hz]; exact uf, (hx.same s1).same s2, lu.same s2⟩ ?_ ?_⟩
    · match i, h1, h2 with
      | 0, h1, h2 =>
        rw [← Option.some.inj h1, ← Option.some.inj h2]
        exact lu.same s2
      | _ + 1, h1, _ => simp at h1
    · rintro e σ G2 he ⟨s3, v5, zs, rfl, hz, lz, nz, hx2, lu2⟩
      have lzs : zs.length = e + 1 := by rw [lz.1, List.length_map, List.length_range]
      obtain ⟨z0, ez⟩ : ∃ z, zs[0]? = some z := ⟨_, List.getElem?_eq_getElem (by omega)⟩
      have l0 := lz.2 0 z0 (pwL us (tR 0 (e + 1))) ez (by rw [List.getElem?_map, List.getElem?_range (by omega)]; rfl)
      refine ⟨_, rfl, .inl ⟨rfl, _, SqL.of hz⟩, _, rfl, fb, zs, 0, z0, rfl, rfl, SqL.of hz, at_of (j := 0) rfl ez, _, rfl, z0, vu, _, _, M, 1200, M, 1200, rfl, l0, lu2, by rw [pwL_len, pwL_len], by rw [pwL_len]; omega, sM, by decide, sM, by decide, MM, ap (by omega) (by omega), am, fun b G3 ys s4 nb hb mb => ?_⟩
      rw [← pw_add _ _ l1, ← tR_down] at mb
      have hz3 := s4 _ _ hz
      have bf : b ≠ fb := fun z => by rw [z, hz] at nb; cases nb
      obtain ⟨l5, n5⟩ := rows_head (lz.same s4) hz3 nz ⟨b, ys, rfl, hb, mb⟩ bf
      have bu : But fb G3 (upd G3 fb (.lst (V.ref b :: zs))) := fun b o n h => by rw [upd_ne n]; exact h
      refine ⟨fb, zs, _, rfl, rfl, hz3, small1000 (by omega), fun d o hd => ?_, _, V.ref b :: zs, rfl, upd_same, ?_, n5, (hx2.same s4).butL hz3 xf bu, (lu2.same s4).butL hz3 uf bu⟩
      · rw [upd_ne (fun z => by rw [z, nfH] at hd; cases hd)]
        exact s4 _ _ (s3 _ _ hd)
      · have e1 : (List.range (e + 1 + 1)).map (fun i => pwL us (tR i (e + 1 + 1))) = pwL us (tR 0 (e + 1 + 1)) :: (List.range (e + 1)).map fun i => pwL us (tR i (e + 1)) := by
          rw [List.range_succ_eq_map, List.map_cons, List.map_map]
          congr 1
          exact List.map_congr_left fun i _ => by
            show pwL us (tR (i + 1) (e + 1 + 1)) = _
            rw [tR_both]
        rw [e1]
        exact l5
    · rintro σ G2 ⟨s3, v5, zs, rfl, hz, lz, nz, hx2, lu2⟩
      rw [show (((kk : Nat) : Int) - 1).toNat + 1 = kk by omega] at lz
      have e : (List.range kk).map (fun i => pwL us (tR i kk)) = (List.range kk).map (ltP us kk) := List.map_congr_left fun i hi => by
        have := List.mem_range.mp hi
        unfold ltP
        rw [if_neg (by omega)]
      rw [e] at lz
      exact ⟨s3, v5, zs, rfl, hz, lz, nz, hx2⟩
  clear hf
  rintro σ G2 ⟨s3, v5, zs, rfl, hz, lz, nz, hx2⟩
  refine ⟨fun σ G' => Same H G' ∧ ∃ zs, σ = [some x, some (.int (kk : Nat)), some (.int ((us.length - kk : Nat) : Int)), some vu, some (.ref fb), v5, none] ∧ G' fb = some (.lst zs) ∧ Lsl K G' zs ((List.range (kk + 1)).map (ltP us kk)) ∧ (∀ z ∈ zs, z ≠ .ref fb) ∧ Ls K G' x us, ?_, ?_⟩
  · refine ⟨_, rfl, .inl ⟨rfl, _, SqL.of hz⟩, _, rfl, x, us, M, rfl, hx2, u0, ca, by omega, l11, fun b G3 ys s4 nb hb mb => ?_⟩
    have hz3 := s4 _ _ hz
    have bf : b ≠ fb := fun z => by rw [z, hz] at nb; cases nb
    have lzs : zs.length = kk := by rw [lz.1, List.length_map, List.length_range]
    obtain ⟨l5, n5⟩ := rows_snoc (lz.same s4) hz3 nz ⟨b, ys, rfl, hb, mb⟩ bf
    have bu : But fb G3 (upd G3 fb (.lst (zs ++ [V.ref b]))) := fun b o n h => by rw [upd_ne n]; exact h
    refine ⟨fb, zs, _, rfl, rfl, hz3, small1000 (by omega), fun d o hd => ?_, zs ++ [V.ref b], rfl, upd_same, ?_, n5, (hx2.same s4).butL hz3 xf bu⟩
    · rw [upd_ne (fun z => by rw [z, nfH] at hd; cases hd)]
      exact s4 _ _ (s3 _ _ hd)
    · rw [List.range_succ, List.map_append]
      have e1 : [kk].map (ltP us kk) = [lgL us] := by
        show [ltP us kk kk] = _
        unfold ltP
        rw [if_pos rfl]
      rw [e1]
      exact l5
  clear hz lz nz hx2 s3
  rintro σ G3 ⟨s3, zs, rfl, hz, lz, nz, hx2⟩
  refine ⟨fun σ G' => G' = G3 ∧ σ = [some x, some (.int (kk : Nat)), some (.int ((us.length - kk : Nat) : Int)), some vu, some (.ref fb), v5, some x], ?_, ?_⟩
  · exact ⟨_, rfl, rfl, rfl⟩
  rintro σ G' ⟨rfl, rfl⟩
  refine ⟨fun σ G' => Same H G' ∧ ∃ v5 v6 zs m, σ = [some x, some (.int (kk : Nat)), some (.int ((us.length - kk : Nat) : Int)), some vu, some (.ref fb), v5, v6] ∧ G' fb = some (.lst zs) ∧ us.length - kk ≤ m ∧ Lsl K G' zs ((List.range m).map (ltP us kk)), ?_, ?_⟩
  · refine ⟨_, rfl, _, rfl, ((us.length - kk : Nat) : Int), (kk : Nat), rfl, rfl, _, 1, rfl, rfl, _, rfl, by omega, by omega, for_range (lo := 0) (n := (((us.length - kk : Nat) : Int) - (kk : Nat) - 1).toNat) (fun e σ G4 => Same H G4 ∧ ∃ v5 vr zs, σ = [some x, some (.int (kk : Nat)), some (.int ((us.length - kk : Nat) : Int)), some vu, some (.ref fb), v5, some vr] ∧ G4 fb = some (.lst zs) ∧ Lsl K G4 zs ((List.range (kk + 1 + e)).map (ltP us kk)) ∧ (∀ z ∈ zs, z ≠ .ref fb) ∧ Ls K G4 x us ∧ Ls K G4 vr (pwL us (tR (kk + 1 + e) kk)) ∧ vr ≠ .ref fb) ⟨s3, v5, x, zs, rfl, hz, lz, nz, hx2, by rw [Nat.add_zero, tR_one, pw_one l1 u0]; exact hx2, xf⟩ ?_ ?_⟩
    · rintro e σ G4 he ⟨s4, v5, vr, zs, rfl, hz, lz, nz, hx4, lr, rf⟩
      obtain ⟨br, yr, rfl, hbr, mbr⟩ := id lr
      have lzs : zs.length = kk + 1 + e := by rw [lz.1, List.length_map, List.length_range]
      have brf : br ≠ fb := fun z => rf (by rw [z])
      obtain ⟨l5, n5⟩ := rows_snoc lz hz nz lr brf
      have bu : But fb G4 (upd G4 fb (.lst (zs ++ [V.ref br]))) := fun b o n h => by rw [upd_ne n]; exact h
      refine ⟨_, rfl, .inl ⟨rfl, _, SqL.of hz⟩, _, rfl, fb, zs, _, rfl, rfl, hz, small1000 (by omega), ?_⟩
      have x5 := hx4.butL hz xf bu
      have r5 := lr.butL hz rf bu
      have f5 : upd G4 fb (.lst (zs ++ [V.ref br])) fb = some (.lst (zs ++ [V.ref br])) := upd_same
      have s5 : Same H (upd G4 fb (.lst (zs ++ [V.ref br]))) := fun d o hd => by
        rw [upd_ne (fun z => by rw [z, nfH] at hd; cases hd)]
        exact s4 _ _ hd
      generalize upd G4 fb (.lst (zs ++ [V.ref br])) = G5 at l5 x5 r5 f5 s5
      refine ⟨_, rfl, _, rfl, .ref br, x, _, us, M, 1200, M, 1200, rfl, r5, x5, by rw [pwL_len], by rw [pwL_len]; omega, sM, by decide, sM, by decide, MM, ap (by omega) (by omega), ca.u, fun b G6 ys s6 nb hb mb => ?_⟩
      have e1 : mulL (pwL us (tR (kk + 1 + e) kk)) us = pwL us (tR (kk + 1 + e + 1) kk) := by rw [tR_step, pw_add _ _ l1, pw_one l1 u0]
      rw [e1] at mb
      refine ⟨s5.trans s6, _, .ref b, zs ++ [V.ref br], rfl, s6 _ _ f5, ?_, n5, x5.same s6, ⟨b, ys, rfl, hb, mb⟩, fun z => by rw [V.ref.inj z, f5] at nb; cases nb⟩
      rw [show kk + 1 + (e + 1) = (kk + 1 + e) + 1 by omega, List.range_succ, List.map_append]
      have e2 : [kk + 1 + e].map (ltP us kk) = [pwL us (tR (kk + 1 + e) kk)] := by
        show [ltP us kk (kk + 1 + e)] = _
        unfold ltP
        rw [if_neg (by omega)]
      rw [e2]
      exact l5.same s6
    · rintro σ G4 ⟨s4, v5, vr, zs, rfl, hz, lz, nz, hx4, lr, rf⟩
      exact ⟨s4, v5, some vr, zs, _, rfl, hz, by omega, lz⟩
  clear hz lz nz hx2 s3
  rintro σ G5 ⟨s5, v5, v6, zs, m, rfl, hz, hm, lz⟩
  refine ⟨_, rfl, _, rfl, _, rfl, fb, zs, rfl, SqL.of hz, fun p np => ?_⟩
  rw [cut_take]
  have s6 := new_same np (HO.lst (zs.take (us.length - kk)))
  refine q p _ _ (s5.trans s6) (s5.free np) upd_same ?_
  have e : (List.range (us.length - kk)).map (ltP us kk) = ((List.range m).map (ltP us kk)).take (us.length - kk) := by
    rw [← List.map_take, List.take_range, Nat.min_eq_left hm]
  rw [e]
  refine ⟨by rw [List.length_take, List.length_take, lz.1], fun i z r h1 h2 => ?_⟩
  rw [List.getElem?_take] at h1 h2
  split at h1
  · rename_i c
    rw [if_pos c] at h2
    exact (lz.2 i z r h1 h2).same s6
  · cases h1
end
end Kx
end
section
set_option maxHeartbeats 4000000
namespace Kx
open PySem PySem.Spec PyProof.Rows L2 RZ
/-! ### the law's gain -/
def gaP (us : List Rat) (fl : Nat) (cs : List Rat) (m i : Nat) : Rat := sumN (fun a => ser cs a * gnE us fl a m) i
theorem gaP_d {L B M : Nat} {us cs : List Rat} {fl m i : Nat} (h : CrA M us) (hc : AllD L B cs) (hi : i ≤ 16) (hf : fl ≤ 32) : Dq (L * M) (B + 1204) (gaP us fl cs m i) := dq_sum (c := 4) _ (fun a ha => (hc.getD a).mul (gn_d h (by omega) hf)) (by omega)
def gaT (us : List Rat) (fl : Nat) (cs : List Rat) : List Rat := (List.range (us.length - fl)).map fun m => gaP us fl cs m (us.length - fl)
theorem gaT_eq {us cs : List Rat} {fl : Nat} (l : cs.length = us.length - fl) : gaT us fl cs = gaL us fl cs := by
  apply List.ext_getElem?
  intro m
  unfold gaT
  rw [List.getElem?_map]
  by_cases c : m < us.length - fl
  · rw [List.getElem?_range c, ga_at l c]
    rfl
  · rw [List.getElem?_eq_none (by rw [List.length_range]; omega), List.getElem?_eq_none (by rw [gaL_len]; omega)]
    rfl
def spLga (K : PySem.W.Frag) : Sp := fun vs H Q _ => ∃ (x y : V) (us cs : List Rat) (kk M L B : Nat), vs = [x, .int (kk : Nat), y] ∧ Ls K H x cs ∧ Ls K H y (0 :: us) ∧ cs.length = us.length - kk ∧ CrC us kk M ∧ SmL L ∧ SmL (L * M) ∧ B ≤ 60000 ∧ AllD L B cs ∧ GivesL K H Q (gaL us kk cs)
abbrev nLga : List Str := ["_law_nums_here", "_law_kk", "_law_f", "_law_parts_here", "_law_found", "_law_m", "_law_p", "_law_i"]
section
variable {P : Program} {w : World} {K : PySem.W.Frag} {mg : Str → Option Value} {base : Heap} {f o0 o1 : Addr} {fd : FuncData}
theorem scLga : FnScope nLga ["_law_nums_here", "_law_kk", "_law_f"] (defScope L_gain) := ⟨rfl, rfl, rfl, by decide +kernel, rfl, by decide +kernel, by decide +kernel⟩
theorem ok_lgain (F : Fun K "_law_gain" "_law_gain" L_gain f fd) (mn : mg "len" = none) (mr : mg "range" = none) (UA : Use P w K mg base CX0 2 "_law_add" ["_law_p", "_law_q"] (spTwoQ K (· + ·)) []) (UM : Use P w K mg base CX0 2 "_law_mul" ["_law_p", "_law_q"] (spTwoQ K (· * ·)) []) (UP : Use P w K mg base CX0 5 "_law_parts" ["_law_s", "_law_kk", "_law_count_y"] (spPts K) []) : FnOk P w K mg base CX0 6 f fd ["_law_nums_here", "_law_kk", "_law_f"] (spLga K) := by
  refine F.ok scLga (fun vs H Q E h => ?_) (fun cdv A outer s H vs Q E hr h => ?_)
  · obtain ⟨x, y, us, cs, kk, M, L, B, rfl, _⟩ := h
    rfl
  obtain ⟨x, y, us, cs, kk, M, L, B, rfl, hx, hy, lc, hC, sL, sLM, b6, al, q⟩ := h
  have hr2 := hr.mono (show 2 ≤ 5 by decide)
  refine ⟨_, (C8.pss_cut (ps_par (i := 3) (j := 4) rfl scLga.nd rfl rfl (by decide) rfl rfl (pa_cons (pe_use UP hr rfl pass0 (pa_cons (pe_slice sl_list (pv 2) (po_some pe_int) po_none) (pa_cons (pv 1) (pa_cons (pe_callB call_len_seq rfl mn PySem.boot_len (pa_cons (pv 0) pa_nil)) pa_nil)))) (pa_cons (pe_lst pa_nil) pa_nil)) rfl)
    (pss_cons (ps_for PassesOwn.never rfl (pi_range1 rfl mr (pa_cons (pe_op op_sub (pe_op op_sub (pe_callB call_len_seq rfl mn PySem.boot_len (pa_cons (pv 2) pa_nil)) pe_int) (pv 1)) pa_nil)) (pg_name (i := 5) scLga.nd rfl (Or.inl rfl)) (pss_cons (ps_set (i := 6) scLga.nd rfl (Or.inl rfl) (pe_tup (pa_cons pe_int (pa_cons pe_int pa_nil)))) (pss_cons (ps_for PassesOwn.never rfl (pi_range1 rfl mr (pa_cons (pe_callB call_len_seq rfl mn PySem.boot_len (pa_cons (pv 0) pa_nil)) pa_nil)) (pg_name (i := 7) scLga.nd rfl (Or.inl rfl)) (pss_one (ps_if (pt_cmpR op_eq (pv 7) (pv 1) (nomark _)) (pss_one (ps_set (i := 6) scLga.nd rfl (Or.inl rfl) (pe_use UA hr2 rfl pass0 (pa_cons (pv 6) (pa_cons (pe_use UM hr2 rfl pass0 (pa_cons (pe_ix ix_list (pv 0) (pv 7) (fun _ _ => rfl)) (pa_cons (pe_ix ix_list (pe_ix ix_list (pv 3) (pv 7) (fun _ _ => rfl)) (pv 5) (fun _ _ => rfl)) pa_nil))) pa_nil))))) (pss_one (ps_if (pt_cmpR op_ge (pe_op op_add (pe_op op_sub (pv 5) (pv 7)) (pv 1)) pe_int (nomark _)) (pss_one (ps_set (i := 6) scLga.nd rfl (Or.inl rfl) (pe_use UA hr2 rfl pass0 (pa_cons (pv 6) (pa_cons (pe_use UM hr2 rfl pass0 (pa_cons (pe_ix ix_list (pv 0) (pv 7) (fun _ _ => rfl)) (pa_cons (pe_ix ix_list (pe_ix ix_list (pv 3) (pv 7) (fun _ _ => rfl)) (pe_op op_add (pe_op op_sub (pv 5) (pv 7)) (pv 1)) (fun _ _ => rfl)) pa_nil))) pa_nil))))) pss_nil))))) (pss_one (ps_expr (pe_bm PySem.F.plainAttrs_list PySem.F.slot_list_append PySem.F.type_list_append mt_append (pv 4) (pa_cons (pv 6) pa_nil))))))) (pss_one (ps_ret (pv 4))))), ?_⟩
  have f1 := hC.f1
  have fn := hC.fn
  have l11 := hC.l11
  have ca := hC.c
  have sM := crM ca
  obtain ⟨xa, xs, rfl, hxa, nx⟩ := id hx
  obtain ⟨ya, ys, rfl, hya, ny⟩ := id hy
  have lx : xs.length = cs.length := nx.1
  have ly : ys.length = us.length + 1 := ny.1
  refine ⟨fun σ G => Same H G ∧ ∃ pa fb zs, σ = [some (.ref xa), some (.int (kk : Nat)), some (.ref ya), some (.ref pa), some (.ref fb), none, none, none] ∧ G pa = some (.lst zs) ∧ Lsl K G zs ((List.range (us.length - kk)).map (ltP us kk)) ∧ H fb = none ∧ pa ≠ fb ∧ (∀ z ∈ zs, z ≠ .ref fb) ∧ G fb = some (.lst []), ?_, ?_⟩
  · refine ⟨_, rfl, 1, rfl, ya, ys, rfl, SqL.of hya, fun p np => ?_⟩
    rw [show cutV ys (some 1) none = ys.drop 1 from cut_drop ys 1]
    have s1 := new_same np (HO.lst (ys.drop 1))
    refine ⟨_, rfl, _, rfl, xa, xs, rfl, .inl (SqL.of (s1 _ _ hxa)), .ref p, us, kk, M, ?_, ⟨p, _, rfl, upd_same, (ny.drop 1).same s1⟩, hC.u0, ca, f1, fn, l11, fun b H2 zs s2 nb hb mb => ?_⟩
    · rw [lx, lc]
      rfl
    · refine ⟨(by show 0 ≤ sizeLine; decide), fun fb nf => ?_⟩
      have s3 := new_same nf (HO.lst [])
      exact ⟨_, _, rfl, s1.trans (s2.trans s3), b, fb, zs, rfl, s3 _ _ hb, mb.same s3, (s1.trans s2).free nf, (fun z => by rw [z, nf] at hb; cases hb), (fun z hz => by
        obtain ⟨i, hi⟩ := List.getElem?_of_mem hz
        obtain ⟨r, _, lr⟩ := mb.get hi
        exact ls_ne lr nf), upd_same⟩
  rintro σ G ⟨s1, pa, fb, zs, rfl, hp, lp, nf, pf, zf, hf⟩
  have lzs : zs.length = us.length - kk := by rw [lp.1, List.length_map, List.length_range]
  have okc : ∀ a, Ok (ser cs a) := fun a => (al.getD a).ok sL (by omega)
  have okg : ∀ {i m}, i ≤ 11 → Ok (gaP us kk cs m i) := fun hi => (gaP_d ca al (by omega) (by omega)).ok sLM (by omega)
  refine ⟨_, rfl, ya, ys, rfl, .inl (SqL.of (s1 _ _ hya)), (ys.length : Nat), 1, rfl, rfl, _, rfl, _, (kk : Nat), rfl, rfl, _, rfl, by omega, by omega, for_range (lo := 0) (n := (((ys.length : Nat) : Int) - 1 - (kk : Nat)).toNat) (fun m σ G' => (Same H G' ∧ G' pa = some (.lst zs) ∧ Lsl K G' zs ((List.range (us.length - kk)).map (ltP us kk))) ∧ (∃ v5 v6 v7, σ = [some (.ref xa), some (.int (kk : Nat)), some (.ref ya), some (.ref pa), some (.ref fb), v5, v6, v7]) ∧ ∃ ws, G' fb = some (.lst ws) ∧ Nl K G' ws ((List.range m).map fun m => gaP us kk cs m (us.length - kk))) ⟨⟨s1, hp, lp⟩, ⟨none, none, none, rfl⟩, [], hf, Nl.nil⟩ ?_ ?_⟩
  · clear hp lp hf s1
    rintro m σ G2 hm ⟨⟨s1, hp, lp⟩, ⟨v5, v6, v7, rfl⟩, ws, hw, nw⟩
    have hm' : m < us.length - kk := by omega
    refine ⟨(by show 2 ≤ sizeLine; decide), fun t nt => ?_⟩
    have s2 := new_same nt (HO.tup [.int 0, .int 1])
    have t0 : Nq K (upd G2 t (HO.tup [.int 0, .int 1])) (.ref t) (gaP us kk cs m 0) := .at (K := K) (show _ = some (rT 0) from upd_same)
    generalize upd G2 t (HO.tup [.int 0, .int 1]) = G3 at s2 t0
    have hx3 := s2 _ _ (s1 _ _ hxa)
    refine ⟨_, rfl, xa, xs, rfl, .inl (SqL.of hx3), (xs.length : Nat), rfl, by omega, by omega, for_range (lo := 0) (n := ((xs.length : Nat) : Int).toNat) (fun i σ G' => Same G3 G' ∧ ∃ vp v7, σ = [some (.ref xa), some (.int (kk : Nat)), some (.ref ya), some (.ref pa), some (.ref fb), some (.int (0 + (m : Int))), some vp, v7] ∧ Nq K G' vp (gaP us kk cs m i)) ⟨Same.refl _, .ref t, v7, rfl, t0⟩ ?_ ?_⟩
    · rintro i σ G4 hi ⟨s3, vp, v7, rfl, np⟩
      have hi' : i < us.length - kk := by omega
      have s23 := s2.trans s3
      obtain ⟨yc, ec, nc⟩ := nx.get' (i := i) (by omega)
      have ev : cs[i]'(by omega) = ser cs i := by
        have := ser_at (qs := cs) (k := i) (by omega)
        rw [List.getElem?_eq_getElem (by omega)] at this
        exact Option.some.inj this
      rw [ev] at nc
      have nc4 := nc.same (s1.trans s23)
      have hx4 := s23 _ _ (s1 _ _ hxa)
      have hp4 := s23 _ _ hp
      obtain ⟨zr, ez⟩ : ∃ z, zs[i]? = some z := ⟨_, List.getElem?_eq_getElem (by omega)⟩
      have lr := (lp.2 i zr (ltP us kk i) ez (by rw [List.getElem?_map, List.getElem?_range hi']; rfl)).same s23
      obtain ⟨ra, rs, rfl, hra, nra⟩ := id lr
      have lrs : (ltP us kk i).length = us.length := by
        unfold ltP
        split
        · exact lgL_len (by omega)
        · exact pwL_len us _
      have adl : ∀ k, Dq M 1200 (ser (ltP us kk i) k) := fun k => by
        unfold ltP
        split
        · exact ca.l.getD k
        · exact (ca.p _ (tR_d (by omega) (by omega))).getD k
      -- one product is added
      have add : ∀ (j : Nat) {Q' : VK} {R : L2.St → Hp → Prop}, j < us.length → gnE us kk i m = ser (ltP us kk i) j → ∃ y, rs[j]? = some y ∧ Nq K G4 y (ser (ltP us kk i) j) := fun j _ _ hj _ => by
        obtain ⟨y, ey, ny'⟩ := nra.get' (i := j) (by rw [lrs]; exact hj)
        refine ⟨y, ey, ?_⟩
        have : (ltP us kk i)[j]'(by rw [lrs]; exact hj) = ser (ltP us kk i) j := by
          have := ser_at (qs := ltP us kk i) (k := j) (by rw [lrs]; exact hj)
          rw [List.getElem?_eq_getElem (by rw [lrs]; exact hj)] at this
          exact Option.some.inj this
        rw [this] at ny'
        exact ny'
      have okm : ∀ j, Ok (ser cs i * ser (ltP us kk i) j) := fun j => ((al.getD i).mul (adl j)).ok sLM (by omega)
      have fin : ∀ {H5 : Hp} {v5 v6 : Addr}, Same G4 H5 → H5 v6 = some (rT (gaP us kk cs m i + ser cs i * gnE us kk i m)) → Same G3 H5 ∧ Nq K H5 (.ref v6) (gaP us kk cs m (i + 1)) := fun s4 e => ⟨s3.trans s4, .at e⟩
      refine ⟨_, rfl, _, rfl, rfl, _, rfl, ?_⟩
      by_cases c : i = kk
      · rw [decide_eq_true (show V.int (0 + (i : Int)) = .int (kk : Nat) by congr 1; omega)]
        have eg : gnE us kk i m = ser (ltP us kk i) m := by
          unfold gnE ltP
          rw [if_pos c, if_pos c]
        obtain ⟨y, ey, nyy⟩ := add m (Q' := fun _ _ => True) (R := fun _ _ => True) (by omega) eg
        refine iteT ⟨_, rfl, _, rfl, _, rfl, xa, xs, 0 + (i : Int), yc, rfl, rfl, SqL.of hx4, at_of (j := i) (by omega) ec, _, rfl, _, rfl, pa, zs, 0 + (i : Int), .ref ra, rfl, rfl, SqL.of hp4, at_of (j := i) (by omega) ez, _, rfl, ra, rs, 0 + (m : Int), y, rfl, rfl, SqL.of hra, at_of (j := m) (by omega) ey, yc, y, _, _, rfl, nc4, nyy, okc i, (adl m).ok sM (by decide), fun t5 H5 s5 n5 e5 => ?_⟩
        refine ⟨vp, .ref t5, _, _, rfl, np.same s5, .at e5, okg (by omega), okm m, fun t6 H6 s6 n6 e6 => ?_⟩
        rw [← eg] at e6
        obtain ⟨w1, w2⟩ := fin (v5 := t5) (s5.trans s6) e6
        exact ⟨w1, .ref t6, _, rfl, w2⟩
      · rw [decide_eq_false (show ¬ V.int (0 + (i : Int)) = .int (kk : Nat) from fun z => by have := V.int.inj z; omega)]
        refine iteF ⟨_, rfl, _, rfl, 0 + (m : Int), 0 + (i : Int), rfl, rfl, _, rfl, 0 + (m : Int) - (0 + (i : Int)), (kk : Nat), rfl, rfl, 0 + (m : Int) - (0 + (i : Int)) + (kk : Nat), 1, rfl, rfl, _, rfl, ?_⟩
        by_cases d : m + kk ≤ i
        · rw [decide_eq_false (show ¬ 0 + (m : Int) - (0 + (i : Int)) + (kk : Nat) ≥ 1 by omega)]
          have eg : gnE us kk i m = 0 := by
            unfold gnE
            rw [if_neg c, if_pos d]
          refine iteF ⟨s3, vp, _, rfl, ?_⟩
          have e2 : gaP us kk cs m (i + 1) = gaP us kk cs m i := by
            show gaP us kk cs m i + ser cs i * gnE us kk i m = _
            rw [eg, Rat.mul_zero, Rat.add_zero]
          rw [e2]
          exact np
        · rw [decide_eq_true (show 0 + (m : Int) - (0 + (i : Int)) + (kk : Nat) ≥ 1 by omega)]
          have eg : gnE us kk i m = ser (ltP us kk i) (m + kk - i) := by
            unfold gnE ltP
            rw [if_neg c, if_neg c, if_neg d]
          obtain ⟨y, ey, nyy⟩ := add (m + kk - i) (Q' := fun _ _ => True) (R := fun _ _ => True) (by omega) eg
          refine iteT ⟨_, rfl, _, rfl, _, rfl, xa, xs, 0 + (i : Int), yc, rfl, rfl, SqL.of hx4, at_of (j := i) (by omega) ec, _, rfl, _, rfl, pa, zs, 0 + (i : Int), .ref ra, rfl, rfl, SqL.of hp4, at_of (j := i) (by omega) ez, _, rfl, _, rfl, 0 + (m : Int), 0 + (i : Int), rfl, rfl, _, rfl, 0 + (m : Int) - (0 + (i : Int)), (kk : Nat), rfl, rfl, ra, rs, 0 + (m : Int) - (0 + (i : Int)) + (kk : Nat), y, rfl, rfl, SqL.of hra, at_of (j := m + kk - i) (by omega) ey, yc, y, _, _, rfl, nc4, nyy, okc i, (adl (m + kk - i)).ok sM (by decide), fun t5 H5 s5 n5 e5 => ?_⟩
          refine ⟨vp, .ref t5, _, _, rfl, np.same s5, .at e5, okg (by omega), okm _, fun t6 H6 s6 n6 e6 => ?_⟩
          rw [← eg] at e6
          obtain ⟨w1, w2⟩ := fin (v5 := t5) (s5.trans s6) e6
          exact ⟨w1, .ref t6, _, rfl, w2⟩
    · rintro σ G4 ⟨s3, vp, v7, rfl, np⟩
      have s23 := s2.trans s3
      rw [show ((xs.length : Nat) : Int).toNat = us.length - kk by omega] at np
      have hw4 := s23 _ _ hw
      have lws : ws.length = m := by rw [nw.1, List.length_map, List.length_range]
      have bu : ∀ {zz : List V}, But fb G4 (upd G4 fb (.lst zz)) := fun {zz} b o n h => by rw [upd_ne n]; exact h
      refine ⟨_, rfl, .inl ⟨rfl, _, SqL.of hw4⟩, _, rfl, fb, ws, _, rfl, rfl, hw4, small1000 (by omega), ⟨fun d o hd => ?_, ?_, ?_⟩, ⟨_, _, _, rfl⟩, ws ++ [vp], upd_same, ?_⟩
      · rw [upd_ne (fun z => by rw [z, nf] at hd; cases hd)]
        exact s23 _ _ (s1 _ _ hd)
      · rw [upd_ne pf]
        exact s23 _ _ hp
      · exact ⟨lp.1, fun i z r h1 h2 => ((lp.2 i z r h1 h2).same s23).butL hw4 (zf z (List.mem_of_getElem? h1)) bu⟩
      · rw [List.range_succ, List.map_append]
        exact Nl.snoc ((nw.same s23).setL (ys := ws ++ [vp]) hw4) (np.setL hw4)
  · rintro σ G2 ⟨⟨s2, _, _⟩, ⟨v5, v6, v7, rfl⟩, ws, hw, nw⟩
    rw [show (((ys.length : Nat) : Int) - 1 - (kk : Nat)).toNat = us.length - kk by omega] at nw
    have nw : Nl K G2 ws (gaT us kk cs) := nw
    rw [gaT_eq lc] at nw
    exact ⟨_, rfl, q fb G2 ws s2 nf hw nw⟩
end
end Kx
end
section
set_option maxHeartbeats 4000000
namespace Kx
open PySem PySem.Spec PyProof.Rows L2 RZ
/-! ### a tally told -/
def spIfr (K : PySem.W.Frag) : Sp := fun vs H Q _ => ∃ (x : V) (q : Rat), vs = [x] ∧ Nq K H x q ∧ Ok q ∧ ∀ H', Same H H' → Q (.bl true) H'
theorem kb_i : kitB "int" "int" = some true ∧ kitB "int" "bool" = some false := by decide +kernel
def spTle (K : PySem.W.Frag) (TA : Addr) : Sp := fun vs H Q _ => ∃ (x : V) (fl : Nat) (cs : List Rat), vs = [x] ∧ TaAt K TA H x fl cs ∧ Q (.int (cs.length : Nat)) H
def spIty (K : PySem.W.Frag) (TA : Addr) : Sp := fun vs H Q _ => ∃ (t x : V) (kk : Nat) (cs : List Rat), vs = [t, x, .int (kk : Nat)] ∧ TaAt K TA H t kk cs ∧ Ls K H x cs ∧ cs.length ≤ 30 ∧ ∀ H', Same H H' → Q (.bl true) H'
def spOne (K : PySem.W.Frag) : Sp := fun vs H Q _ => ∃ n : Nat, vs = [.int (n : Nat)] ∧ 1 ≤ n ∧ n ≤ 100 ∧ GivesL K H Q (oneL n)
abbrev nIty : List Str := ["_law_told", "_law_nums_here", "_law_kk"]
section
variable {P : Program} {w : World} {K : PySem.W.Frag} {mg : Str → Option Value} {base : Heap} {f o0 o1 C S CF CO TA : Addr} {fd : FuncData}
theorem scIfr : FnScope ["_law_p"] ["_law_p"] (defScope L_is_fraction) := ⟨rfl, rfl, rfl, by decide +kernel, rfl, by decide +kernel, by decide +kernel⟩
theorem ok_ifr (F : Fun K "_law_is_fraction" "_law_is_fraction" L_is_fraction f fd) (mI : mg "isinstance" = none) (mt : mg "tuple" = none) (mi : mg "int" = none) (mb : mg "bool" = none) (mn : mg "len" = none) (UL : Use P w K mg base CX0 1 "_law_low" ["_law_num_here", "_law_den"] spLowQ []) : FnOk P w K mg base CX0 2 f fd ["_law_p"] (spIfr K) := by
  refine F.ok scIfr (fun vs H Q E h => ?_) (fun cdv A outer s H vs Q E hr h => ?_)
  · obtain ⟨x, q, rfl, _⟩ := h
    rfl
  obtain ⟨x, r, rfl, nx, or, q⟩ := h
  refine ⟨_, pss_cons (ps_if (PW.pt (pw_or (pt_not (pt_val (pe_callB call_isi rfl mI (by decide +kernel) (pa_cons (pv 0) (pa_cons (pe_bltn rfl mt boot_tuple (rel_ty _)) pa_nil))))) (pw_or1 (pt_cmpR op_ne (pe_callB call_len_seq rfl mn PySem.boot_len (pa_cons (pv 0) pa_nil)) pe_int (nomark _))))) (pss_one (ps_ret pe_bl)) pss_nil)
    (pss_cons (ps_if (PW.pt (pw_or (pt_not (pt_val (pe_callB call_isi rfl mI (by decide +kernel) (pa_cons (pe_ix ix_tup (pv 0) pe_int (fun _ _ => rfl)) (pa_cons (pe_bltn rfl mi boot_int (rel_ty _)) pa_nil))))) (pw_or (pt_not (pt_val (pe_callB call_isi rfl mI (by decide +kernel) (pa_cons (pe_ix ix_tup (pv 0) pe_int (fun _ _ => rfl)) (pa_cons (pe_bltn rfl mi boot_int (rel_ty _)) pa_nil))))) (pw_or (pt_val (pe_callB call_isi rfl mI (by decide +kernel) (pa_cons (pe_ix ix_tup (pv 0) pe_int (fun _ _ => rfl)) (pa_cons (pe_bltn rfl mb boot_bool (rel_ty _)) pa_nil)))) (pw_or1 (pt_val (pe_callB call_isi rfl mI (by decide +kernel) (pa_cons (pe_ix ix_tup (pv 0) pe_int (fun _ _ => rfl)) (pa_cons (pe_bltn rfl mb boot_bool (rel_ty _)) pa_nil))))))))) (pss_one (ps_ret pe_bl)) pss_nil)
    (pss_one (ps_ret (pe_and (pe_cmpR op_ge (pe_ix ix_tup (pv 0) pe_int (fun _ _ => rfl)) pe_int (nomark _)) (pe_one (pe_cmpR (op_eqD hr.units) (pe_use UL hr rfl pass0 (pa_cons (pe_ix ix_tup (pv 0) pe_int (fun _ _ => rfl)) (pa_cons (pe_ix ix_tup (pv 0) pe_int (fun _ _ => rfl)) pa_nil))) (pv 0) (nomark _))))))), ?_⟩
  obtain ⟨a, rfl, sa, ta⟩ := nx.sq
  refine ⟨_, rfl, .ref a, _, _, _, _, rfl, .ty _, ta, kit_ty kb_l.2.2.2, _, rfl, iteF ?_⟩
  refine ⟨_, rfl, a, _, rfl, .inr sa, rfl, _, rfl, iteNS rfl ?_⟩
  refine ⟨_, rfl, a, _, 0, _, rfl, rfl, sa, rfl, _, _, _, _, _, rfl, .ty _, ty_flat (v := .int r.num) rfl, kit_ty kb_i.1, _, rfl, iteF ?_⟩
  refine ⟨_, rfl, a, _, 1, _, rfl, rfl, sa, rfl, _, _, _, _, _, rfl, .ty _, ty_flat (v := .int (r.den : Nat)) rfl, kit_ty kb_i.1, _, rfl, iteF ?_⟩
  refine ⟨_, rfl, a, _, 0, _, rfl, rfl, sa, rfl, _, _, _, _, _, rfl, .ty _, ty_flat (v := .int r.num) rfl, kit_ty kb_i.2, _, rfl, iteF ?_⟩
  refine ⟨_, rfl, a, _, 1, _, rfl, rfl, sa, rfl, _, _, _, _, _, rfl, .ty _, ty_flat (v := .int (r.den : Nat)) rfl, kit_ty kb_i.2, _, rfl, iteF ?_⟩
  have d1 := Nat.pos_of_ne_zero r.den_nz
  refine ⟨_, rfl, a, _, 1, _, rfl, rfl, sa, rfl, ((r.den : Nat) : Int), 1, rfl, rfl, _, rfl, ?_⟩
  rw [decide_eq_true (show (1 : Int) ≤ ((r.den : Nat) : Int) by omega)]
  refine iteT ⟨_, rfl, a, _, 0, _, rfl, rfl, sa, rfl, _, rfl, a, _, 1, _, rfl, rfl, sa, rfl, r.num, ((r.den : Nat) : Int), rfl, by omega, ?_, fun t H2 s2 n2 e2 => ?_⟩
  · exact PySem.Flt.log2_lt_of (by decide) (by rw [Int.natAbs_natCast]; exact Nat.lt_of_lt_of_le or.2 (Nat.pow_le_pow_right (by decide) (by decide)))
  · have ed : Rat.divInt r.num ((r.den : Nat) : Int) = r := Rat.num_divInt_den r
    rw [ed] at e2
    refine ⟨_, rfl, tupQ r, tupQ r, (Nq.at (K := K) e2).dp, (nx.same s2).dp, rfl, rfl, ?_⟩
    rw [eqv_num, decide_eq_true rfl]
    exact q H2 s2
theorem scFts : FnScope ["_law_u", "_law_p"] ["_law_u"] (defScope L_fits) := ⟨rfl, rfl, rfl, by decide +kernel, rfl, by decide +kernel, by decide +kernel⟩
theorem ok_fits (F : Fun K "_law_fits" "_law_fits" L_fits f fd) (ma : mg "all" = none) (mb : mg "abs" = none) : FnOk P w K mg base CX0 1 f fd ["_law_u"] (spFts K) := by
  refine F.ok scFts (fun vs H Q E h => ?_) (fun cdv A outer s H vs Q E hr h => ?_)
  · obtain ⟨x, us, rfl, _⟩ := h
    rfl
  obtain ⟨x, us, rfl, ⟨a, xs, rfl, ha, nx⟩, hn, q⟩ := h
  refine ⟨_, pss_one (ps_ret (pe_callB (cr_all rfl) rfl ma (by decide +kernel) (pa_cons (pe_lc (own := [("_law_p", 1)]) (g := gName 1) (tt := tYes) rfl scFts.nd (pi_list (pv 0)) (blkOk_by (N := ["_law_u", "_law_p"]) (sc := defScope L_fits) (by decide +kernel)) (fun _ _ _ _ _ => pg_name (i := 1) scFts.nd rfl (Or.inl rfl)) (fun _ _ _ _ _ => pts_nil)
        (fun _ _ _ _ _ => pe_and (pe_cmpR op_lt (pe_callB call_abs rfl mb (by decide +kernel) (pa_cons (pe_ix (ixt_at K rfl) (pv 1) pe_int (fun _ _ => rfl)) pa_nil)) (pe_op op_pow pe_int pe_int) (nomark _)) (pe_one (pe_cmpR op_lt (pe_ix (ixt_at K rfl) (pv 1) pe_int (fun _ _ => rfl)) (pe_op op_pow pe_int pe_int) (nomark _))))) pa_nil))), ?_⟩
  have lx : xs.length = us.length := nx.1
  have e10 : (10 : Int) ^ (60 : Int).toNat = ((10 ^ 60 : Nat) : Int) := by decide
  refine ⟨_, rfl, a, rfl, ⟨_, SqL.of ha⟩, fun D nD => ?_⟩
  refine lc_acc (walk_list (K := K) (a := a) (xs := xs)) (fun i _ y => ∀ r, us[i]? = some r → y = .bl (fitB r)) (fun i H H' y l h _ _ => h) nD (by omega) (fun H2 s => SqL.of (s _ _ ha)) ?_ ?_
  · rintro i x H2 H3 k hi s2 ⟨rfl, hx2⟩ hk
    obtain ⟨b, eb, nb⟩ := nx.get hx2
    obtain ⟨vb, rfl, sb, _⟩ := (nb.same s2).sq
    have fin : fitB b = (decide (((b.num.natAbs : Nat) : Int) < (10 : Int) ^ (60 : Int).toNat) && decide (((b.den : Nat) : Int) < (10 : Int) ^ (60 : Int).toNat)) := by
      unfold fitB
      rw [e10, decide_eq_decide.mpr Int.ofNat_lt.symm, decide_eq_decide.mpr (Int.ofNat_lt (n := b.den) (m := 10 ^ 60)).symm]
    refine ⟨rfl, _, rfl, vb, _, 0, _, rfl, rfl, sb, rfl, _, rfl, 10, 60, rfl, rfl, ⟨by decide, by decide, by decide⟩, _, _, rfl, rfl, _, rfl, ?_⟩
    rw [abs_nat]
    cases c : decide (((b.num.natAbs : Nat) : Int) < (10 : Int) ^ (60 : Int).toNat) with
    | false =>
      rw [c, Bool.false_and] at fin
      exact iteF (hk _ _ (Same.refl _) fun r hr => by rw [eb] at hr; rw [← Option.some.inj hr, fin])
    | true =>
      rw [c, Bool.true_and] at fin
      refine iteT ⟨_, rfl, vb, _, 1, _, rfl, rfl, sb, rfl, 10, 60, rfl, rfl, ⟨by decide, by decide, by decide⟩, _, _, rfl, rfl, ?_⟩
      exact hk _ _ (Same.refl _) fun r hr => by rw [eb] at hr; rw [← Option.some.inj hr, fin]
  · intro H2 zs s2 hD hl hR
    have ez : zs = (us.map fitB).map V.bl := by
      apply List.ext_getElem?
      intro i
      rw [List.map_map, List.getElem?_map]
      by_cases c : i < us.length
      · rw [List.getElem?_eq_getElem c]
        have e := List.getElem?_eq_getElem (l := zs) (i := i) (by omega)
        rw [e, hR i _ e _ (List.getElem?_eq_getElem c)]
        rfl
      · rw [List.getElem?_eq_none (by omega), List.getElem?_eq_none (by omega)]
        rfl
    refine ⟨D, _, rfl, SqL.of (by rw [hD, ez]), ?_⟩
    rw [List.all_map]
    exact q _ s2
theorem scTLe : FnScope ["self"] ["self"] (defScope C_Tally_len) := ⟨rfl, rfl, rfl, by decide +kernel, rfl, by decide +kernel, by decide +kernel⟩
theorem ok_tlen (G : Fun K "__len__" "Tally.__len__" C_Tally_len f fd) (k : TaK P w K mg base TA) (mn : mg "len" = none) : FnOk P w K mg base CX0 1 f fd ["self"] (spTle K TA) := by
  refine G.ok scTLe (fun vs H Q E h => ?_) (fun cdv A outer s H vs Q E hr h => ?_)
  · obtain ⟨x, fl, cs, rfl, _⟩ := h
    rfl
  obtain ⟨v, fl, cs, rfl, ⟨x, dx, b, xs, lg, rfl, hx, hb, nx, _⟩, q⟩ := h
  refine ⟨_, pss_one (ps_ret (pe_callB call_len_seq rfl mn PySem.boot_len (pa_cons (pe_fld (pv 0) rfl) pa_nil))), ?_⟩
  refine ⟨_, rfl, x, TA, dx, _, _, rfl, hx, k.c, k.nA _ (by simp [taN]), rfl, b, xs, rfl, .inl (SqL.of hb), ?_⟩
  rw [nx.1]
  exact q
theorem scOne : FnScope ["_law_count_y"] ["_law_count_y"] (defScope L_one) := ⟨rfl, rfl, rfl, by decide +kernel, rfl, by decide +kernel, by decide +kernel⟩
theorem ok_lone (F : Fun K "_law_one" "_law_one" L_one f fd) : FnOk P w K mg base CX0 1 f fd ["_law_count_y"] (spOne K) := by
  refine F.ok scOne (fun vs H Q E h => ?_) (fun cdv A outer s H vs Q E hr h => ?_)
  · obtain ⟨n, rfl, _⟩ := h
    rfl
  obtain ⟨n, rfl, n1, n100, q⟩ := h
  refine ⟨_, (pss_one (ps_ret (pe_op op_cat (pe_lst (pa_cons (pe_tup (pa_cons pe_int (pa_cons pe_int pa_nil))) pa_nil)) (pe_op op_rep (pe_lst (pa_cons (pe_tup (pa_cons pe_int (pa_cons pe_int pa_nil))) pa_nil)) (pe_op op_sub (pv 0) pe_int))))), ?_⟩
  refine ⟨(by show 2 ≤ sizeLine; decide), fun t nt => ⟨(by show 1 ≤ sizeLine; decide), fun a na => ⟨(by show 2 ≤ sizeLine; decide), fun t2 nt2 => ⟨(by show 1 ≤ sizeLine; decide), fun b nb => ?_⟩⟩⟩⟩
  have s1 := new_same nt (HO.tup [.int 1, .int 1])
  have s2 := new_same na (HO.lst [V.ref t])
  have s3 := new_same nt2 (HO.tup [.int 0, .int 1])
  have s4 := new_same nb (HO.lst [V.ref t2])
  refine ⟨_, rfl, (n : Int), 1, rfl, rfl, b, (n : Int) - 1, [V.ref t2], rfl, rfl, upd_same, by omega, by omega, (by show 1 * _ ≤ sizeLine; exact Nat.le_of_lt (small1000 (by omega))), fun c nc => ?_⟩
  have rep : (List.replicate ((n : Int) - 1).toNat [V.ref t2]).flatten = List.replicate (n - 1) (.ref t2) := by
    rw [List.flatten_replicate_singleton]
    congr 1
    omega
  rw [rep]
  have s5 := new_same nc (HO.lst (List.replicate (n - 1) (V.ref t2)))
  have s345 := s3.trans (s4.trans s5)
  refine ⟨a, c, _, _, rfl, rfl, s345 _ _ upd_same, upd_same, Nat.le_of_lt (small1000 (by rw [List.length_replicate]; show 1 + _ ≤ _; omega)), fun d nd => ?_⟩
  have s6 := new_same nd (HO.lst ([V.ref t] ++ List.replicate (n - 1) (V.ref t2)))
  have sA := s1.trans (s2.trans (s345.trans s6))
  have z1 : Nq K _ (.ref t) 1 := .at (K := K) ((s2.trans (s345.trans s6)) _ _ (show _ = some (rT 1) from upd_same))
  have z0 : Nq K _ (.ref t2) 0 := .at (K := K) ((s4.trans (s5.trans s6)) _ _ (show _ = some (rT 0) from upd_same))
  exact q d _ _ sA ((s1.trans (s2.trans s345)).free nd) upd_same (Nl.cons z1 (reps z0 (n - 1)))
theorem scIty : FnScope nIty nIty (defScope L_is_tally) := ⟨rfl, rfl, rfl, by decide +kernel, rfl, by decide +kernel, by decide +kernel⟩
theorem ok_istally (F : Fun K "_law_is_tally" "_law_is_tally" L_is_tally f fd) (k : TaK P w K mg base TA) (mn : mg "len" = none) (UT : MUse P w K mg base CX0 1 TA "numbers" ["self"] (spTnu K TA) []) (OL : OpM P w K mg base CX0 1 TA "__len__" (spTle K TA)) (US : Use P w K mg base CX0 5 "_law_same" ["_law_found", "_law_due"] (spLike K 3) []) : FnOk P w K mg base CX0 6 f fd nIty (spIty K TA) := by
  refine F.ok scIty (fun vs H Q E h => ?_) (fun cdv A outer s H vs Q E hr h => ?_)
  · obtain ⟨t, x, kk, cs, rfl, _⟩ := h
    rfl
  obtain ⟨t, x, kk, cs, rfl, hT, hx, c30, q⟩ := h
  have hr1 := hr.mono (show 1 ≤ 5 by decide)
  have hr2 := hr.mono (show 2 ≤ 5 by decide)
  refine ⟨_, (C8.pss_cut (ps_if (pt_not (pt_val (pe_use US hr rfl pass0 (pa_cons (pe_lst (pa_cons (pe_mu0 (E := fun _ _ _ => False) UT (pv 0) hr1 pass0) (pa_cons (pe_fld (pv 0) rfl) (pa_cons (pe_fld (pv 0) rfl) pa_nil)))) (pa_cons (pe_lst (pa_cons (pv 1) (pa_cons (pv 2) (pa_cons (pe_op op_add (pv 2) (pe_callB call_len_seq rfl mn PySem.boot_len (pa_cons (pv 1) pa_nil))) pa_nil)))) pa_nil))))) (pss_one (ps_ret pe_bl)) pss_nil)
    (pss_one (ps_ret (pe_use US hr rfl pass0 (pa_cons (pe_lst (pa_cons (pe_fld (pv 0) rfl) (pa_cons (pe_fld (pv 0) rfl) (pa_cons (pe_callB (call_lenO OL hr2 pass0) rfl mn PySem.boot_len (pa_cons (pv 0) pa_nil)) pa_nil)))) (pa_cons (pe_lst (pa_cons (pe_op op_sub (pe_op op_sub (pe_callB call_len_seq rfl mn PySem.boot_len (pa_cons (pv 1) pa_nil)) (pv 2)) pe_int) (pa_cons (pe_ifExp (pt_cmpR op_gt (pe_callB call_len_seq rfl mn PySem.boot_len (pa_cons (pv 1) pa_nil)) (pv 2) (nomark _)) (pe_ix ix_list (pv 1) (pv 2) (fun _ _ => rfl)) pe_non) (pa_cons (pe_callB call_len_seq rfl mn PySem.boot_len (pa_cons (pv 1) pa_nil)) pa_nil)))) pa_nil)))))), ?_⟩
  obtain ⟨xt, dx, bt, xst, lg, rfl, hxt, hbt, nxt, hlg, c1⟩ := id hT
  obtain ⟨xa, xs, rfl, hxa, nx⟩ := id hx
  have lx : xs.length = cs.length := nx.1
  have nA : ∀ n ∈ taN, NoAttr K TA n := k.nA
  refine ⟨fun σ G => Same H G ∧ σ = [some (.ref xt), some (.ref xa), some (.int (kk : Nat))], ?_, ?_⟩
  · refine ⟨_, rfl, xt, dx, _, rfl, hxt, rfl, .ref xt, kk, cs, rfl, hT, fun b H1 ys s1 nb hb mb => ?_⟩
    have h1 := s1 _ _ hxt
    refine ⟨_, rfl, xt, TA, dx, _, _, rfl, h1, k.c, nA _ (by simp [taN]), rfl, _, rfl, xt, TA, dx, _, _, rfl, h1, k.c, nA _ (by simp [taN]), rfl, (by show 3 ≤ sizeLine; decide), fun l1 n1 => ?_⟩
    have s2 := new_same n1 (HO.lst [V.ref b, .int (kk : Nat), .int ((kk : Nat) + (cs.length : Nat) : Int)])
    have s12 := s1.trans s2
    refine ⟨_, rfl, _, rfl, _, rfl, _, rfl, xa, xs, rfl, .inl (SqL.of (s12 _ _ hxa)), (kk : Nat), (xs.length : Nat), rfl, rfl, (by show 3 ≤ sizeLine; decide), fun l2 n2 => ?_⟩
    have s3 := new_same n2 (HO.lst [V.ref xa, .int (kk : Nat), .int ((kk : Nat) + (xs.length : Nat) : Int)])
    have s23 := s2.trans s3
    refine ⟨_, _, rfl, Lk.lst (n := 2) (s3 _ _ upd_same) upd_same (by show 3 ≤ 60; decide) (.cons (Ls.lk (n := 0) (Ls.same ⟨b, ys, rfl, hb, mb⟩ s23) (hx.same (s1.trans s23)) (by omega)) (.cons (Lk.flat rfl) (.cons ?_ .nil))), fun H' s' => ⟨_, rfl, iteF ⟨(s1.trans s23).trans s', rfl⟩⟩⟩
    rw [lx]
    exact Lk.flat rfl
  rintro σ G ⟨s1, rfl⟩
  have h1 := s1 _ _ hxt
  have hx1 := s1 _ _ hxa
  refine ⟨_, rfl, xt, TA, dx, _, _, rfl, h1, k.c, nA _ (by simp [taN]), rfl, _, rfl, xt, TA, dx, _, _, rfl, h1, k.c, nA _ (by simp [taN]), rfl, _, rfl, xt, dx, _, rfl, h1, .ref xt, kk, cs, rfl, hT.same s1, ⟨cs.length, rfl, by omega, (by show 3 ≤ sizeLine; decide), fun l1 n1 => ?_⟩⟩
  have s2 := new_same n1 (HO.lst [V.int (((cs.length : Nat) : Int) - (kk : Nat) - 1), lg, .int (cs.length : Nat)])
  have hx2 := s2 _ _ hx1
  have hl2 : upd G l1 (HO.lst [V.int (((cs.length : Nat) : Int) - (kk : Nat) - 1), lg, .int (cs.length : Nat)]) l1 = some (.lst [V.int (((cs.length : Nat) : Int) - (kk : Nat) - 1), lg, .int (cs.length : Nat)]) := upd_same
  have lg2 := (hlg.same s1).same s2
  have nx2 := (nx.same s1).same s2
  generalize upd G l1 (HO.lst [V.int (((cs.length : Nat) : Int) - (kk : Nat) - 1), lg, .int (cs.length : Nat)]) = G2 at s2 hx2 hl2 lg2 nx2
  have fin : ∀ (v : V), (∀ G3, Same G2 G3 → Lk K 2 G3 lg v) → ∀ l2, G2 l2 = none → spLike K 3 [.ref l1, .ref l2] (upd G2 l2 (.lst [V.int (((xs.length : Nat) : Int) - (kk : Nat) - 1), v, .int (xs.length : Nat)])) Q E := fun v hv l2 n2 => by
    have s3 := new_same n2 (HO.lst [V.int (((xs.length : Nat) : Int) - (kk : Nat) - 1), v, .int (xs.length : Nat)])
    rw [lx] at s3 ⊢
    exact ⟨_, _, rfl, Lk.lst (n := 2) (s3 _ _ hl2) upd_same (by show 3 ≤ 60; decide) (.cons (Lk.flat rfl) (.cons (hv _ s3) (.cons (Lk.flat rfl) .nil))), fun H' s' => q H' (s1.trans (s2.trans (s3.trans s')))⟩
  refine ⟨_, rfl, xa, xs, rfl, .inl (SqL.of hx2), _, rfl, (xs.length : Nat), (kk : Nat), rfl, rfl, ((xs.length : Nat) : Int) - (kk : Nat), 1, rfl, rfl, ?_⟩
  refine ⟨_, rfl, xa, xs, rfl, .inl (SqL.of hx2), _, rfl, (xs.length : Nat), (kk : Nat), rfl, rfl, _, rfl, ?_⟩
  rcases lg2 with ⟨c, e⟩ | ⟨c, n⟩
  · rw [decide_eq_false (show ¬ ((xs.length : Nat) : Int) > (kk : Nat) by omega)]
    refine iteF ⟨_, rfl, xa, xs, rfl, .inl (SqL.of hx2), (by show 3 ≤ sizeLine; decide), fun l2 n2 => ?_⟩
    exact fin .non (fun G3 s3 => by rw [e]; exact Lk.flat rfl) l2 n2
  · rw [decide_eq_true (show ((xs.length : Nat) : Int) > (kk : Nat) by omega)]
    obtain ⟨y, ey, ny⟩ := nx2.get' (i := kk) c
    have sv : cs[kk]'c = ser cs kk := by
      have := ser_at (qs := cs) (k := kk) c
      rw [List.getElem?_eq_getElem c] at this
      exact Option.some.inj this
    rw [sv] at ny
    refine iteT ⟨_, rfl, _, rfl, xa, xs, (kk : Nat), y, rfl, rfl, SqL.of hx2, at_of (j := kk) rfl ey, _, rfl, xa, xs, rfl, .inl (SqL.of hx2), (by show 3 ≤ sizeLine; decide), fun l2 n2 => ?_⟩
    exact fin y (fun G3 s3 => Nq.lk (n := 1) (n.same s3) (ny.same s3)) l2 n2
end
end Kx
end
section
set_option maxHeartbeats 4000000
namespace Kx
open PySem PySem.Spec PyProof.Rows L2 RZ
/-! ### numbers of a tally, steps that are no creeps -/
theorem Ls.dp {K : PySem.W.Frag} {H : Hp} {v : V} {qs : List Rat} (h : Ls K H v qs) : Dp K H v (datL qs) := by
  obtain ⟨a, xs, rfl, ha, nx⟩ := h
  exact nx.dp ha
def spNms (K : PySem.W.Frag) : Sp := fun vs H Q _ => ∃ (n : Nat) (B p : Addr) (kk deg : Nat), vs = [.ref B, .int (kk : Nat), .int (deg : Nat)] ∧ Bag (n + 40) H B p ∧ kk < deg ∧ deg ≤ 11 ∧ ∀ H' v cs d, Bag n H' B p → But B H H' → v ≠ .ref B → Ls K H' v cs → cs.length = deg - kk → 0 < d → d ≤ 99 → (∀ r ∈ cs, TlQ d r) → Q v H'
def spNoc (K : PySem.W.Frag) : Sp := fun vs H Q _ => ∃ (n : Nat) (B p : Addr) (deg : Nat), vs = [.ref B, .int (deg : Nat)] ∧ Bag (n + 43) H B p ∧ 2 ≤ deg ∧ deg ≤ 11 ∧ ∀ H' v qs, Bag n H' B p → But B H H' → Ls K H' v (0 :: qs) → qs.length = deg → (∀ r ∈ qs, FitQ r) → (qs = stL deg ∨ serS qs 1 ≠ 1) → Q v H'
/-- what is due of a step that is no creep -/
def CeV (K : PySem.W.Frag) (H : Hp) (v : V) (qs : List Rat) : Prop := (serS qs 1 ≠ 1 ∧ ∃ t y, v = .ref t ∧ H t = some (.tup [.str "NotSlow", y]) ∧ Nq K H y (serS qs 1)) ∨ (qs = stL qs.length ∧ ∃ t, v = .ref t ∧ H t = some (.tup [.str "IsStill", .int (qs.length : Nat)])) ∨ (serS qs 1 = 1 ∧ qs ≠ stL qs.length ∧ v = .non)
theorem CeV.same {K : PySem.W.Frag} {H H' : Hp} {v : V} {qs : List Rat} (h : CeV K H v qs) (s : Same H H') : CeV K H' v qs := by
  rcases h with ⟨a, t, y, e, ht, n⟩ | ⟨a, t, e, ht⟩ | h
  · exact .inl ⟨a, t, y, e, s _ _ ht, n.same s⟩
  · exact .inr (.inl ⟨a, t, e, s _ _ ht⟩)
  · exact .inr (.inr h)
def spCer (K : PySem.W.Frag) : Sp := fun vs H Q _ => ∃ (x : V) (qs : List Rat), vs = [x] ∧ Ls K H x (0 :: qs) ∧ 2 ≤ qs.length ∧ qs.length ≤ 24 ∧ ∀ H' v, Same H H' → CeV K H' v qs → Q v H'
abbrev nNms : List Str := ["_law_bag_here", "_law_kk", "_law_deg", "_law_found", "_law_i"]
section
variable {P : Program} {w : World} {K : PySem.W.Frag} {mg : Str → Option Value} {base : Heap} {f o0 : Addr} {fd : FuncData}
theorem scNsl : FnScope ["_law_bag_here", "_law_deg", "_law_cc"] ["_law_bag_here", "_law_deg"] (defScope L_not_slow) := ⟨rfl, rfl, rfl, by decide +kernel, rfl, by decide +kernel, by decide +kernel⟩
theorem ok_nsl (F : Fun K "_law_not_slow" "_law_not_slow" L_not_slow f fd) (UD : Use P w K mg base CX0 1 "_law_draw" ["_law_bag_here", "_law_many_y"] spDraw []) (UO : Use P w K mg base CX0 2 "_law_of" ["_law_bag_here", "_law_things"] spOfL []) (UZ : Use P w K mg base CX0 1 "_law_zeros" ["_law_many_y"] (spZeros K) []) (US : Use P w K mg base CX0 3 "_law_step" ["_law_bag_here", "_law_deg", "_law_cc"] (spStp K) []) : FnOk P w K mg base CX0 4 f fd ["_law_bag_here", "_law_deg"] (spNsl K) := by
  refine F.ok scNsl (fun vs H Q E h => ?_) (fun cdv A outer s H vs Q E hr h => ?_)
  · obtain ⟨n, B, p, deg, rfl, _⟩ := h
    rfl
  obtain ⟨n, B, p, deg, rfl, hb, d2, d11, q⟩ := h
  have hr1 := hr.mono (show 1 ≤ 3 by decide)
  have hr2 := hr.mono (show 2 ≤ 3 by decide)
  refine ⟨_, C8.pss_cut (ps_set (i := 2) scNsl.nd rfl (Or.inl rfl) (pe_use UO hr2 rfl pass0 (pa_cons (pv 0) (pa_cons (pe_lst (pa_cons (pe_tup (pa_cons pe_int (pa_cons pe_int pa_nil))) (pa_cons (pe_tup (pa_cons pe_int (pa_cons pe_int pa_nil))) (pa_cons (pe_tup (pa_cons (pe_un un_neg pe_int) (pa_cons pe_int pa_nil))) (pa_cons (pe_tup (pa_cons pe_int (pa_cons pe_int pa_nil))) (pa_cons (pe_tup (pa_cons pe_int (pa_cons pe_int pa_nil))) (pa_cons (pe_tup (pa_cons (pe_un un_neg pe_int) (pa_cons pe_int pa_nil))) (pa_cons (pe_tup (pa_cons pe_int (pa_cons pe_int pa_nil))) (pa_cons (pe_tup (pa_cons (pe_op op_pow pe_int pe_int) (pa_cons pe_int pa_nil))) pa_nil))))))))) pa_nil))))
    (pss_one (ps_ret (pe_ifExp (pt_cmpR op_eq (pe_use UD hr1 rfl pass0 (pa_cons (pv 0) (pa_cons pe_int pa_nil))) pe_int (nomark _)) (pe_use UZ hr1 rfl pass0 (pa_cons (pe_op op_add (pv 1) pe_int) pa_nil)) (pe_use US hr rfl pass0 (pa_cons (pv 0) (pa_cons (pv 1) (pa_cons (pv 2) pa_nil))))))), ?_⟩
  refine ⟨fun σ H2 => ∃ x c, σ = [some (.ref B), some (.int (deg : Nat)), some x] ∧ Bag (n + 41) H2 B p ∧ But B H H2 ∧ Nq K H2 x c ∧ FitQ c ∧ c ≠ 1, ?_, ?_⟩
  · refine ⟨_, rfl, ⟨(by show 2 ≤ sizeLine; decide), fun t1 m1 => ⟨(by show 2 ≤ sizeLine; decide), fun t2 m2 => ⟨_, rfl, (by show 2 ≤ sizeLine; decide), fun t3 m3 => ⟨(by show 2 ≤ sizeLine; decide), fun t4 m4 => ⟨(by show 2 ≤ sizeLine; decide), fun t5 m5 => ⟨_, rfl, (by show 2 ≤ sizeLine; decide), fun t6 m6 => ⟨(by show 2 ≤ sizeLine; decide), fun t7 m7 => ⟨_, _, rfl, rfl, ⟨by decide, by decide, by decide⟩, (by show 2 ≤ sizeLine; decide), fun t8 m8 => ⟨(by show 8 ≤ sizeLine; decide), fun l nl => ?_⟩⟩⟩⟩⟩⟩⟩⟩⟩⟩
    have e1 := new_same m1 (HO.tup [.int 0, .int 1])
    have e2 := new_same m2 (HO.tup [.int 0, .int 1])
    have e3 := new_same m3 (HO.tup [.int (-1), .int 1])
    have e4 := new_same m4 (HO.tup [.int 2, .int 1])
    have e5 := new_same m5 (HO.tup [.int 1, .int 2])
    have e6 := new_same m6 (HO.tup [.int (-2), .int 1])
    have e7 := new_same m7 (HO.tup [.int 11, .int 10])
    have e8 := new_same m8 (HO.tup [.int ((10 : Int) ^ ((30 : Int)).toNat), .int 1])
    have el := new_same nl (HO.lst [V.ref t1, V.ref t2, V.ref t3, V.ref t4, V.ref t5, V.ref t6, V.ref t7, V.ref t8])
    have r8 := el
    have r7 := e8.trans r8
    have r6 := e7.trans r7
    have r5 := e6.trans r6
    have r4 := e5.trans r5
    have r3 := e4.trans r4
    have r2 := e3.trans r3
    have r1 := e2.trans r2
    have sA := e1.trans r1
    have sT := e1.trans (e2.trans (e3.trans (e4.trans (e5.trans (e6.trans (e7.trans (e8)))))))
    have bb := hb.same sT
    refine ⟨n + 41, B, p, l, _, rfl, upd_same, (bb.at nl).1, (by show 0 < 8; decide), (by show 8 ≤ 1000; decide), hb.same sA, fun H2 x b2 u2 hx => ?_⟩
    have uu : But B H H2 := (But.same sA).trans u2
    simp only [List.mem_cons, List.not_mem_nil, or_false] at hx
    rcases hx with rfl | rfl | rfl | rfl | rfl | rfl | rfl | rfl
    · exact ⟨_, 0, rfl, b2, uu, (Nq.at (K := K) (r1 _ _ (show _ = some (rT 0) from upd_same))).go (hb.same sA) (Go.of u2), ⟨by decide +kernel, by decide +kernel⟩, by decide +kernel⟩
    · exact ⟨_, 0, rfl, b2, uu, (Nq.at (K := K) (r2 _ _ (show _ = some (rT 0) from upd_same))).go (hb.same sA) (Go.of u2), ⟨by decide +kernel, by decide +kernel⟩, by decide +kernel⟩
    · exact ⟨_, (-1), rfl, b2, uu, (Nq.at (K := K) (r3 _ _ (show _ = some (rT (-1)) from upd_same))).go (hb.same sA) (Go.of u2), ⟨by decide +kernel, by decide +kernel⟩, by decide +kernel⟩
    · exact ⟨_, 2, rfl, b2, uu, (Nq.at (K := K) (r4 _ _ (show _ = some (rT 2) from upd_same))).go (hb.same sA) (Go.of u2), ⟨by decide +kernel, by decide +kernel⟩, by decide +kernel⟩
    · exact ⟨_, (mkRat (1) 2), rfl, b2, uu, (Nq.at (K := K) (r5 _ _ (show _ = some (rT (mkRat (1) 2)) from upd_same))).go (hb.same sA) (Go.of u2), ⟨by decide +kernel, by decide +kernel⟩, by decide +kernel⟩
    · exact ⟨_, (-2), rfl, b2, uu, (Nq.at (K := K) (r6 _ _ (show _ = some (rT (-2)) from upd_same))).go (hb.same sA) (Go.of u2), ⟨by decide +kernel, by decide +kernel⟩, by decide +kernel⟩
    · exact ⟨_, (mkRat (11) 10), rfl, b2, uu, (Nq.at (K := K) (r7 _ _ (show _ = some (rT (mkRat (11) 10)) from upd_same))).go (hb.same sA) (Go.of u2), ⟨by decide +kernel, by decide +kernel⟩, by decide +kernel⟩
    · exact ⟨_, ((1000000000000000000000000000000 : Int) : Rat), rfl, b2, uu, (Nq.at (K := K) (r8 _ _ (show _ = some (rT ((1000000000000000000000000000000 : Int) : Rat)) from upd_same))).go (hb.same sA) (Go.of u2), ⟨by decide +kernel, by decide +kernel⟩, by decide +kernel⟩
  rintro σ H2 ⟨x, c, rfl, b2, u2, nc, fc, c1⟩
  refine ⟨_, rfl, n + 40, B, p, 12, rfl, by decide, by decide, b2, fun H3 k b3 u3 k0 k1 => ⟨rfl, _, rfl, ite2 (fun _ => ?_) (fun _ => ?_)⟩⟩
  · refine ⟨_, rfl, _, _, rfl, rfl, deg + 1, rfl, by omega, fun b H4 ys s4 nb hb4 mb4 => ?_⟩
    refine q H4 _ (List.replicate deg 0) ((b3.same s4).less (by omega)) (u2.trans (u3.trans (But.same s4))) ⟨b, ys, rfl, hb4, mb4⟩ (by rw [List.length_replicate]) (fun r hr => by rw [List.eq_of_mem_replicate hr]; exact (int_num (i := 0) (by decide)).fit) ?_
    obtain ⟨d', rfl⟩ : ∃ d', deg = d' + 1 := ⟨deg - 1, by omega⟩
    show (0 : Rat) ≠ 1
    decide
  · refine ⟨_, rfl, _, rfl, _, rfl, n, B, p, deg, x, c, rfl, b3, d2, d11, nc.go b2 (Go.of u3), fun H4 v rs b4 u4 lv lr br => ?_⟩
    refine q H4 v (c :: rs) b4 (u2.trans (u3.trans u4)) lv (by rw [List.length_cons]; exact lr) (fun r hr => ?_) c1
    rcases List.mem_cons.mp hr with rfl | hr
    · exact fc
    · exact (br r hr).fit
theorem scNms : FnScope nNms ["_law_bag_here", "_law_kk", "_law_deg"] (defScope L_nums) := ⟨rfl, rfl, rfl, by decide +kernel, rfl, by decide +kernel, by decide +kernel⟩
theorem ok_lnums (F : Fun K "_law_nums" "_law_nums" L_nums f fd) (mn : mg "len" = none) (mr : mg "range" = none) (UD : Use P w K mg base CX0 1 "_law_draw" ["_law_bag_here", "_law_many_y"] spDraw []) (UN : Use P w K mg base CX0 2 "_law_num" ["_law_bag_here"] (spNum K 3 NumQ) []) (UW : Use P w K mg base CX0 2 "_law_wide" ["_law_bag_here"] (spNum K 2 WideP) []) : FnOk P w K mg base CX0 3 f fd ["_law_bag_here", "_law_kk", "_law_deg"] (spNms K) := by
  refine F.ok scNms (fun vs H Q E h => ?_) (fun cdv A outer s H vs Q E hr h => ?_)
  · obtain ⟨n, B, p, kk, deg, rfl, _⟩ := h
    rfl
  obtain ⟨n, B, p, kk, deg, rfl, hb, kd, d11, q⟩ := h
  have hr1 := hr.mono (show 1 ≤ 2 by decide)
  have hr2 := hr
  refine ⟨_, (C8.pss_cut (ps_setLc (i := 3) (own := [("_law_i", 4)]) (g := gName 4) (tt := tYes) rfl scNms.nd rfl rfl (sw_true rfl rfl rfl (by decide +kernel)) (pi_range1 rfl mr (pa_cons (pe_op op_sub (pv 2) (pv 1)) pa_nil)) (blkOk_by (N := nNms) (sc := defScope L_nums) (by decide +kernel)) (fun _ _ _ _ _ => pg_name (i := 4) scNms.nd rfl (Or.inl rfl)) (fun _ _ _ _ _ => pts_nil) (fun _ _ _ _ _ => (pe_use UN hr2 rfl pass0 (pa_cons (pv 0) pa_nil))))
    (pss_cons (ps_if (pt_cmpR op_eq (pe_use UD hr1 rfl pass0 (pa_cons (pv 0) (pa_cons pe_int pa_nil))) pe_int (nomark _)) (pss_one (ps_asg (pe_use UW hr2 rfl pass0 (pa_cons (pv 0) pa_nil)) (pg_sub (pv 3) (pe_use UD hr1 rfl pass0 (pa_cons (pv 0) (pa_cons (pe_callB call_len_seq rfl mn PySem.boot_len (pa_cons (pv 3) pa_nil)) pa_nil))) set_list))) pss_nil) (pss_one (ps_ret (pv 3))))), ?_⟩
  refine ⟨fun σ H1 => ∃ (e : Addr) (xs : List V) (qs : List Rat), σ = [some (.ref B), some (.int (kk : Nat)), some (.int (deg : Nat)), some (.ref e), none] ∧ Bag (n + 4) H1 B p ∧ But B H H1 ∧ e ≠ B ∧ e ≠ p ∧ H e = none ∧ H1 e = some (.lst xs) ∧ Nl K H1 xs qs ∧ qs.length = deg - kk ∧ (∀ r ∈ qs, NumQ r), ?_, ?_⟩
  · refine ⟨_, rfl, _, rfl, (deg : Nat), (kk : Nat), rfl, rfl, _, rfl, by omega, by omega, fun D nD => ?_⟩
    have DB := hb.at nD
    refine lc_range (lo := 0) (n := (((deg : Nat) : Int) - (kk : Nat)).toNat) (fun i H' => Bag (n + 40 - 3 * i) H' B p ∧ But B H H' ∧ ∃ ys rs, H' D = some (.lst ys) ∧ Nl K H' ys rs ∧ rs.length = i ∧ ∀ r ∈ rs, NumQ r) ⟨hb.put nD, But.new nD, [], [], upd_same, Nl.nil, rfl, fun _ h => nomatch h⟩ ?_ ?_
    · rintro i H' hi ⟨b', u', ys, rs, hD, ny, rl, br⟩
      have yl : ys.length = i := by rw [ny.1, rl]
      refine ⟨rfl, yesT ⟨_, rfl, n + 37 - 3 * i, B, p, rfl, b'.less (show n + 37 - 3 * i + 3 ≤ n + 40 - 3 * i by omega), fun H5 y r b5 u5 nr brr => ?_⟩⟩
      have hD5 := u5 _ _ DB.1 hD
      refine ⟨ys, hD5, small1000 (by omega), ?_, ?_, ys ++ [y], rs ++ [r], upd_same, Nl.snocD (ny.go b' (Go.of u5)) hD5 nr, by rw [List.length_append, rl]; rfl, ?_⟩
      · exact (b5.less (show n + 40 - 3 * (i + 1) ≤ n + 37 - 3 * i by omega)).upd DB.1 DB.2
      · intro b o hb he
        rw [upd_ne (fun z => by rw [z, nD] at he; cases he)]
        exact u5 _ _ hb (u' _ _ hb he)
      · intro t ht
        rcases List.mem_append.mp ht with ht | ht
        · exact br t ht
        · rw [List.mem_singleton.mp ht]; exact brr
    · rintro H4 ⟨b4, u4, ys, rs, hD, ny', rl, br'⟩
      exact ⟨D, ys, rs, rfl, b4.less (by omega), u4, DB.1, DB.2, nD, hD, ny', by omega, br'⟩
  rintro σ H1 ⟨e, xs, qs, rfl, b1, u1, eB, ep, eN, he, nx, lq, bq⟩
  have lx : xs.length = qs.length := nx.1
  have eBr : V.ref e ≠ .ref B := fun z => eB (V.ref.inj z)
  refine ⟨_, rfl, n + 3, B, p, 16, rfl, by decide, by decide, b1, fun H2 k b2 u2 k0 k1' => ⟨rfl, _, rfl, ite2 (fun _ => ?_) (fun _ => ?_)⟩⟩
  · refine ⟨_, rfl, n + 1, B, p, rfl, b2, fun H3 y r b3 u3 ny br => ?_⟩
    have u23 := u2.trans u3
    have he3 := u23 _ _ eB he
    refine ⟨_, rfl, _, rfl, _, rfl, e, xs, rfl, .inl (SqL.of he3), n, B, p, (xs.length : Nat), rfl, by omega, by omega, b3, fun H4 d b4 u4 d0 d1 => ?_⟩
    have u24 := u23.trans u4
    have he4 := u24 _ _ eB he
    refine ⟨e, xs, d, d.toNat, rfl, rfl, he4, ?_, ?_⟩
    · rw [show d = ((d.toNat : Nat) : Int) by omega]
      exact ixN_of (by omega)
    have nx4 := (nx.go b1 (Go.of u24)).setD (i := d.toNat) he4 (ny.go b3 (Go.of u4))
    have r0 : 0 < r.den := Nat.pos_of_ne_zero r.den_nz
    have tl : ∀ z ∈ qs.set d.toNat r, TlQ r.den z := fun z hz => by
      rcases List.mem_or_eq_of_mem_set hz with hz | rfl
      · exact (bq z hz).tl _
      · exact ⟨Nat.dvd_mul_left _ _, br.1.2⟩
    refine ⟨_, rfl, q _ _ (qs.set d.toNat r) r.den (b4.upd eB ep) (fun b o hb ho => ?_) eBr ⟨e, _, rfl, upd_same, nx4⟩ (by rw [List.length_set]; exact lq) r0 br.1.1 tl⟩
    rw [upd_ne (fun z => by rw [z, eN] at ho; cases ho)]
    exact u24 _ _ hb (u1 _ _ hb ho)
  · exact ⟨_, rfl, q _ _ qs 1 (b2.less (by omega)) (u1.trans u2) eBr ⟨e, xs, rfl, u2 _ _ eB he, nx.go b1 (Go.of u2)⟩ lq (by decide) (by decide) (fun r hr => (bq r hr).tl 1)⟩
theorem scNoc : FnScope ["_law_bag_here", "_law_deg"] ["_law_bag_here", "_law_deg"] (defScope L_no_creep) := ⟨rfl, rfl, rfl, by decide +kernel, rfl, by decide +kernel, by decide +kernel⟩
theorem ok_nocreep (F : Fun K "_law_no_creep" "_law_no_creep" L_no_creep f fd) (UD : Use P w K mg base CX0 1 "_law_draw" ["_law_bag_here", "_law_many_y"] spDraw []) (UX : Use P w K mg base CX0 1 "_law_x" ["_law_deg"] (spX K) []) (US : Use P w K mg base CX0 4 "_law_not_slow" ["_law_bag_here", "_law_deg"] (spNsl K) []) : FnOk P w K mg base CX0 5 f fd ["_law_bag_here", "_law_deg"] (spNoc K) := by
  refine F.ok scNoc (fun vs H Q E h => ?_) (fun cdv A outer s H vs Q E hr h => ?_)
  · obtain ⟨n, B, p, deg, rfl, _⟩ := h
    rfl
  obtain ⟨n, B, p, deg, rfl, hb, d2, d11, q⟩ := h
  have hr1 := hr.mono (show 1 ≤ 4 by decide)
  refine ⟨_, (pss_one (ps_ret (pe_ifExp (pt_cmpR op_eq (pe_use UD hr1 rfl pass0 (pa_cons (pv 0) (pa_cons pe_int pa_nil))) pe_int (nomark _)) (pe_use UX hr1 rfl pass0 (pa_cons (pv 1) pa_nil)) (pe_use US hr rfl pass0 (pa_cons (pv 0) (pa_cons (pv 1) pa_nil)))))), ?_⟩
  refine ⟨_, rfl, n + 42, B, p, 3, rfl, by decide, by decide, hb, fun H1 k b1 u1 k0 k1 => ⟨rfl, _, rfl, ite2 (fun _ => ?_) (fun _ => ?_)⟩⟩
  · refine ⟨_, rfl, deg, rfl, by omega, by omega, fun b H2 ys s2 nb hb2 mb2 => ?_⟩
    refine q H2 _ (stL deg) ((b1.same s2).less (by omega)) (u1.trans (But.same s2)) ⟨b, ys, rfl, hb2, mb2⟩ (stL_len (by omega)) (fun r hr => ?_) (.inl rfl)
    unfold stL at hr
    rcases List.mem_cons.mp hr with rfl | hr
    · exact ⟨Nat.lt_of_lt_of_le (show (1 : Rat).num.natAbs < 2 ^ 1 by decide) (Nat.pow_le_pow_right (by decide) (by decide)), Nat.lt_of_lt_of_le (show (1 : Rat).den < 2 ^ 1 by decide) (Nat.pow_le_pow_right (by decide) (by decide))⟩
    · rw [List.eq_of_mem_replicate hr]
      exact ⟨Nat.lt_of_lt_of_le (show (0 : Rat).num.natAbs < 2 ^ 1 by decide) (Nat.pow_le_pow_right (by decide) (by decide)), Nat.lt_of_lt_of_le (show (0 : Rat).den < 2 ^ 1 by decide) (Nat.pow_le_pow_right (by decide) (by decide))⟩
  · exact ⟨_, rfl, _, rfl, n, B, p, deg, rfl, b1, d2, d11, fun H2 v qs b2 u2 lv lq fq ne => q H2 v qs b2 (u1.trans u2) lv lq fq (.inr ne)⟩
theorem scCer : FnScope ["_law_f"] ["_law_f"] (defScope L_creep_error) := ⟨rfl, rfl, rfl, by decide +kernel, rfl, by decide +kernel, by decide +kernel⟩
theorem ok_creeperr (F : Fun K "_law_creep_error" "_law_creep_error" L_creep_error f fd) (mn : mg "len" = none) (UX : Use P w K mg base CX0 1 "_law_x" ["_law_deg"] (spX K) []) : FnOk P w K mg base CX0 2 f fd ["_law_f"] (spCer K) := by
  refine F.ok scCer (fun vs H Q E h => ?_) (fun cdv A outer s H vs Q E hr h => ?_)
  · obtain ⟨x, qs, rfl, _⟩ := h
    rfl
  obtain ⟨x, qs, rfl, hx, l2, l24, q⟩ := h
  refine ⟨_, (pss_cons (ps_if (pt_cmpR (op_neD hr.units) (pe_ix ix_list (pv 0) pe_int (fun _ _ => rfl)) (pe_tup (pa_cons pe_int (pa_cons pe_int pa_nil))) (nomark _)) (pss_one (ps_ret (pe_tup (pa_cons pe_str (pa_cons (pe_ix ix_list (pv 0) pe_int (fun _ _ => rfl)) pa_nil))))) pss_nil) (pss_one (ps_ret (pe_ifExp (pt_cmpR (op_eqD hr.units) (pv 0) (pe_use UX hr rfl pass0 (pa_cons (pe_op op_sub (pe_callB call_len_seq rfl mn PySem.boot_len (pa_cons (pv 0) pa_nil)) pe_int) pa_nil)) (nomark _)) (pe_tup (pa_cons pe_str (pa_cons (pe_op op_sub (pe_callB call_len_seq rfl mn PySem.boot_len (pa_cons (pv 0) pa_nil)) pe_int) pa_nil))) pe_non)))), ?_⟩
  obtain ⟨a, ys, rfl, ha, ny⟩ := id hx
  have ly : ys.length = qs.length + 1 := ny.1
  obtain ⟨y1, e1, n1⟩ := ny.get' (i := 1) (by rw [List.length_cons]; omega)
  have ev : (0 :: qs)[1]'(by rw [List.length_cons]; omega) = serS qs 1 := by
    show qs[0]'(by omega) = qs.getD 0 0
    rw [List.getD_eq_getElem?_getD, List.getElem?_eq_getElem (by omega)]
    rfl
  rw [ev] at n1
  refine ⟨_, rfl, a, ys, 1, y1, rfl, rfl, SqL.of ha, at_of (j := 1) rfl e1, (by show 2 ≤ sizeLine; decide), fun t nt => ?_⟩
  have s1 := new_same nt (HO.tup [.int 1, .int 1])
  have t1 : Nq K (upd H t (HO.tup [.int 1, .int 1])) (.ref t) 1 := .at (K := K) upd_same
  generalize upd H t (HO.tup [.int 1, .int 1]) = H1 at s1 t1
  refine ⟨tupQ (serS qs 1), tupQ 1, (n1.same s1).dp, t1.dp, rfl, rfl, _, rfl, ?_⟩
  rw [eqv_num]
  by_cases c : serS qs 1 = 1
  · rw [decide_eq_true c]
    refine iteF ⟨_, rfl, _, rfl, a, ys, rfl, .inl (SqL.of (s1 _ _ ha)), (ys.length : Nat), 1, rfl, rfl, qs.length, (by show [V.int ((ys.length : Int) - 1)] = [V.int ((qs.length : Nat) : Int)]; congr 2; omega), by omega, by omega, fun b H2 zs s2 nb hb mb => ?_⟩
    have s12 := s1.trans s2
    have lb : Ls K H2 (.ref b) (xL qs.length) := ⟨b, zs, rfl, hb, mb⟩
    refine ⟨datL (0 :: qs), datL (xL qs.length), (hx.same s12).dp, lb.dp, shaped_list _, shaped_list _, _, rfl, ?_⟩
    rw [eqv_list]
    have xe : (0 :: qs = xL qs.length) ↔ qs = stL qs.length := ⟨fun z => (List.cons.inj z).2, fun z => by show 0 :: qs = 0 :: stL qs.length; rw [← z]⟩
    by_cases d : qs = stL qs.length
    · rw [decide_eq_true (xe.mpr d)]
      refine iteT ⟨_, rfl, a, ys, rfl, .inl (SqL.of (s12 _ _ ha)), (ys.length : Nat), 1, rfl, rfl, (by show 2 ≤ sizeLine; decide), fun t2 n2 => ?_⟩
      refine q _ _ (s12.trans (new_same n2 _)) (.inr (.inl ⟨d, t2, rfl, ?_⟩))
      rw [upd_same]
      show some (HO.tup [V.str "IsStill", V.int (((ys.length : Nat) : Int) - 1)]) = _
      rw [show ((ys.length : Nat) : Int) - 1 = ((qs.length : Nat) : Int) by omega]
    · rw [decide_eq_false (fun z => d (xe.mp z))]
      exact iteF (q _ _ s12 (.inr (.inr ⟨c, d, rfl⟩)))
  · rw [decide_eq_false c]
    refine iteT ⟨_, rfl, a, ys, 1, y1, rfl, rfl, SqL.of (s1 _ _ ha), at_of (j := 1) rfl e1, (by show 2 ≤ sizeLine; decide), fun t2 n2 => ?_⟩
    have s2 := s1.trans (new_same n2 (HO.tup [.str "NotSlow", y1]))
    exact q _ _ s2 (.inl ⟨c, t2, y1, rfl, upd_same, n1.same s2⟩)
end
end Kx
end
section
set_option maxHeartbeats 4000000
namespace Kx
open PySem PySem.Spec PyProof.Rows L2 RZ
/-! ### what a deed gives, or its error -/
structure Errs4 (P : Program) (w : World) (K : PySem.W.Frag) (mg : Str → Option Value) (base : Heap) (cs : Fin 4 → Addr) : Prop where
  e0 : ErrC P w K mg base "UnlikeOrders" 2 (fs2 "UnlikeOrders" "one" "other") (cs 0)
  e1 : ErrC P w K mg base "NotSlow" 1 (fs1 "NotSlow" "first") (cs 1)
  e2 : ErrC P w K mg base "IsStill" 1 (fs1 "IsStill" "have") (cs 2)
  e3 : ErrC P w K mg base "UnlikeFlats" 2 (fs2 "UnlikeFlats" "one" "other") (cs 3)
  co : ∀ i, PySem.W.findIn K (.ref (cs i)) "code" = some none
  f00 : PySem.W.findIn K (.ref (cs 0)) "one" = some none
  f01 : PySem.W.findIn K (.ref (cs 0)) "other" = some none
  f10 : PySem.W.findIn K (.ref (cs 1)) "first" = some none
  f20 : PySem.W.findIn K (.ref (cs 2)) "have" = some none
  f30 : PySem.W.findIn K (.ref (cs 3)) "one" = some none
  f31 : PySem.W.findIn K (.ref (cs 3)) "other" = some none
  ex : ∀ i j : Fin 4, PySem.W.exmOne K (.ref (cs i)) (.ref (cs j)) = some (decide (i = j))
/-- which of the errors is caught, and what comes back -/
def Flt4 (H : Hp) (cs : Fin 4 → Addr) (cls : Value) (d : Option Addr) (Q : VK) : Prop :=
  (cls = .ref (cs 0) ∧ ∃ (dd : Addr) (v u : V), d = some dd ∧ H dd = some (.xd (fs2 "UnlikeOrders" "one" "other" [v, u])) ∧ ∀ t H', Same H H' → H t = none → H' t = some (.tup [.str "UnlikeOrders", v, u]) → Q (.ref t) H') ∨
  (cls = .ref (cs 1) ∧ ∃ (dd : Addr) (v : V), d = some dd ∧ H dd = some (.xd (fs1 "NotSlow" "first" [v])) ∧ ∀ t H', Same H H' → H t = none → H' t = some (.tup [.str "NotSlow", v]) → Q (.ref t) H') ∨
  (cls = .ref (cs 2) ∧ ∃ (dd : Addr) (v : V), d = some dd ∧ H dd = some (.xd (fs1 "IsStill" "have" [v])) ∧ ∀ t H', Same H H' → H t = none → H' t = some (.tup [.str "IsStill", v]) → Q (.ref t) H') ∨
  (cls = .ref (cs 3) ∧ ∃ (dd : Addr) (v u : V), d = some dd ∧ H dd = some (.xd (fs2 "UnlikeFlats" "one" "other" [v, u])) ∧ ∀ t H', Same H H' → H t = none → H' t = some (.tup [.str "UnlikeFlats", v, u]) → Q (.ref t) H')
theorem takes_len {X : Cx} {W : WX} (tk : Takes X W) : Takes X (fun cls d σ H => σ.length = X.N.length → W cls d σ H) := fun u s' ⟨a, B, sI, pins, σ, H, cls, d, e, I, nb, up, sky, na, os, ag, w⟩ =>
  tk u s' ⟨a, B, sI, pins, σ, H, cls, d, e, I, nb, up, sky, na, os, ag, w I.len⟩
abbrev nTry : List Str := ["_law_ask", "_law_e"]
/-- what try makes of the lambda's reading -/
def TTry (cs : Fin 4 → Addr) : (XK → Hp → VK → Prop) → Hp → VK → Prop := fun tl H Q =>
  tl (fun cls d H' => Flt4 H' cs cls d Q) H (fun v H1 => 2 ≤ sizeLine ∧ ∀ t, H1 t = none → Q (.ref t) (upd H1 t (.tup [.str "", v])))
def tryT0 (cs : Fin 4 → Addr) : Addr → Value → Option Addr → TS := fun a cls d => tRet (tTup (tCons (tXf a cls d (cs 0) "code" (tVar 1)) (tCons (tXf a cls d (cs 0) "one" (tVar 1)) (tCons (tXf a cls d (cs 0) "other" (tVar 1)) tNil))))
def tryT1 (cs : Fin 4 → Addr) : Addr → Value → Option Addr → TS := fun a cls d => tRet (tTup (tCons (tXf a cls d (cs 1) "code" (tVar 1)) (tCons (tXf a cls d (cs 1) "first" (tVar 1)) tNil)))
def tryT2 (cs : Fin 4 → Addr) : Addr → Value → Option Addr → TS := fun a cls d => tRet (tTup (tCons (tXf a cls d (cs 2) "code" (tVar 1)) (tCons (tXf a cls d (cs 2) "have" (tVar 1)) tNil)))
def tryT3 (cs : Fin 4 → Addr) : Addr → Value → Option Addr → TS := fun a cls d => tRet (tTup (tCons (tXf a cls d (cs 3) "code" (tVar 1)) (tCons (tXf a cls d (cs 3) "one" (tVar 1)) (tCons (tXf a cls d (cs 3) "other" (tVar 1)) tNil))))
def tryL (cs : Fin 4 → Addr) : List Hd3 := [(.ref (cs 0), 1, tryT0 cs), (.ref (cs 1), 1, tryT1 cs), (.ref (cs 2), 1, tryT2 cs), (.ref (cs 3), 1, tryT3 cs)]
section
variable {X : Cx} {q : Str} {g : Addr} {cs : Fin 4 → Addr} {cdg : Value}
theorem scTry : FnScope nTry ["_law_ask"] (defScope L_try) := ⟨rfl, rfl, rfl, by decide +kernel, rfl, by decide +kernel, by decide +kernel⟩
theorem try_gives (Z : Errs4 X.prog X.w X.K X.mg X.base cs) : LamX.GivesTo X nTry "_law_try" (defScope L_try) g cdg (defBody L_try) "_law_ask" q (TTry cs) := by
  intro f c' s H Q tl act hc h
  let XX := (cxOf C8.CX0 X.prog X.w X.K X.mg X.base nTry "_law_try" (defScope L_try) g cdg X.A X.stack s H C8.E0).nox
  refine ⟨_, pss_one (ps_try_manyAs (X := XX) (l := tryL cs) (tb := fun W D σ H => ∃ Ech : XK, (∀ cls d σ' H', Ech cls d H' → σ'.length = 2 → W cls d σ' H') ∧ σ[0]? = some (some (.ref f)) ∧ H c' = some (LamX.CodeO c' q) ∧
      tl Ech H (fun v H1 => 2 ≤ sizeLine ∧ ∀ t, H1 t = none → D.rt (.ref t) (upd H1 t (.tup [.str "", v]))))
      rfl rfl scTry.nd LamX.takes0 (fun W pn xe tk _ => ?_) ?_), ?_⟩
  · refine ⟨fun pins s' σ H' D I h' => ?_⟩
    obtain ⟨Ech, hW, h1, h2, h3⟩ := h'
    have hp := act (fun cls d σ H => σ.length = 2 → W cls d σ H) pn xe Ech
    have hq : ∀ (j k : Nat) (p1 p2 p3 p4 p5 : Pos), PSs (XX.tr pn xe) [.Return (some (.Tuple [.Constant (.str "") j p3, .Call (.Name "_law_ask" p1) [] [] p2] k p4)) p5] (tRet (tTup (tCons (tC (.str "")) (tCons (fun σZ HZ Q => σZ[0]? = some (some (V.ref f)) ∧ HZ c' = some (LamX.CodeO c' q) ∧ tl Ech HZ Q) tNil)))) :=
      fun j k p1 p2 p3 p4 p5 => pss_one (ps_ret (pe_tup (pa_cons pe_str (pa_cons (hp p1 p2 (takes_len tk) hW) pa_nil))))
    exact (hq _ _ _ _ _ _ _).run pins s' σ H' D I ⟨h1, h2, h3⟩
  · exact .cons rfl rfl ⟨rfl, by decide, .inl Z.e0.m⟩ (fun a oe cls d pn hz hf => pss_one (ps_ret (pe_tup (pa_cons (pe_xfP List.mem_cons_self Z.e0.T (Z.co 0) hz hf (pv 1)) (pa_cons (pe_xfP List.mem_cons_self Z.e0.T Z.f00 hz hf (pv 1)) (pa_cons (pe_xfP List.mem_cons_self Z.e0.T Z.f01 hz hf (pv 1)) pa_nil))))))
      (.cons rfl rfl ⟨rfl, by decide, .inl Z.e1.m⟩ (fun a oe cls d pn hz hf => pss_one (ps_ret (pe_tup (pa_cons (pe_xfP List.mem_cons_self Z.e1.T (Z.co 1) hz hf (pv 1)) (pa_cons (pe_xfP List.mem_cons_self Z.e1.T Z.f10 hz hf (pv 1)) pa_nil)))))
      (.cons rfl rfl ⟨rfl, by decide, .inl Z.e2.m⟩ (fun a oe cls d pn hz hf => pss_one (ps_ret (pe_tup (pa_cons (pe_xfP List.mem_cons_self Z.e2.T (Z.co 2) hz hf (pv 1)) (pa_cons (pe_xfP List.mem_cons_self Z.e2.T Z.f20 hz hf (pv 1)) pa_nil)))))
      (.cons rfl rfl ⟨rfl, by decide, .inl Z.e3.m⟩ (fun a oe cls d pn hz hf => pss_one (ps_ret (pe_tup (pa_cons (pe_xfP List.mem_cons_self Z.e3.T (Z.co 3) hz hf (pv 1)) (pa_cons (pe_xfP List.mem_cons_self Z.e3.T Z.f30 hz hf (pv 1)) (pa_cons (pe_xfP List.mem_cons_self Z.e3.T Z.f31 hz hf (pv 1)) pa_nil))))))
      .nil)))
  · refine ⟨fun cls d H' => Flt4 H' cs cls d Q, fun cls d σ' H' hf hl => ?_, rfl, hc, ?_⟩
    · have g1 : ∀ a : Addr, (σ'.set 1 (some (V.ref a)))[1]? = some (some (V.ref a)) := fun a => List.getElem?_set_self (by omega)
      rcases hf with ⟨rfl, dd, v, u, rfl, hd, q⟩ | ⟨rfl, dd, v, rfl, hd, q⟩ | ⟨rfl, dd, v, rfl, hd, q⟩ | ⟨rfl, dd, v, u, rfl, hd, q⟩
      · exact ⟨true, Z.ex 0 0, fun _ a na => ⟨_, g1 a, rfl, rfl, dd, _, _, rfl, hd, rfl, _, g1 a, rfl, rfl, dd, _, _, rfl, hd, rfl, _, g1 a, rfl, rfl, dd, _, _, rfl, hd, rfl, (by show 3 ≤ sizeLine; decide), fun t nt => q t _ (new_same nt _) nt upd_same⟩, fun z => Bool.noConfusion z⟩
      · exact ⟨false, Z.ex 1 0, fun z => Bool.noConfusion z, fun _ => ⟨true, Z.ex 1 1, fun _ a na => ⟨_, g1 a, rfl, rfl, dd, _, _, rfl, hd, rfl, _, g1 a, rfl, rfl, dd, _, _, rfl, hd, rfl, (by show 2 ≤ sizeLine; decide), fun t nt => q t _ (new_same nt _) nt upd_same⟩, fun z => Bool.noConfusion z⟩⟩
      · exact ⟨false, Z.ex 2 0, fun z => Bool.noConfusion z, fun _ => ⟨false, Z.ex 2 1, fun z => Bool.noConfusion z, fun _ => ⟨true, Z.ex 2 2, fun _ a na => ⟨_, g1 a, rfl, rfl, dd, _, _, rfl, hd, rfl, _, g1 a, rfl, rfl, dd, _, _, rfl, hd, rfl, (by show 2 ≤ sizeLine; decide), fun t nt => q t _ (new_same nt _) nt upd_same⟩, fun z => Bool.noConfusion z⟩⟩⟩
      · exact ⟨false, Z.ex 3 0, fun z => Bool.noConfusion z, fun _ => ⟨false, Z.ex 3 1, fun z => Bool.noConfusion z, fun _ => ⟨false, Z.ex 3 2, fun z => Bool.noConfusion z, fun _ => ⟨true, Z.ex 3 3, fun _ a na => ⟨_, g1 a, rfl, rfl, dd, _, _, rfl, hd, rfl, _, g1 a, rfl, rfl, dd, _, _, rfl, hd, rfl, _, g1 a, rfl, rfl, dd, _, _, rfl, hd, rfl, (by show 3 ≤ sizeLine; decide), fun t nt => q t _ (new_same nt _) nt upd_same⟩, fun z => Bool.noConfusion z⟩⟩⟩⟩
    · exact h
end
section
variable {H : Hp} {cs : Fin 4 → Addr} {Q : VK}
theorem air_uo {n m : Int} (q : ∀ t H', Same H H' → H' t = some (.tup [.str "UnlikeOrders", .int n, .int m]) → Q (.ref t) H') : Air H (cs 0) (fs2 "UnlikeOrders" "one" "other" [.int n, .int m]) (fun cls d H' => Flt4 H' cs cls d Q) := fun d H' s n e => .inl ⟨rfl, d, _, _, rfl, e, fun t H2 s2 n2 e3 => q t H2 (s.trans s2) e3⟩
theorem air_ns {v : V} (q : ∀ t H', Same H H' → H' t = some (.tup [.str "NotSlow", v]) → Q (.ref t) H') : Air H (cs 1) (fs1 "NotSlow" "first" [v]) (fun cls d H' => Flt4 H' cs cls d Q) := fun d H' s n e => .inr (.inl ⟨rfl, d, _, rfl, e, fun t H2 s2 n2 e3 => q t H2 (s.trans s2) e3⟩)
theorem air_is {v : V} (q : ∀ t H', Same H H' → H' t = some (.tup [.str "IsStill", v]) → Q (.ref t) H') : Air H (cs 2) (fs1 "IsStill" "have" [v]) (fun cls d H' => Flt4 H' cs cls d Q) := fun d H' s n e => .inr (.inr (.inl ⟨rfl, d, _, rfl, e, fun t H2 s2 n2 e3 => q t H2 (s.trans s2) e3⟩))
theorem air_uf {n m : Int} (q : ∀ t H', Same H H' → H' t = some (.tup [.str "UnlikeFlats", .int n, .int m]) → Q (.ref t) H') : Air H (cs 3) (fs2 "UnlikeFlats" "one" "other" [.int n, .int m]) (fun cls d H' => Flt4 H' cs cls d Q) := fun d H' s n e => .inr (.inr (.inr ⟨rfl, d, _, _, rfl, e, fun t H2 s2 n2 e3 => q t H2 (s.trans s2) e3⟩))
end
end Kx
end
section
set_option maxHeartbeats 4000000
namespace Kx
open PySem PySem.Spec PyProof.Rows L2 RZ
theorem passF {P : Program} {w : World} {X : Cx} : Passes (L2.CX P w) X (fun _ _ _ => False) := fun _ _ _ _ _ _ _ h => by
  obtain ⟨_, _, _, _, _, _, _, _, _, _, _, _, z⟩ := h
  exact z.elim
/-- objects of the class say what they are -/
structure IsS (K : PySem.W.Frag) (S : Addr) : Prop where
  ty : ∀ H a dx fs, H a = some (.ins S dx fs) → TyX K H (.ref a) (.ref S)
  kit : PySem.W.kitOne K (.ref S) (.ref S) = some true
section
variable {P : Program} {w : World} {K : PySem.W.Frag} {mg : Str → Option Value} {base : Heap} {f C S SD CF CO CP CN o0 o1 : Addr} {fd : FuncData}
end
end Kx
end
section
set_option maxHeartbeats 4000000
namespace Kx
open PySem PySem.Spec PyProof.Rows L2 RZ
/-! ### a clock spoilt -/
structure Kit24 (P : Program) (w : World) (K : PySem.W.Frag) (mg : Str → Option Value) (base : Heap) (C S TA CF CO : Addr) (cs : _root_.Fin 4 → Addr) : Prop where
  sk : StepK P w K mg base C S CF CO
  tk : TaK P w K mg base TA
  draw : Use P w K mg base CX0 1 "_law_draw" ["_law_bag_here", "_law_many_y"] spDraw []
  nz : Use P w K mg base CX0 3 "_law_not0" ["_law_bag_here"] (spNum K 4 NumZ) []
  add : Use P w K mg base CX0 2 "_law_add" ["_law_p", "_law_q"] (spTwoQ K (· + ·)) []
  mul : Use P w K mg base CX0 2 "_law_mul" ["_law_p", "_law_q"] (spTwoQ K (· * ·)) []
  fts : Use P w K mg base CX0 1 "_law_fits" ["_law_u"] (spFts K) []
  gai : Use P w K mg base (L2.CX P w) 7 "gain" ["tally", "creep"] (spGai K S TA (cs 0) (cs 1) (cs 2) (cs 3)) []
  lga : Use P w K mg base CX0 6 "_law_gain" ["_law_nums_here", "_law_kk", "_law_f"] (spLga K) []
  one : Use P w K mg base CX0 1 "_law_one" ["_law_count_y"] (spOne K) []
  lik : Use P w K mg base CX0 5 "_law_same" ["_law_found", "_law_due"] (spLike K 3) []
  mn : mg "len" = none
  ml : mg "list" = none
/-- a creep's sizes, as the law draws it -/
structure CrZ (us : List Rat) (kk M : Nat) : Prop where
  c : CrC us kk M
  a : Ok (ser us kk)
  z : ∃ L, 0 < L ∧ L ≤ 2 ^ 2400 ∧ AllD L 20000 (clkL us kk)
def spSpo (K : PySem.W.Frag) : Sp := fun vs H Q _ => ∃ (n : Nat) (B p : Addr) (x y : V) (us : List Rat) (kk M : Nat), vs = [.ref B, x, y, .int (kk : Nat)] ∧ Bag (n + 5) H B p ∧ Ls K H x (0 :: us) ∧ Ls K H y (clkL us kk) ∧ x ≠ .ref B ∧ y ≠ .ref B ∧ CrZ us kk M ∧ ∀ H', Bag n H' B p → But B H H' → Q (.bl true) H'
abbrev nSpo : List Str := ["_law_bag_here", "_law_f", "_law_nums_here", "_law_kk", "_law_i", "_law_p", "_law_bad", "_law_told", "_law_due", "_law_by_y"]
/-- the gain of a clock with one number changed -/
theorem ga_spoilt {us : List Rat} {kk M i m : Nat} {q : Rat} (h : CrC us kk M) (hi : i < us.length - kk) (hm : m < us.length - kk) : ser (gaL us kk ((clkL us kk).set i (ser (clkL us kk) i + q))) m = ser (oneL (us.length - kk)) m + q * gnE us kk i m := by
  have lc := clkL_len us kk
  have l1 : ((clkL us kk).set i (ser (clkL us kk) i + q)).length = us.length - kk := by rw [List.length_set, lc]
  have e1 := ga_at (us := us) (fl := kk) l1 hm
  have e2 := ga_at (us := us) (fl := kk) lc hm
  rw [clk_ga h.u0 h.lo h.fn h.f1 h.a0] at e2
  have v1 : ser (gaL us kk ((clkL us kk).set i (ser (clkL us kk) i + q))) m = sumN (fun a => ser ((clkL us kk).set i (ser (clkL us kk) i + q)) a * gnE us kk a m) (us.length - kk) := by
    have := ser_at (qs := gaL us kk ((clkL us kk).set i (ser (clkL us kk) i + q))) (k := m) (by rw [gaL_len]; exact hm)
    rw [e1] at this
    exact (Option.some.inj this).symm
  have v2 : ser (oneL (us.length - kk)) m = sumN (fun a => ser (clkL us kk) a * gnE us kk a m) (us.length - kk) := by
    have := ser_at (qs := oneL (us.length - kk)) (k := m) (by rw [oneL_len (by omega)]; exact hm)
    rw [e2] at this
    exact (Option.some.inj this).symm
  rw [v1, v2]
  have key : ∀ N, N ≤ us.length - kk → sumN (fun a => ser ((clkL us kk).set i (ser (clkL us kk) i + q)) a * gnE us kk a m) N = sumN (fun a => ser (clkL us kk) a * gnE us kk a m) N + (if i < N then q * gnE us kk i m else 0) := fun N => by
    induction N with
    | zero => intro _; show (0 : Rat) = 0 + _; rw [if_neg (by omega)]; decide +kernel
    | succ N ih =>
      intro hN
      rw [sumN, ih (by omega), sumN]
      have sv : ser ((clkL us kk).set i (ser (clkL us kk) i + q)) N = if i = N then ser (clkL us kk) i + q else ser (clkL us kk) N := by
        show List.getD _ _ _ = if i = N then _ else List.getD _ _ _
        rw [List.getD_eq_getElem?_getD, List.getD_eq_getElem?_getD, List.getElem?_set]
        by_cases c : i = N
        · rw [if_pos c, if_pos c, if_pos (by rw [lc]; omega)]
          rfl
        · rw [if_neg c, if_neg c]
      rw [sv]
      by_cases c : i = N
      · subst c
        rw [if_pos rfl, if_neg (by omega), if_pos (by omega)]
        grind
      · rw [if_neg c]
        by_cases d : i < N
        · rw [if_pos d, if_pos (by omega)]
          grind
        · rw [if_neg d, if_neg (by omega)]
          grind
  rw [key _ (Nat.le_refl _), if_pos hi]
theorem spoilt_due {us : List Rat} {kk M i : Nat} {q : Rat} (h : CrC us kk M) (hi : i < us.length - kk) : (gaL us kk ((clkL us kk).set i (ser (clkL us kk) i + q))).take (i + 1) = ((oneL (us.length - kk)).set i (ser (oneL (us.length - kk)) i + q * ser us kk * byR i kk)).take (i + 1) := by
  have lo := oneL_len (n := us.length - kk) (by omega)
  apply List.ext_getElem?
  intro m
  rw [List.getElem?_take, List.getElem?_take]
  by_cases c : m < i + 1
  · rw [if_pos c, if_pos c, ser_at (by rw [gaL_len]; omega), ga_spoilt h hi (by omega), List.getElem?_set]
    by_cases d : i = m
    · subst d
      rw [if_pos rfl, if_pos (by rw [lo]; exact hi), gn_dg h.u0 h.lo h.fn h.f1]
      congr 1
      grind
    · rw [if_neg d, ser_at (by rw [lo]; omega), gn_low h.u0 h.lo h.fn h.f1 (by omega), Rat.mul_zero, Rat.add_zero]
  · rw [if_neg c, if_neg c]
section
variable {P : Program} {w : World} {K : PySem.W.Frag} {mg : Str → Option Value} {base : Heap} {f C S TA CF CO : Addr} {cs : _root_.Fin 4 → Addr} {fd : FuncData}
theorem scSpo : FnScope nSpo ["_law_bag_here", "_law_f", "_law_nums_here", "_law_kk"] (defScope L_spoilt) := ⟨rfl, rfl, rfl, by decide +kernel, rfl, by decide +kernel, by decide +kernel⟩
theorem ok_spoilt (F : Fun K "_law_spoilt" "_law_spoilt" L_spoilt f fd) (U : Kit24 P w K mg base C S TA CF CO cs) : FnOk P w K mg base CX0 8 f fd ["_law_bag_here", "_law_f", "_law_nums_here", "_law_kk"] (spSpo K) := by
  refine F.ok scSpo (fun vs H Q E h => ?_) (fun cdv A outer s H vs Q E hr h => ?_)
  · obtain ⟨n, B, p, x, y, us, kk, M, rfl, _⟩ := h
    rfl
  obtain ⟨n, B, p, x, y, us, kk, M, rfl, hb, hx, hy, xB, yB, hZ, q⟩ := h
  have hr1 := hr.mono (show 1 ≤ 7 by decide)
  have hr2 := hr.mono (show 2 ≤ 7 by decide)
  have hr3 := hr.mono (show 3 ≤ 7 by decide)
  have hr5 := hr.mono (show 5 ≤ 7 by decide)
  have hr6 := hr.mono (show 6 ≤ 7 by decide)
  have hr7 := hr
  obtain ⟨fI, fdI, MI, FI, bI⟩ := U.sk.ini
  obtain ⟨fT, fdT, MT, FT, bT⟩ := U.tk.ini
  refine ⟨_, (pss_cons (ps_par (i := 4) (j := 5) rfl scSpo.nd rfl rfl (by decide) rfl rfl (pa_cons (pe_use U.draw hr1 rfl pass0 (pa_cons (pv 0) (pa_cons (pe_callB call_len_seq rfl U.mn PySem.boot_len (pa_cons (pv 2) pa_nil)) pa_nil))) (pa_cons (pe_use U.nz hr3 rfl pass0 (pa_cons (pv 0) pa_nil)) pa_nil)) rfl)
    (pss_cons (ps_set (i := 6) scSpo.nd rfl (Or.inl rfl) (pe_callTy call_list_of rfl U.ml (by decide +kernel) (pa_cons (pv 2) pa_nil)))
    (C8.pss_cut (ps_asg (pe_use U.add hr2 rfl pass0 (pa_cons (pe_ix ix_list (pv 6) (pv 4) (fun _ _ => rfl)) (pa_cons (pv 5) pa_nil))) (pg_sub (pv 6) (pv 4) set_list))
    (pss_cons (ps_if (pt_not (pt_val (pe_use U.fts hr1 rfl pass0 (pa_cons (pv 6) pa_nil)))) (pss_one (ps_ret pe_bl)) pss_nil)
    (pss_cons (ps_set (i := 7) scSpo.nd rfl (Or.inl rfl) (pe_use (E := fun _ _ _ => False) U.gai hr7 rfl passF (pa_cons (pe_make (E := fun _ _ _ => False) MT FT hr7 rfl U.tk.m bT .nil passF (pa_cons (pv 3) (pa_cons (pv 6) pa_nil))) (pa_cons (pe_make (E := fun _ _ _ => False) MI FI hr7 rfl U.sk.m bI .nil passF (pa_cons (pe_slice sl_list (pv 1) (po_some pe_int) po_none) pa_nil)) pa_nil))))
    (pss_cons (ps_if (pt_not (pt_val (pe_use U.lik hr5 rfl pass0 (pa_cons (pv 7) (pa_cons (pe_use U.lga hr6 rfl pass0 (pa_cons (pv 6) (pa_cons (pv 3) (pa_cons (pv 1) pa_nil)))) pa_nil))))) (pss_one (ps_ret pe_bl)) pss_nil)
    (pss_cons (ps_set (i := 8) scSpo.nd rfl (Or.inl rfl) (pe_use U.one hr1 rfl pass0 (pa_cons (pe_callB call_len_seq rfl U.mn PySem.boot_len (pa_cons (pv 2) pa_nil)) pa_nil)))
    (C8.pss_cut (ps_set (i := 9) scSpo.nd rfl (Or.inl rfl) (pe_ifExp (pt_cmpR op_eq (pv 4) (pv 3) (nomark _)) (pe_tup (pa_cons pe_int (pa_cons pe_int pa_nil))) (pe_tup (pa_cons (pe_op op_sub (pv 4) (pv 3)) (pa_cons pe_int pa_nil)))))
    (pss_cons (ps_asg (pe_use U.add hr2 rfl pass0 (pa_cons (pe_ix ix_list (pv 8) (pv 4) (fun _ _ => rfl)) (pa_cons (pe_use U.mul hr2 rfl pass0 (pa_cons (pe_use U.mul hr2 rfl pass0 (pa_cons (pv 5) (pa_cons (pe_ix ix_list (pv 1) (pe_op op_add (pv 3) pe_int) (fun _ _ => rfl)) pa_nil))) (pa_cons (pv 9) pa_nil))) pa_nil))) (pg_sub (pv 8) (pv 4) set_list))
    (pss_one (ps_ret (pe_use U.lik hr5 rfl pass0 (pa_cons (pe_slice sl_list (pv 7) po_none (po_some (pe_op op_add (pv 4) pe_int))) (pa_cons (pe_slice sl_list (pv 8) po_none (po_some (pe_op op_add (pv 4) pe_int))) pa_nil)))))))))))))), ?_⟩
  have hC := hZ.c
  have f1 := hC.f1
  have fn := hC.fn
  have l11 := hC.l11
  have lc := clkL_len us kk
  have lo := oneL_len (n := us.length - kk) (by omega)
  obtain ⟨xa, xs, rfl, hxa, nx⟩ := id hx
  obtain ⟨ya, ys, rfl, hya, ny⟩ := id hy
  have lx : xs.length = us.length + 1 := nx.1
  have ly : ys.length = us.length - kk := by rw [ny.1, lc]
  obtain ⟨_, _, _, _, _, eB, _, _⟩ := hb.ex
  obtain ⟨L, l0, lL, aL⟩ := hZ.z
  have ca := hC.c
  have m0 := ca.m0
  have mM := ca.m
  have p26 : L * 60 ≤ 2 ^ 2406 := by
    have := Nat.mul_le_mul lL (show 60 ≤ 2 ^ 6 by decide)
    rw [← Nat.pow_add] at this
    exact this
  have sL : SmL (L * 60) := ⟨Nat.mul_pos l0 (by decide), Nat.lt_of_le_of_lt p26 (Nat.pow_lt_pow_right (by decide) (by decide))⟩
  have sLM : SmL (L * 60 * M) := ⟨Nat.mul_pos (Nat.mul_pos l0 (by decide)) m0, by
    have := Nat.mul_le_mul p26 (Nat.le_of_lt mM)
    rw [← Nat.pow_add] at this
    exact Nat.lt_of_le_of_lt this (Nat.pow_lt_pow_right (by decide) (by decide))⟩
  have sM60 : SmL (60 * M) := ⟨Nat.mul_pos (by decide) m0, by
    have := Nat.mul_le_mul (show 60 ≤ 2 ^ 6 by decide) (Nat.le_of_lt mM)
    rw [← Nat.pow_add] at this
    exact Nat.lt_of_le_of_lt this (Nat.pow_lt_pow_right (by decide) (by decide))⟩
  have s60 : SmL 60 := ⟨by decide, Nat.lt_of_lt_of_le (m := 2 ^ 6) (by decide) (Nat.pow_le_pow_right (by decide) (by decide))⟩
  have dc : ∀ {c : Rat}, NumZ c → Dq 60 10 c := fun h => (Dq.self _ (B := 4) (Nat.lt_of_le_of_lt h.1.2 (by decide))).dv (C := 6) h.1.1 (by decide) (by decide)
  have okc : ∀ {c : Rat}, NumZ c → Ok c := fun h => (dc h).ok s60 (by decide)
  have dk : ∀ i, Dq (L * 60) 20006 (ser (clkL us kk) i) := fun i => (aL.getD i).up (C := 6) 60 rfl (by decide)
  have okk : ∀ i, Ok (ser (clkL us kk) i) := fun i => (dk i).ok sL (by decide)
  have dbad : ∀ {c : Rat} (i : Nat), NumZ c → AllD (L * 60) 20007 ((clkL us kk).set i (ser (clkL us kk) i + c)) := fun {c} i h => by
    have dc' : Dq (L * 60) 2410 c := (dc h).up (C := 2400) L (Nat.mul_comm _ _) lL
    intro r hr
    rcases List.mem_or_eq_of_mem_set hr with hr | rfl
    · exact ((aL r hr).up (C := 6) 60 rfl (by decide)).mono (by decide)
    · exact (dk i).add dc' (by decide) (by decide)
  refine ⟨_, rfl, _, rfl, ya, ys, rfl, .inl (SqL.of hya), n + 4, B, p, _, rfl, by omega, by omega, hb, fun H1 k b1 u1 k0 k1 => ⟨_, rfl, n, B, p, rfl, b1, fun H2 vq c b2 u2 nq nz => ?_⟩⟩
  obtain ⟨i, rfl⟩ := Int.eq_ofNat_of_zero_le k0
  have hi : i < us.length - kk := by omega
  have u12 := u1.trans u2
  have hx2 := hx.butL eB xB u12
  have hy2 := hy.butL eB yB u12
  have hya2 := u12 ya _ (fun z => yB (congrArg V.ref z)) hya
  refine ⟨_, _, rfl, _, rfl, ya, ys, rfl, .inl (SqL.of hya2), fun fb nf => ?_⟩
  have s2 := new_same nf (HO.lst ys)
  have nb := b2.at nf
  refine ⟨fun σ G => ∃ zs : List V, σ = [some (.ref B), some (.ref xa), some (.ref ya), some (.int (kk : Nat)), some (.int (i : Nat)), some vq, some (.ref fb), none, none, none] ∧ Bag n G B p ∧ But B H G ∧ Nq K G vq c ∧ Ls K G (.ref xa) (0 :: us) ∧ Ls K G (.ref ya) (clkL us kk) ∧ G fb = some (.lst zs) ∧ Nl K G zs ((clkL us kk).set i (ser (clkL us kk) i + c)), ?_, ?_⟩
  · obtain ⟨yi, ei, ni⟩ := ny.get' (i := i) (by rw [lc]; exact hi)
    have ev : (clkL us kk)[i]'(by rw [lc]; exact hi) = ser (clkL us kk) i := by
      have := ser_at (qs := clkL us kk) (k := i) (by rw [lc]; exact hi)
      rw [List.getElem?_eq_getElem (by rw [lc]; exact hi)] at this
      exact Option.some.inj this
    rw [ev] at ni
    have ni2 : Nq K (upd H2 fb (HO.lst ys)) yi (ser (clkL us kk) i) := by
      obtain ⟨ya', ys', e1, e2, e3⟩ := hy2
      obtain rfl := V.ref.inj e1
      rw [hya2] at e2
      obtain rfl := HO.lst.inj (Option.some.inj e2)
      obtain ⟨yj, ej, nj⟩ := e3.get' (i := i) (by rw [lc]; exact hi)
      rw [ei] at ej
      obtain rfl := Option.some.inj ej
      rw [ev] at nj
      exact nj.same s2
    have nl2 : Nl K (upd H2 fb (HO.lst ys)) ys (clkL us kk) := by
      obtain ⟨ya', ys', e1, e2, e3⟩ := hy2
      obtain rfl := V.ref.inj e1
      rw [hya2] at e2
      obtain rfl := HO.lst.inj (Option.some.inj e2)
      exact e3.same s2
    have fb2 : upd H2 fb (HO.lst ys) fb = some (.lst ys) := upd_same
    refine ⟨_, rfl, _, rfl, fb, ys, (i : Int), yi, rfl, rfl, SqL.of fb2, at_of (j := i) rfl ei, _, rfl, yi, vq, _, _, rfl, ni2, nq.same s2, okk i, okc nz, fun t G s3 nt ht => ?_⟩
    have fb3 := s3 _ _ fb2
    have nt2 : Nq K G (.ref t) (ser (clkL us kk) i + c) := .at (K := K) ht
    have nfH : H fb = none := u12.free b2 nf
    have s23 := s2.trans s3
    have b3 := b2.same s23
    refine ⟨_, rfl, _, rfl, fb, ys, (i : Int), i, rfl, rfl, fb3, ixN_of (by omega), _, rfl, b3.upd nb.1 nb.2, fun b o hbB ho => ?_, (nq.same s23).butL fb3 (fun b o n e => by rw [upd_ne n]; exact e), (hx2.same s23).butL fb3 (fun z => by have := V.ref.inj z; subst this; rw [nfH] at hxa; cases hxa) (fun b o n e => by rw [upd_ne n]; exact e), (hy2.same s23).butL fb3 (fun z => by have := V.ref.inj z; subst this; rw [nfH] at hya; cases hya) (fun b o n e => by rw [upd_ne n]; exact e), upd_same, (nl2.same s3).setD fb3 nt2⟩
    rw [upd_ne (fun z => by rw [z, nfH] at ho; cases ho)]
    exact s23 _ _ (u12 _ _ hbB ho)
  · rintro σ G ⟨zs, rfl, bG, uG, nqG, hxG, hyG, hfb, nzs⟩
    have lbad : ((clkL us kk).set i (ser (clkL us kk) i + c)).length = us.length - kk := by rw [List.length_set, lc]
    have hbadG : Ls K G (.ref fb) ((clkL us kk).set i (ser (clkL us kk) i + c)) := ⟨fb, zs, rfl, hfb, nzs⟩
    refine ⟨_, rfl, .ref fb, _, rfl, hbadG, by rw [lbad]; omega, fun G1 s1 => ?_⟩
    refine ⟨_, rfl, ite2 (fun _ => q G1 (bG.same s1) (uG.trans (But.same s1))) (fun _ => ?_)⟩
    refine ⟨_, rfl, _, rfl, fun x1 d1 nx1 nd1 ne1 => tally_new (s1 _ _ hfb) (nzs.same s1) f1 (by omega) (by rw [lbad]; omega) (by rw [lbad]; omega) nx1 nd1 ne1 fun G2 s2' hT => ⟨rfl, ?_⟩⟩
    have s02 := s1.trans s2'
    obtain ⟨xa', xs', e1, hxa2, nx2⟩ := hxG.same s02
    obtain rfl := V.ref.inj e1
    refine ⟨_, rfl, 1, rfl, xa, xs', rfl, SqL.of hxa2, fun pp np => ?_⟩
    rw [show cutV xs' (some 1) none = xs'.drop 1 from cut_drop xs' 1]
    have s3 := new_same np (HO.lst (xs'.drop 1))
    refine fun x2 d2 nx2' nd2 ne2 => step_newF (.inl upd_same) ((nx2.drop 1).same s3) (by show 2 ≤ us.length; omega) (by show us.length ≤ 24; omega) nx2' nd2 ne2 fun G3 s4 hS => ⟨rfl, ?_⟩
    have one1 : serS us 1 = 1 := hC.u0
    have s04 := s02.trans (s3.trans s4)
    refine ⟨.ref x1, .ref x2, kk, _, us, rfl, hT.same (s3.trans s4), hS, fun z => absurd (by rw [lbad]; omega) z, fun _ => ⟨fun z => absurd one1 z, fun _ z => absurd (z.symm.trans (flS_cr hC).1) (by decide), fun _ _ => ⟨kk, M, hC, fun z => absurd rfl z, fun _ => ⟨L * 60, 20007, sL, by decide, dbad i nz, fun b5 G4 ws s5 nb5 hw nw => ?_⟩⟩⟩⟩
    have s05 := s04.trans s5
    have lt5 : Ls K G4 (.ref b5) _ := ⟨b5, ws, rfl, hw, nw⟩
    refine ⟨_, rfl, _, rfl, _, rfl, _, rfl, .ref fb, .ref xa, us, _, kk, M, L * 60, 20007, rfl, hbadG.same s05, hxG.same s05, lbad, hC, sL, sLM, by decide, dbad i nz, fun b6 G5 ws2 s6 nb6 hw2 nw2 => ?_⟩
    have s06 := s05.trans s6
    refine ⟨_, _, rfl, Ls.lk (lt5.same s6) ⟨b6, ws2, rfl, hw2, nw2⟩ (by rw [gaL_len]; omega), fun G6 s7 => ⟨_, rfl, ite2 (fun z => by cases z) (fun _ => ?_)⟩⟩
    have s07 := s06.trans s7
    obtain ⟨ya', ys', e2, hya3, ny3⟩ := hyG.same s07
    obtain rfl := V.ref.inj e2
    have ly3 : ys'.length = us.length - kk := by rw [ny3.1, lc]
    refine ⟨_, rfl, ya, ys', rfl, .inl (SqL.of hya3), us.length - kk, by rw [ly3]; rfl, by omega, by omega, fun b8 G7 os s8 nb8 ho no => ?_⟩
    have s08 := s07.trans s8
    have nb8G : G b8 = none := s07.free nb8
    refine ⟨fun σ G' => ∃ vb, σ = [some (.ref B), some (.ref xa), some (.ref ya), some (.int (kk : Nat)), some (.int (i : Nat)), some vq, some (.ref fb), some (.ref b5), some (.ref b8), some vb] ∧ Same G7 G' ∧ Nq K G' vb (byR i kk), ?_, ?_⟩
    · refine ⟨_, rfl, _, rfl, rfl, _, rfl, ite2 (fun hd => ?_) (fun hd => ?_)⟩
      · refine ⟨(by show 2 ≤ sizeLine; decide), fun t nt => ⟨_, rfl, new_same nt _, ?_⟩⟩
        have e : i = kk := by
          have := V.int.inj (of_decide_eq_true hd)
          omega
        unfold byR
        rw [if_pos e]
        exact .at (K := K) (show _ = some (rT 1) from upd_same)
      · refine ⟨_, rfl, _, rfl, _, _, rfl, rfl, (by show 2 ≤ sizeLine; decide), fun t nt => ⟨_, rfl, new_same nt _, ?_⟩⟩
        have e : i ≠ kk := fun z => hd (by rw [z]; exact decide_eq_true rfl)
        unfold byR
        rw [if_neg e]
        exact .at (K := K) (show _ = some (rT (tR i kk)) from upd_same)
    · rintro σ G8 ⟨vb, rfl, s9, nvb⟩
      have s09 := s08.trans s9
      have ho8 := s9 _ _ ho
      have no8 := no.same s9
      obtain ⟨oi, eo, noi⟩ := no8.get' (i := i) (by rw [lo]; exact hi)
      have evo : (oneL (us.length - kk))[i]'(by rw [lo]; exact hi) = ser (oneL (us.length - kk)) i := by
        have := ser_at (qs := oneL (us.length - kk)) (k := i) (by rw [lo]; exact hi)
        rw [List.getElem?_eq_getElem (by rw [lo]; exact hi)] at this
        exact Option.some.inj this
      rw [evo] at noi
      obtain ⟨xa4, xs4, e4, hxa4, nx4⟩ := hxG.same s09
      obtain rfl := V.ref.inj e4
      obtain ⟨xk, ek, nk⟩ := nx4.get' (i := kk + 1) (by rw [List.length_cons]; omega)
      have evk : (0 :: us)[kk + 1]'(by rw [List.length_cons]; omega) = ser us kk := by
        have := ser_at (qs := us) (k := kk) fn
        rw [List.getElem?_eq_getElem fn] at this
        exact Option.some.inj this
      rw [evk] at nk
      have oko : Ok (ser (oneL (us.length - kk)) i) := (show AllD 1 2 (oneL (us.length - kk)) from fun r hr => by
        unfold oneL at hr
        rcases List.mem_cons.mp hr with rfl | hr
        · exact Dq.one (by decide)
        · rw [List.eq_of_mem_replicate hr]
          exact Dq.zero).getD i |>.ok ⟨by decide, Nat.lt_of_lt_of_le (m := 2 ^ 1) (by decide) (Nat.pow_le_pow_right (by decide) (by decide))⟩ (by decide)
      have du : Dq M 1200 (ser us kk) := ca.u.getD kk
      have sM : SmL M := ⟨m0, Nat.lt_trans mM (Nat.pow_lt_pow_right (by decide) (by decide))⟩
      have d1 := (dc nz).mul du
      have db : Dq 1 6 (byR i kk) := by
        unfold byR
        split
        · exact Dq.one (by decide)
        · exact tR_d (by omega) (by omega)
      have d2 := d1.mul db
      rw [Nat.mul_one] at d2
      have s1' : SmL 1 := ⟨by decide, Nat.lt_of_lt_of_le (m := 2 ^ 1) (by decide) (Nat.pow_le_pow_right (by decide) (by decide))⟩
      refine ⟨_, rfl, _, rfl, b8, os, (i : Int), oi, rfl, rfl, SqL.of ho8, at_of (j := i) rfl eo, _, rfl, _, rfl, _, rfl, _, _, rfl, rfl, xa, xs4, ((kk + 1 : Nat) : Int), xk, rfl, rfl, SqL.of hxa4, at_of (j := kk + 1) rfl ek, vq, xk, c, ser us kk, rfl, nqG.same s09, nk, okc nz, du.ok sM (by decide), fun t1 K1 sA nt1 ht1 => ?_⟩
      have n1 : Nq K K1 (.ref t1) (c * ser us kk) := .at (K := K) ht1
      refine ⟨_, rfl, .ref t1, vb, _, _, rfl, n1, nvb.same sA, d1.ok sM60 (by decide), db.ok s1' (by decide), fun t2 K2 sB nt2 ht2 => ?_⟩
      have n2 : Nq K K2 (.ref t2) (c * ser us kk * byR i kk) := .at (K := K) ht2
      refine ⟨oi, .ref t2, _, _, rfl, noi.same (sA.trans sB), n2, oko, d2.ok sM60 (by decide), fun t3 K3 sC nt3 ht3 => ?_⟩
      have n3 : Nq K K3 (.ref t3) (ser (oneL (us.length - kk)) i + c * ser us kk * byR i kk) := .at (K := K) ht3
      have sAC := sA.trans (sB.trans sC)
      have hb8 := sAC _ _ ho8
      have lo8 : os.length = us.length - kk := by rw [no.1, lo]
      refine ⟨_, rfl, _, rfl, b8, os, (i : Int), i, rfl, rfl, hb8, ixN_of (by rw [lo8]; exact hi), ?_⟩
      have nd := (no8.same sAC).setD (i := i) hb8 n3
      have bu : But b8 K3 (upd K3 b8 (HO.lst (os.set i (.ref t3)))) := fun b o n e => by rw [upd_ne n]; exact e
      have s5E : Same G4 K3 := s6.trans (s7.trans (s8.trans (s9.trans sAC)))
      have n58 : b5 ≠ b8 := fun z => by
        have := (s6.trans s7) _ _ hw
        rw [z, nb8] at this
        cases this
      have hb5 : upd K3 b8 (HO.lst (os.set i (.ref t3))) b5 = some (.lst ws) := by
        rw [upd_ne n58]
        exact s5E _ _ hw
      have nw5 : Nl K (upd K3 b8 (HO.lst (os.set i (.ref t3)))) ws _ := (nw.same s5E).setL hb8
      have u8 : But B H (upd K3 b8 (HO.lst (os.set i (.ref t3)))) := fun b o hbB hb => by
        rw [upd_ne (fun z => by rw [z, uG.free bG nb8G] at hb; cases hb)]
        exact (s09.trans sAC) _ _ (uG _ _ hbB hb)
      have nbb := bG.at nb8G
      have b8g : Bag n (upd K3 b8 (HO.lst (os.set i (.ref t3)))) B p := (bG.same (s09.trans sAC)).upd nbb.1 nbb.2
      have hb88 : upd K3 b8 (HO.lst (os.set i (.ref t3))) b8 = some (.lst (os.set i (.ref t3))) := upd_same
      generalize upd K3 b8 (HO.lst (os.set i (.ref t3))) = K4 at nd bu hb5 nw5 u8 b8g hb88
      refine ⟨_, rfl, _, rfl, _, _, rfl, rfl, ((i + 1 : Nat) : Int), rfl, b5, ws, rfl, SqL.of hb5, fun p1 np1 => ?_⟩
      rw [cut_take ws (i + 1)]
      have sD := new_same np1 (HO.lst (ws.take (i + 1)))
      refine ⟨_, rfl, _, rfl, _, _, rfl, rfl, ((i + 1 : Nat) : Int), rfl, b8, _, rfl, SqL.of (sD _ _ hb88), fun p2 np2 => ?_⟩
      rw [cut_take _ (i + 1)]
      have sE := new_same np2 (HO.lst ((os.set i (V.ref t3)).take (i + 1)))
      have la : Ls K (upd (upd K4 p1 (HO.lst (ws.take (i + 1)))) p2 (HO.lst ((os.set i (V.ref t3)).take (i + 1)))) (.ref p1) ((gaL us kk ((clkL us kk).set i (ser (clkL us kk) i + c))).take (i + 1)) := ⟨p1, _, rfl, sE _ _ upd_same, (nw5.take (i + 1)).same (sD.trans sE)⟩
      have lb : Ls K (upd (upd K4 p1 (HO.lst (ws.take (i + 1)))) p2 (HO.lst ((os.set i (V.ref t3)).take (i + 1)))) (.ref p2) (((oneL (us.length - kk)).set i (ser (oneL (us.length - kk)) i + c * ser us kk * byR i kk)).take (i + 1)) := ⟨p2, _, rfl, upd_same, (nd.take (i + 1)).same (sD.trans sE)⟩
      rw [← spoilt_due hC hi] at lb
      refine ⟨_, _, rfl, Ls.lk la lb (by rw [List.length_take, gaL_len]; omega), fun K5 sF => q K5 (b8g.same (sD.trans (sE.trans sF))) (u8.trans (But.same (sD.trans (sE.trans sF))))⟩
end
end Kx
end
section
set_option maxHeartbeats 4000000
namespace Kx
open PySem PySem.Spec PyProof.Rows L2 RZ
/-! ### a call by keywords in the parameters' own order -/
section
variable {K : PySem.W.Frag} {x q : Str} {st : Stmt} {f : Addr} {fd : FuncData}
theorem kb_in {a b : Str} {st : Stmt} (F : Fun K x q st f fd) (h : ∀ (kV doc pm : Value) (an : Option Addr) (cdv ct u v : Value), bindArgs (PySem.W.fnOf x q (defArgs st) (defBody st) (defScope st) .none kV doc pm an cdv ct) ⟨[], [(a, u), (b, v)]⟩ = pure [(a, u), (b, v)]) : KBn K fd [a, b] 0 [a, b] appB appA := by
  obtain ⟨oc, od, kV, doc, pm, an, cdv, ct, osl, rfl, lk, hcd⟩ := F.ex
  refine ⟨fun s us ws _ l1 l2 => ?_, fun r1 r2 => vals_app r1 r2⟩
  match us, ws, l1, l2 with
  | [], [u, v], _, _ => exact .of_eq (h _ _ _ _ _ _ u v)
end
structure UseI (P : Program) (w : World) (K : PySem.W.Frag) (mg : Str → Option Value) (base : Heap) (CX : CXT) (k : Nat) (x : Str) (ps : List Str) (sp : Sp) : Prop where
  ex : ∃ (f : Addr) (fd : FuncData), FnOk P w K mg base CX k f fd ps sp ∧ PySem.W.keepIn K (.ref f) = true ∧ mg x = some (.ref f) ∧ KBn K fd ps 0 ps appB appA
section
variable {X : Cx} {CX : CXT} {k : Nat} {ps : List Str} {sp : Sp} {E : XK} {x : Str} {p pos : Pos} {kws : List Keyword} {tk : TA} {m : Nat}
def tCallI (m : Nat) (sp : Sp) (E : XK) (tk : TA) : TE := fun σ H Q => tk σ H fun zs H2 => zs.length = m ∧ sp zs H2 Q E
theorem pe_useI (U : UseI X.prog X.w X.K X.mg X.base CX k x ps sp) (hr : Room k X.A) (hg : Gl X x) (hx : Passes CX X E)
    (hkw : PK X kws tk) (hall : (backToKw pos (keywordEach kws X.env)).all (·.1.isSome) = true := by rfl) (hks : (backToKw pos (keywordEach kws X.env)).filterMap (·.1) = ps := by rfl)
    (hdb : (x == ("__debug__" : Str)) = false := by decide) (hpl : ((backTo pos (starEach [] X.env)).any (·.1) || (backToKw pos (keywordEach kws X.env)).any (·.1.isNone)) = false := by rfl) (hl : m = ps.length := by rfl) :
    PE X (.Call (.Name x p) [] kws pos) (tCallI m sp E tk) := by
  subst hl
  obtain ⟨f, fd, F, hk, hm, hb⟩ := U.ex
  refine ⟨fun pins s σ H Q I h => wpAny_Call_Name_kw (ld_glob I hg hm ?_ hdb)⟩
  refine PySem.W.callWith_KW0 (h₀ := X.base) I.ok.mod.kin hk hall ?_ hpl
  refine thn (hkw.run pos pins s σ H _ I h) fun ws s2 ⟨zs, H2, I2, rz, l2, q2⟩ => ⟨I2.kIn, ?_⟩
  rw [hks]
  exact run_fnN (us := []) (vs := []) F hr hb hx I2 .nil rz rfl l2 (by rw [show appA [] zs = zs from rfl]; exact q2)
end
end Kx
end
section
set_option maxHeartbeats 4000000
namespace Kx
open PySem PySem.Spec PyProof.Rows L2 RZ
/-! ### what stands of a drawn creep -/
theorem kind_still (n : Nat) : kindS (stL n) = "still" := by
  unfold kindS stL
  rw [List.getD_cons_zero, if_neg (by decide), if_pos rfl, if_pos]
  apply List.all_eq_true.mpr
  intro r hr
  rw [List.eq_of_mem_replicate (show r ∈ List.replicate (n - 1) (0 : Rat) from hr)]
  rfl
/-- a creep is no error -/
theorem ce_creep {K : PySem.W.Frag} {CN CI : Addr} {H : Hp} {us : List Rat} {kk M : Nat} {E : XK} {good : Prop} (h : CrC us kk M) (g : good) : CrE K CN CI H us E good :=
  ⟨fun z => absurd (show serS us 1 = 1 from h.u0) z, fun _ z => absurd (z.symm.trans (flS_cr h).1) (by decide), fun _ _ => g⟩
/-- a step that is no creep is one -/
theorem ce_noc {K : PySem.W.Frag} {CN CI : Addr} {H : Hp} {qs : List Rat} {E : XK} {good : Prop} (h : qs = stL qs.length ∨ serS qs 1 ≠ 1) (ns : serS qs 1 ≠ 1 → ∀ H' x0, Same H H' → Nq K H' x0 (serS qs 1) → Air H' CN (fs1 "NotSlow" "first" [x0]) E) (is : qs = stL qs.length → Air H CI (fs1 "IsStill" "have" [.int (qs.length : Int)]) E) : CrE K CN CI H qs E good := by
  refine ⟨ns, fun e _ => h.elim is fun z => absurd e z, fun e k => ?_⟩
  rcases h with h | h
  · exact absurd (by rw [h]; exact kind_still _) k
  · exact absurd e h
theorem CrZ.slv {us : List Rat} {kk M : Nat} (h : CrZ us kk M) : SlvC us kk (oneL (us.length - kk)) M := by
  obtain ⟨L, l0, lL, aL⟩ := h.z
  have m0 := h.c.c.m0
  have mM := h.c.c.m
  refine ⟨fun r hr => ?_, L, 20000, ⟨Nat.mul_pos l0 m0, ?_⟩, by decide, aL⟩
  · have s1 : SmL 1 := ⟨by decide, Nat.lt_of_lt_of_le (m := 2 ^ 1) (by decide) (Nat.pow_le_pow_right (by decide) (by decide))⟩
    have d : Dq 1 2 r := by
      unfold oneL at hr
      rcases List.mem_cons.mp hr with rfl | hr
      · exact Dq.one (by decide)
      · rw [List.eq_of_mem_replicate hr]
        exact Dq.zero
    exact d.ok s1 (by decide)
  · have := Nat.mul_le_mul lL (Nat.le_of_lt mM)
    rw [← Nat.pow_add] at this
    exact Nat.lt_of_le_of_lt this (Nat.pow_lt_pow_right (by decide) (by decide))
theorem CrZ.dg {us : List Rat} {kk M : Nat} (h : CrZ us kk M) {k : Nat} (hk : k < us.length - kk) : (gnE us kk k k).num.natAbs < 2 ^ 4450 := by
  have l11 := h.c.l11
  have f1 := h.c.f1
  exact Nat.lt_trans ((gn_d h.c.c (fl := kk) (i := k) (m := k) (by omega) (by omega)).num h.c.c.m0) (Nat.pow_lt_pow_right (by decide) (by decide))
theorem tl_d {d : Nat} {r : Rat} (d0 : 0 < d) (d9 : d ≤ 99) (h : TlQ d r) : Dq (60 * d) 43 r :=
  (Dq.self r (B := 30) (Nat.lt_of_le_of_lt h.2 (by decide))).dv (C := 13) h.1 (by omega) (by omega)
/-- a drawn creep's sizes -/
theorem cr_z {rs : List Rat} {d kk : Nat} (d0 : 0 < d) (d9 : d ≤ 99) (hr : ∀ r ∈ rs, TlQ d r) (k1 : 1 ≤ kk) (kd : kk ≤ rs.length) (l11 : rs.length + 1 ≤ 11) (z : ∀ i, i + 2 ≤ kk → rs[i]? = some 0) (a : ∃ a, rs[kk - 1]? = some a ∧ a ≠ 0) : CrZ (1 :: rs) kk (cM (60 * d)) := by
  have D0 : 0 < 60 * d := by omega
  have Dl : 60 * d ≤ 2 ^ 13 := by omega
  have sr : ∀ j, ser (1 :: rs) (j + 1) = rs.getD j 0 := fun j => rfl
  have dr : ∀ j, Dq (60 * d) 43 (rs.getD j 0) := fun j => by
    rw [List.getD_eq_getElem?_getD]
    cases e : rs[j]? with
    | none => exact Dq.zero
    | some r => exact tl_d d0 d9 (hr r (List.mem_of_getElem? e))
  have hS : CrS (60 * d) 64 (1 :: rs) := by
    refine ⟨rfl, fun j hj => ?_⟩
    cases j with
    | zero => exact Dq.one (by rw [Nat.pow_zero]; decide)
    | succ j =>
      rw [sr]
      have pw : (60 * d) ^ j ≤ 2 ^ (13 * j) := by
        rw [Nat.pow_mul]
        exact Nat.pow_le_pow_left Dl j
      exact ((dr j).up (M := (60 * d) ^ (j + 1)) (C := 13 * j) ((60 * d) ^ j) (by rw [Nat.pow_succ, Nat.mul_comm]) pw).mono (by omega)
  have ca : CrA (cM (60 * d)) (1 :: rs) := hS.all (by show 1 ≤ rs.length + 1; omega) l11 D0 Dl (by decide)
  obtain ⟨a, ea, a0⟩ := a
  have ak : ser (1 :: rs) kk = a := by
    obtain ⟨m, rfl⟩ : ∃ m, kk = m + 1 := ⟨kk - 1, by omega⟩
    rw [sr, List.getD_eq_getElem?_getD]
    rw [show m + 1 - 1 = m by omega] at ea
    rw [ea]
    rfl
  have lo : ∀ j, 1 ≤ j → j < kk → ser (1 :: rs) j = 0 := fun j j1 jk => by
    obtain ⟨m, rfl⟩ : ∃ m, j = m + 1 := ⟨j - 1, by omega⟩
    rw [sr, List.getD_eq_getElem?_getD, z m (by omega)]
    rfl
  have hC : CrC (1 :: rs) kk (cM (60 * d)) := ⟨rfl, lo, by rw [ak]; exact a0, k1, by show kk < rs.length + 1; omega, l11, ca⟩
  have da : Dq (60 * d) 43 (ser (1 :: rs) kk) := by
    obtain ⟨m, rfl⟩ : ∃ m, kk = m + 1 := ⟨kk - 1, by omega⟩
    rw [sr]
    exact dr m
  refine ⟨hC, ?_, ?_⟩
  · exact da.ok ⟨D0, Nat.lt_of_le_of_lt Dl (Nat.pow_lt_pow_right (by decide) (by decide))⟩ (by decide)
  · refine clk_sz ca rfl lo hC.fn k1 l11 hC.a0 (da.mono (by decide)) ⟨fc 10 * (60 * d) ^ 9, ?_, ?_⟩
    · unfold cM
      rw [Nat.pow_succ (60 * d) 9, ← Nat.mul_assoc, Nat.mul_comm]
    · have h1 : (60 * d) ^ 9 ≤ (2 ^ 13) ^ 9 := Nat.pow_le_pow_left Dl 9
      have h2 := Nat.mul_le_mul (fc_le (show 10 ≤ 16 by decide)) h1
      exact Nat.le_trans h2 (by rw [← Nat.pow_mul, ← Nat.pow_add]; exact Nat.pow_le_pow_right (by decide) (by decide))
/-- numbers drawn for a tally -/
theorem tl_all {cs : List Rat} {d : Nat} (d0 : 0 < d) (d9 : d ≤ 99) (h : ∀ r ∈ cs, TlQ d r) : AllD (60 * d) 43 cs := fun r hr => tl_d d0 d9 (h r hr)
theorem sm60 {d : Nat} (d0 : 0 < d) (d9 : d ≤ 99) : SmL (60 * d) := ⟨by omega, Nat.lt_of_le_of_lt (show 60 * d ≤ 2 ^ 13 by omega) (Nat.pow_lt_pow_right (by decide) (by decide))⟩
theorem sm60M {d M : Nat} (d0 : 0 < d) (d9 : d ≤ 99) (m0 : 0 < M) (m : M < 2 ^ 180) : SmL (60 * d * M) := ⟨Nat.mul_pos (by omega) m0, by
  have := Nat.mul_le_mul (show 60 * d ≤ 2 ^ 13 by omega) (Nat.le_of_lt m)
  rw [← Nat.pow_add] at this
  exact Nat.lt_of_le_of_lt this (Nat.pow_lt_pow_right (by decide) (by decide))⟩
end Kx
end
section
set_option maxHeartbeats 4000000
namespace Kx
open PySem PySem.Spec PyProof.Rows L2 RZ
theorem le_at {X : Cx} (K : PySem.W.Frag) (h : X.K = K) : CallR X (.builtin "len") (fun xs H Q => ∃ (p : Addr) (ys : List V), xs = [V.ref p] ∧ (SqL K H p ys ∨ SqT K H p ys) ∧ Q (V.int (ys.length : Nat)) H) := by
  subst h
  exact call_len_seq
/-! ### tallies and steps that do not fit -/
structure KitR (P : Program) (w : World) (K : PySem.W.Frag) (mg : Str → Option Value) (base : Heap) (C S TA CF CO : Addr) (cs : _root_.Fin 4 → Addr) : Prop where
  sk : StepK P w K mg base C S CF CO
  tk : TaK P w K mg base TA
  draw : Use P w K mg base CX0 1 "_law_draw" ["_law_bag_here", "_law_many_y"] spDraw []
  noc : Use P w K mg base CX0 5 "_law_no_creep" ["_law_bag_here", "_law_deg"] (spNoc K) []
  cer : Use P w K mg base CX0 2 "_law_creep_error" ["_law_f"] (spCer K) []
  nms : Use P w K mg base CX0 3 "_law_nums" ["_law_bag_here", "_law_kk", "_law_deg"] (spNms K) []
  lik : Use P w K mg base CX0 5 "_law_same" ["_law_found", "_law_due"] (spLike K 3) []
  gai : UseI P w K mg base (L2.CX P w) 7 "gain" ["tally", "creep"] (spGai K S TA (cs 0) (cs 1) (cs 2) (cs 3))
  clk : Use P w K mg base (L2.CX P w) 9 "clock_of" ["creep"] (spClk K S TA (cs 1) (cs 2)) [["creep"]]
  Z : Errs4 P w K mg base cs
  ask : ∃ (g : Addr) (fd : FuncData), Fun K "_law_try" "_law_try" L_try g fd ∧ Binds K fd ["_law_ask"] [] ∧ mg "_law_try" = some (.ref g)
  mn : mg "len" = none
abbrev nRef : List Str := ["_law_bag_here", "_law_f", "_law_kk", "_law_deg", "_law_g", "_law_top", "_law_kt", "_law_due", "_law_more", "_law_thing"]
def spRef (K : PySem.W.Frag) (T : List (Addr × Str)) : Sp := fun vs H Q _ => ∃ (n : Nat) (B p : Addr) (x : V) (us : List Rat) (kk M : Nat), vs = [.ref B, x, .int (kk : Nat)] ∧ Bag (n + 100) H B p ∧ Ls K H x (0 :: us) ∧ x ≠ .ref B ∧ CrZ us kk M ∧ LamX.Tabs T H ∧ ∀ H', Bag n H' B p → Go B H H' → LamX.Tabs T H' → Q (.bl true) H'
/-- the deed's due, the flats alone -/
def DueF (K : PySem.W.Frag) (G : Hp) (v : V) (qs : List Rat) (kt kk : Nat) : Prop := (serS qs 1 ≠ 1 ∧ ∃ t y, v = .ref t ∧ G t = some (.tup [.str "NotSlow", y]) ∧ Nq K G y (serS qs 1)) ∨ (qs = stL qs.length ∧ ∃ t, v = .ref t ∧ G t = some (.tup [.str "IsStill", .int (qs.length : Nat)])) ∨ (serS qs 1 = 1 ∧ qs ≠ stL qs.length ∧ ∃ t, v = .ref t ∧ ((kt = kk ∧ G t = some (.tup [.str "", .bl true])) ∨ (kt ≠ kk ∧ G t = some (.tup [.str "UnlikeFlats", .int (kt : Nat), .int (kk : Nat)]))))
def DueR (K : PySem.W.Frag) (G : Hp) (v : V) (qs : List Rat) (top deg kt kk : Nat) : Prop := (top ≠ deg ∧ ∃ t, v = .ref t ∧ G t = some (.tup [.str "UnlikeOrders", .int (top : Nat), .int (deg : Nat)])) ∨ (top = deg ∧ DueF K G v qs kt kk)
theorem DueR.go {K : PySem.W.Frag} {nb : Nat} {H H' : Hp} {B p : Addr} {v : V} {qs : List Rat} {top deg kt kk : Nat} (h : DueR K H v qs top deg kt kk) (b : Bag nb H B p) (s : Go B H H') : DueR K H' v qs top deg kt kk := by
  rcases h with ⟨n, t, e, ht⟩ | ⟨n, ⟨a, t, y, e, ht, ny⟩ | ⟨a, t, e, ht⟩ | ⟨a, a', t, e, ⟨k, ht⟩ | ⟨k, ht⟩⟩⟩
  · exact .inl ⟨n, t, e, tup_go ht b s⟩
  · exact .inr ⟨n, .inl ⟨a, t, y, e, tup_go ht b s, ny.go b s⟩⟩
  · exact .inr ⟨n, .inr (.inl ⟨a, t, e, tup_go ht b s⟩)⟩
  · exact .inr ⟨n, .inr (.inr ⟨a, a', t, e, .inl ⟨k, tup_go ht b s⟩⟩)⟩
  · exact .inr ⟨n, .inr (.inr ⟨a, a', t, e, .inr ⟨k, tup_go ht b s⟩⟩)⟩
theorem TaAt.ext {K : PySem.W.Frag} {nb : Nat} {TA B p : Addr} {H H' : Hp} {v : V} {fl : Nat} {cs : List Rat} (h : TaAt K TA H v fl cs) (b : Bag nb H B p) (s : LamX.ExtN H H') : TaAt K TA H' v fl cs := by
  obtain ⟨x, dx, b', xs, lg, e, h1, h2, h3, h4, h5⟩ := h
  exact ⟨x, dx, b', xs, lg, e, s _ _ h1 (fun ps z => by cases z), s _ _ h2 (fun ps z => by cases z), h3.go b (Go.ext s), h4.imp id (fun h => ⟨h.1, h.2.go b (Go.ext s)⟩), h5⟩
theorem lk_tup {K : PySem.W.Frag} {H : Hp} {n : Nat} {a b : Addr} {xs ys : List V} (e1 : H a = some (.tup xs)) (e2 : H b = some (.tup ys)) (l : xs.length ≤ 60) (p : Paired (Lk K n H) xs ys) : Lk K (n + 1) H (.ref a) (.ref b) := .inr ⟨a, b, xs, ys, rfl, rfl, l, p, .inr ⟨.inl e1, .inl e2⟩⟩
theorem st_ser {n : Nat} (e : serS (stL n) 1 ≠ 1) : False := e rfl
/-- what stands all the while -/
structure Jr (T : List (Addr × Str)) (m : Nat) (B p : Addr) (H0 G : Hp) : Prop where
  b : Bag m G B p
  g : Go B H0 G
  t : LamX.Tabs T G
theorem Jr.same {T : List (Addr × Str)} {m : Nat} {B p : Addr} {H0 G G' : Hp} (j : Jr T m B p H0 G) (s : Same G G') : Jr T m B p H0 G' := ⟨j.b.same s, j.g.trans (Go.same s), j.t.ext s⟩
theorem Jr.go {T : List (Addr × Str)} {m n : Nat} {B p : Addr} {H0 G G' : Hp} (j : Jr T m B p H0 G) (b : Bag n G' B p) (u : But B G G') : Jr T n B p H0 G' := ⟨b, j.g.trans (Go.of u), tabs_but j.t j.b u⟩
theorem Jr.less {T : List (Addr × Str)} {m n : Nat} {B p : Addr} {H0 G : Hp} (j : Jr T m B p H0 G) (l : n ≤ m) : Jr T n B p H0 G := ⟨j.b.less l, j.g, j.t⟩
theorem Jr.ext {T : List (Addr × Str)} {m : Nat} {B p : Addr} {H0 G G' : Hp} (j : Jr T m B p H0 G) (x : LamX.ExtN G G') (t : LamX.Tabs T G') : Jr T m B p H0 G' := ⟨j.b.ext x, j.g.trans (Go.ext x), t⟩
section
variable {P : Program} {w : World} {K : PySem.W.Frag} {mg : Str → Option Value} {base : Heap} {f c Pt C S TA CF CO : Addr} {cs : _root_.Fin 4 → Addr} {fd : FuncData} {T : List (Addr × Str)}
theorem scRef : FnScope nRef ["_law_bag_here", "_law_f", "_law_kk"] (defScope L_refused) := ⟨rfl, rfl, rfl, by decide +kernel, rfl, by decide +kernel, by decide +kernel⟩
theorem ok_lref (F : FunC K "_law_refused" "_law_refused" L_refused f fd c) (U : KitR P w K mg base C S TA CF CO cs)
    (TB : LamX.TabB base mg c Pt) (hmT : (Pt, ((("_law_refused" : Str) ++ ".<locals>.") ++ "<lambda>" : Str)) ∈ T) (hu : ∀ p ∈ T, p.1 = Pt → p.2 = ((("_law_refused" : Str) ++ ".<locals>.") ++ "<lambda>" : Str)) : FnOk P w K mg base CX0 12 f fd ["_law_bag_here", "_law_f", "_law_kk"] (spRef K T) := by
  refine F.ok scRef (fun vs H Q E h => ?_) (fun A outer s H vs Q E hr h => ?_)
  · obtain ⟨n, B, p, x, us, kk, M, rfl, _⟩ := h
    rfl
  obtain ⟨n, B, p, x, us, kk, M, rfl, hb, hx, xB, hZ, hT, gq⟩ := h
  have hr1 := hr.mono (show 1 ≤ 11 by decide)
  have hr2 := hr.mono (show 2 ≤ 11 by decide)
  have hr3 := hr.mono (show 3 ≤ 11 by decide)
  have hr5 := hr.mono (show 5 ≤ 11 by decide)
  have hr7 := hr.mono (show 7 ≤ 11 by decide)
  obtain ⟨fI, fdI, MI, FI, bI⟩ := U.sk.ini
  obtain ⟨fT, fdT, MT, FT, bT⟩ := U.tk.ini
  obtain ⟨gA, fdA, FA, bA, mA⟩ := U.ask
  obtain ⟨oc, od, kV, doc, pm, an, cdv, ct, osl, rfl, lkA, hcdA⟩ := FA.ex
  refine ⟨_, (C8.pss_cut (ps_set (i := 3) scRef.nd rfl (Or.inr rfl) (pe_op op_sub (pe_callB call_len_seq rfl U.mn PySem.boot_len (pa_cons (pv 1) pa_nil)) pe_int))
    (C8.pss_cut (ps_set (i := 4) scRef.nd rfl (Or.inl rfl) (pe_ifExp (pt_cmpR op_eq (pe_use U.draw hr1 rfl pass0 (pa_cons (pv 0) (pa_cons pe_int pa_nil))) pe_int (nomark _)) (pv 1) (pe_use U.noc hr5 rfl pass0 (pa_cons (pv 0) (pa_cons (pv 3) pa_nil)))))
    (C8.pss_cut (ps_set (i := 5) scRef.nd rfl (Or.inl rfl) (pe_ifExp (pt_cmpR op_eq (pe_use U.draw hr1 rfl pass0 (pa_cons (pv 0) (pa_cons pe_int pa_nil))) pe_int (nomark _)) (pv 3) (pe_op op_add pe_int (pe_use U.draw hr1 rfl pass0 (pa_cons (pv 0) (pa_cons pe_int pa_nil))))))
    (C8.pss_cut (ps_set (i := 6) scRef.nd rfl (Or.inl rfl) (pe_op op_add pe_int (pe_use U.draw hr1 rfl pass0 (pa_cons (pv 0) (pa_cons (pe_op op_sub (pv 5) pe_int) pa_nil)))))
    (C8.pss_cut (ps_set (i := 7) scRef.nd rfl (Or.inl rfl) (pe_use U.cer hr2 rfl pass0 (pa_cons (pv 4) pa_nil)))
    (C8.pss_cut (ps_if (pt_cmpR op_isN (pv 7) pe_non (nomark _)) (pss_one (ps_set (i := 7) scRef.nd rfl (Or.inl rfl) (pe_ifExp (pt_cmpR op_eq (pv 6) (pv 2) (nomark _)) (pe_tup (pa_cons pe_str (pa_cons pe_bl pa_nil))) (pe_tup (pa_cons pe_str (pa_cons (pv 6) (pa_cons (pv 2) pa_nil))))))) pss_nil)
    (C8.pss_cut (ps_if (pt_cmpR op_ne (pv 5) (pv 3) (nomark _)) (pss_one (ps_set (i := 7) scRef.nd rfl (Or.inl rfl) (pe_tup (pa_cons pe_str (pa_cons (pv 5) (pa_cons (pv 3) pa_nil)))))) pss_nil)
    (C8.pss_cut (ps_asg (pe_tup (pa_cons (pe_make (E := fun _ _ _ => False) MT FT hr7 rfl U.tk.m bT .nil passF (pa_cons (pv 6) (pa_cons (pe_use U.nms hr3 rfl pass0 (pa_cons (pv 0) (pa_cons (pv 6) (pa_cons (pv 5) pa_nil)))) pa_nil))) (pa_cons (pe_make (E := fun _ _ _ => False) MI FI hr7 rfl U.sk.m bI .nil passF (pa_cons (pe_slice sl_list (pv 4) (po_some pe_int) po_none) pa_nil)) pa_nil))) (pg_tup rfl (pgs_cons (pg_name (i := 8) scRef.nd rfl (Or.inr rfl)) (pgs_cons (pg_name (i := 9) scRef.nd rfl (Or.inr rfl)) pgs_nil))))
    (C8.pss_cut (ps_if (pt_not (pt_val (pe_use U.lik hr5 rfl pass0 (pa_cons (LamX.pe_lamcall (k := 9) (t := fun E => tOp rEq (tCB (fun xs H Q => ∃ (p : Addr) (ys : List V), xs = [V.ref p] ∧ (SqL K H p ys ∨ SqT K H p ys) ∧ Q (V.int (ys.length : Nat)) H) (tCons (tCallI 2 (spGai K S TA (cs 0) (cs 1) (cs 2) (cs 3)) E (tCons (tVar 8) (tCons (tVar 9) tNil))) tNil)) (tOp (rI0 fun i j => V.int (i - j)) (tVar 3) (tVar 2))) (TT := TTry cs) rfl mA FA.kp lkA hcdA bA scTry rfl (Or.inl rfl) (try_gives U.Z) TB rfl hmT hu hr (LamX.lamS_by (show LamX.lamSB (defScope L_refused) _ = true by decide +kernel)) rfl (fun _ _ _ _ _ => rfl)
        (fun A outer s H E f c' hk => (pe_cmpR op_eq (pe_callB (le_at K rfl) rfl U.mn PySem.boot_len (pa_cons (pe_useI (E := E) U.gai (hk.mono (by decide)) rfl (passes_call (takes_of rfl rfl rfl rfl) (fun _ _ _ _ h => h)) (pk_cons (pv 8) (pk_cons (pv 9) pk_nil))) pa_nil)) (pe_op op_sub (pv 3) (pv 2)) (nomark _)))) (pa_cons (pv 7) pa_nil))))) (pss_one (ps_ret pe_bl)) pss_nil)
    (C8.pss_cut (ps_set (i := 7) scRef.nd rfl (Or.inl rfl) (pe_use U.cer hr2 rfl pass0 (pa_cons (pv 4) pa_nil)))
    (pss_one (ps_ret (pe_use U.lik hr5 rfl pass0 (pa_cons (LamX.pe_lamcall (k := 9) (t := fun E => tOp rEq (tFld K (tCall (spClk K S TA (cs 1) (cs 2)) [] E (tCons (tVar 9) tNil)) "order") (tVar 3)) (TT := TTry cs) rfl mA FA.kp lkA hcdA bA scTry rfl (Or.inl rfl) (try_gives U.Z) TB rfl hmT hu hr (LamX.lamS_by (show LamX.lamSB (defScope L_refused) _ = true by decide +kernel)) rfl (fun _ _ _ _ _ => rfl)
        (fun A outer s H E f c' hk => (pe_cmpR op_eq (pe_fld (pe_use (E := E) U.clk hk rfl (passes_call (takes_of rfl rfl rfl rfl) (fun _ _ _ _ h => h)) (pa_cons (pv 9) pa_nil)) rfl) (pv 3) (nomark _)))) (pa_cons (pe_ifExp (pt_cmpR op_isN (pv 7) pe_non (nomark _)) (pe_tup (pa_cons pe_str (pa_cons pe_bl pa_nil))) (pv 7)) pa_nil))))))))))))))), ?_⟩
  have hC := hZ.c
  have f1 := hC.f1
  have fn := hC.fn
  have l11 := hC.l11
  obtain ⟨xa, xs, rfl, hxa, nx⟩ := id hx
  have lx : xs.length = us.length + 1 := nx.1
  have j0 : Jr T (n + 100) B p H H := ⟨hb, Go.refl, hT⟩
  refine ⟨fun σ G => σ = [some (.ref B), some (.ref xa), some (.int (kk : Nat)), some (.int (us.length : Nat)), none, none, none, none, none, none] ∧ Jr T (n + 100) B p H G ∧ Ls K G (.ref xa) (0 :: us), ?_, ?_⟩
  · refine ⟨_, rfl, xa, xs, rfl, .inl (SqL.of hxa), (xs.length : Nat), 1, rfl, rfl, ?_, j0, hx⟩
    show List.set _ 3 (some (V.int (((xs.length : Nat) : Int) - 1))) = _
    rw [show ((xs.length : Nat) : Int) - 1 = ((us.length : Nat) : Int) by omega]
    rfl
  clear hb hT hx hxa j0 nx
  rintro σ G ⟨rfl, j, hx⟩
  refine ⟨fun σ G => ∃ vg qs, σ = [some (.ref B), some (.ref xa), some (.int (kk : Nat)), some (.int (us.length : Nat)), some vg, none, none, none, none, none] ∧ Jr T (n + 56) B p H G ∧ Ls K G vg (0 :: qs) ∧ qs.length = us.length ∧ (qs = us ∨ (qs = stL qs.length ∨ serS qs 1 ≠ 1)), ?_, ?_⟩
  · refine ⟨_, rfl, n + 99, B, p, 3, rfl, by decide, by decide, j.b, fun H2 k b2 u2 k0 k1 => ⟨rfl, _, rfl, ite2 (fun _ => ?_) (fun _ => ?_)⟩⟩
    · exact ⟨_, rfl, .ref xa, us, rfl, (j.go b2 u2).less (by omega), hx.go (by show 2 ≤ us.length + 1; omega) j.b (Go.of u2), rfl, .inl rfl⟩
    · refine ⟨_, rfl, _, rfl, n + 56, B, p, us.length, rfl, b2, by omega, by omega, fun H3 v qs b3 u3 lv lq fq ne => ?_⟩
      exact ⟨v, qs, rfl, (j.go b2 u2).go b3 u3, lv, lq, .inr (by rw [lq]; exact ne)⟩
  clear j hx
  rintro σ G ⟨vg, qs, rfl, j, hg, lq, hq⟩
  refine ⟨fun σ G => ∃ top : Nat, σ = [some (.ref B), some (.ref xa), some (.int (kk : Nat)), some (.int (us.length : Nat)), some vg, some (.int (top : Nat)), none, none, none, none] ∧ Jr T (n + 54) B p H G ∧ Ls K G vg (0 :: qs) ∧ 2 ≤ top ∧ top ≤ 11, ?_, ?_⟩
  · refine ⟨_, rfl, n + 55, B, p, 2, rfl, by decide, by decide, j.b, fun H2 k b2 u2 k0 k1 => ⟨rfl, _, rfl, ite2 (fun _ => ?_) (fun _ => ?_)⟩⟩
    · exact ⟨_, rfl, us.length, rfl, (j.go b2 u2).less (by omega), hg.go (by rw [List.length_cons]; omega) j.b (Go.of u2), by omega, by omega⟩
    · refine ⟨_, rfl, n + 54, B, p, 7, rfl, by decide, by decide, b2, fun H3 d b3 u3 d0 d1 => ?_⟩
      obtain ⟨d, rfl⟩ := Int.eq_ofNat_of_zero_le d0
      exact ⟨2, _, rfl, rfl, 2 + d, by rw [Int.natCast_add]; rfl, (j.go b2 u2).go b3 u3, hg.go (by rw [List.length_cons]; omega) j.b (Go.of (u2.trans u3)), by omega, by omega⟩
  clear j hg
  rintro σ G ⟨top, rfl, j, hg, t2, t11⟩
  refine ⟨fun σ G => ∃ kt : Nat, σ = [some (.ref B), some (.ref xa), some (.int (kk : Nat)), some (.int (us.length : Nat)), some vg, some (.int (top : Nat)), some (.int (kt : Nat)), none, none, none] ∧ Jr T (n + 53) B p H G ∧ Ls K G vg (0 :: qs) ∧ 1 ≤ kt ∧ kt + 1 ≤ top, ?_, ?_⟩
  · refine ⟨_, rfl, _, rfl, _, 1, rfl, rfl, n + 53, B, p, _, rfl, by omega, by omega, j.b, fun H3 d b3 u3 d0 d1 => ?_⟩
    obtain ⟨d, rfl⟩ := Int.eq_ofNat_of_zero_le d0
    exact ⟨1, _, rfl, rfl, 1 + d, by rw [Int.natCast_add]; rfl, j.go b3 u3, hg.go (by rw [List.length_cons]; omega) j.b (Go.of u3), by omega, by omega⟩
  clear j hg
  rintro σ G ⟨kt, rfl, j, hg, k1, ktt⟩
  refine ⟨fun σ G => ∃ vd, σ = [some (.ref B), some (.ref xa), some (.int (kk : Nat)), some (.int (us.length : Nat)), some vg, some (.int (top : Nat)), some (.int (kt : Nat)), some vd, none, none] ∧ Jr T (n + 53) B p H G ∧ Ls K G vg (0 :: qs) ∧ CeV K G vd qs, ?_, ?_⟩
  · exact ⟨_, rfl, vg, qs, rfl, hg, by omega, by omega, fun H' v s cv => ⟨v, rfl, j.same s, hg.same s, cv⟩⟩
  clear j hg
  rintro σ G ⟨vd, rfl, j, hg, cv⟩
  refine ⟨fun σ G => ∃ vd, σ = [some (.ref B), some (.ref xa), some (.int (kk : Nat)), some (.int (us.length : Nat)), some vg, some (.int (top : Nat)), some (.int (kt : Nat)), some vd, none, none] ∧ Jr T (n + 53) B p H G ∧ Ls K G vg (0 :: qs) ∧ DueF K G vd qs kt kk, ?_, ?_⟩
  · refine ⟨_, rfl, rfl, _, rfl, ite2 (fun hd => ?_) (fun hd => ?_)⟩
    · have e0 : vd = .non := of_decide_eq_true hd
      obtain ⟨c1, c2⟩ : serS qs 1 = 1 ∧ qs ≠ stL qs.length := by
        rcases cv with ⟨_, t, y, e, _⟩ | ⟨_, t, e, _⟩ | ⟨c1, c2, _⟩
        · rw [e0] at e; cases e
        · rw [e0] at e; cases e
        · exact ⟨c1, c2⟩
      refine ⟨_, rfl, _, rfl, rfl, _, rfl, ite2 (fun hk => ?_) (fun hk => ?_)⟩
      · refine ⟨(by show 2 ≤ sizeLine; decide), fun t nt => ⟨_, rfl, j.same (new_same nt _), hg.same (new_same nt _), .inr (.inr ⟨c1, c2, t, rfl, .inl ⟨?_, upd_same⟩⟩)⟩⟩
        have := V.int.inj (of_decide_eq_true hk)
        omega
      · refine ⟨_, rfl, _, rfl, (by show 3 ≤ sizeLine; decide), fun t nt => ⟨_, rfl, j.same (new_same nt _), hg.same (new_same nt _), .inr (.inr ⟨c1, c2, t, rfl, .inr ⟨fun z => hk (by rw [z]; exact decide_eq_true rfl), upd_same⟩⟩)⟩⟩
    · refine ⟨vd, rfl, j, hg, ?_⟩
      rcases cv with h | h | ⟨_, _, e⟩
      · exact .inl h
      · exact .inr (.inl h)
      · exact absurd (decide_eq_true e) hd
  clear j hg cv
  rintro σ G ⟨vd, rfl, j, hg, cv⟩
  refine ⟨fun σ G => ∃ vd, σ = [some (.ref B), some (.ref xa), some (.int (kk : Nat)), some (.int (us.length : Nat)), some vg, some (.int (top : Nat)), some (.int (kt : Nat)), some vd, none, none] ∧ Jr T (n + 53) B p H G ∧ Ls K G vg (0 :: qs) ∧ DueR K G vd qs top us.length kt kk, ?_, ?_⟩
  · refine ⟨_, rfl, _, rfl, rfl, _, rfl, ?_⟩
    by_cases c : top = us.length
    · rw [show (decide (V.int (top : Nat) = V.int (us.length : Nat))) = true from by rw [c]; exact decide_eq_true rfl]
      exact iteF ⟨vd, rfl, j, hg, .inr ⟨c, cv⟩⟩
    · rw [show (decide (V.int (top : Nat) = V.int (us.length : Nat))) = false from decide_eq_false fun z => c (by have := V.int.inj z; omega)]
      refine iteT ⟨_, rfl, _, rfl, (by show 3 ≤ sizeLine; decide), fun t nt => ⟨_, rfl, j.same (new_same nt _), hg.same (new_same nt _), .inl ⟨c, t, rfl, upd_same⟩⟩⟩
  clear j hg cv
  rintro σ G ⟨vd, rfl, j, hg, due⟩
  refine ⟨fun σ G => ∃ vm vs cs d, σ = [some (.ref B), some (.ref xa), some (.int (kk : Nat)), some (.int (us.length : Nat)), some vg, some (.int (top : Nat)), some (.int (kt : Nat)), some vd, some vm, some vs] ∧ Jr T n B p H G ∧ Ls K G vg (0 :: qs) ∧ DueR K G vd qs top us.length kt kk ∧ TaAt K TA G vm kt cs ∧ StF K S G vs qs ∧ cs.length = top - kt ∧ 0 < d ∧ d ≤ 99 ∧ (∀ r ∈ cs, TlQ d r), ?_, ?_⟩
  · refine ⟨_, rfl, _, rfl, _, rfl, _, rfl, n + 13, B, p, kt, top, rfl, j.b, by omega, by omega, fun H2 v cs d b2 u2 vB hv lcs d0 d9 tl => ?_⟩
    obtain ⟨va, vs, rfl, hva, nv⟩ := hv
    have j2 := j.go b2 u2
    have hg2 := hg.go (by rw [List.length_cons]; omega) j.b (Go.of u2)
    have due2 := due.go j.b (Go.of u2)
    refine fun x1 d1 nx1 nd1 ne1 => tally_new hva nv k1 (by omega) (by omega) (by omega) nx1 nd1 ne1 fun G2 s3 hTa => ⟨rfl, ?_⟩
    obtain ⟨ga, gs, rfl, hga, ng⟩ := hg2.same s3
    refine ⟨_, rfl, 1, rfl, ga, gs, rfl, SqL.of hga, fun pp np => ?_⟩
    rw [show cutV gs (some 1) none = gs.drop 1 from cut_drop gs 1]
    have s4 := new_same np (HO.lst (gs.drop 1))
    refine fun x2 d2 nx2' nd2 ne2 => step_newF (.inl upd_same) ((ng.drop 1).same s4) (by show 2 ≤ qs.length; omega) (by show qs.length ≤ 24; omega) nx2' nd2 ne2 fun G3 s5 hS => ⟨rfl, ?_⟩
    refine ⟨(by show 2 ≤ sizeLine; decide), fun t nt => ?_⟩
    have s6 := new_same nt (HO.tup [V.ref x1, V.ref x2])
    have s36 := s3.trans (s4.trans (s5.trans s6))
    exact ⟨t, _, rfl, SqT.of upd_same, rfl, _, _, rfl, _, _, rfl, rfl, .ref x1, .ref x2, cs, d, rfl, (j2.same s36).less (by omega), hg2.same s36, (due2.go b2 (Go.same s36)), hTa.same (s4.trans (s5.trans s6)), hS.same s6, lcs, d0, d9, tl⟩
  clear j hg due
  rintro σ G ⟨vm, vs, ds, d, rfl, j, hg, due, hTa, hS, lcs, d0, d9, tl⟩
  refine ⟨fun σ G => ∃ vm vd vx, σ = [some (.ref B), some (.ref xa), some (.int (kk : Nat)), some (.int (us.length : Nat)), some vg, some (.int (top : Nat)), some (.int (kt : Nat)), some vd, some vm, some vx] ∧ Jr T n B p H G ∧ Ls K G vg (0 :: qs) ∧ StF K S G vx qs, ?_, ?_⟩
  · refine ⟨j.t, fun H3 x3 T3 => ?_⟩
    have j3 := j.ext x3 T3
    have hg3 := hg.go (by rw [List.length_cons]; omega) j.b (Go.ext x3)
    have hTa3 := hTa.ext j.b x3
    have hS3 := hS.go j.b (Go.ext x3)
    have due3 := due.go j.b (Go.ext x3)
    have top_e : (kt : Int) + (ds.length : Int) = (top : Int) := by omega
    refine ⟨_, rfl, _, rfl, rfl, vm, vs, kt, ds, qs, rfl, hTa3, hS3, fun hne => ?_, fun heq => ?_⟩
    · refine air_uo fun t H4 s4 e4 => ?_
      rcases due3 with ⟨_, u, rfl, hu'⟩ | ⟨e, _⟩
      · rw [top_e, lq] at e4
        exact ⟨_, rfl, .ref t, .ref u, rfl, lk_tup e4 (s4 _ _ hu') (Nat.le_add_right 3 57) (.cons (Lk.flat rfl) (.cons (Lk.flat rfl) (.cons (Lk.flat rfl) .nil))), fun H6 s6 => ⟨_, rfl, ite2 (fun z => by cases z) (fun _ => ⟨_, _, _, rfl, (j3.same s4).same s6, (hg3.same s4).same s6, (hS3.same s4).same s6⟩)⟩⟩
      · exact absurd (by omega) hne
    have due4 : DueF K H3 vd qs kt kk := by
      rcases due3 with ⟨ne, _⟩ | ⟨_, h⟩
      · exact absurd (by omega) ne
      · exact h
    clear due3 due
    rcases hq with rfl | hq
    · refine ce_creep hC ⟨kk, M, hC, fun ne => ?_, fun e => ?_⟩
      · refine air_uf fun t H4 s4 e4 => ?_
        rcases due4 with ⟨c1, _⟩ | ⟨c1, _⟩ | ⟨_, _, u, rfl, ⟨c, _⟩ | ⟨_, hu'⟩⟩
        · exact absurd (show serS qs 1 = 1 from hC.u0) c1
        · exact absurd (((show kindS qs = "still" by rw [c1]; exact kind_still _)).symm.trans (flS_cr hC).1) (by decide)
        · exact absurd c ne
        · exact ⟨_, rfl, .ref t, .ref u, rfl, lk_tup e4 (s4 _ _ hu') (Nat.le_add_right 3 57) (.cons (Lk.flat rfl) (.cons (Lk.flat rfl) (.cons (Lk.flat rfl) .nil))), fun H6 s6 => ⟨_, rfl, ite2 (fun z => by cases z) (fun _ => ⟨_, _, _, rfl, (j3.same s4).same s6, (hg3.same s4).same s6, (hS3.same s4).same s6⟩)⟩⟩
      · refine ⟨60 * d, 43, sm60 d0 d9, by decide, tl_all d0 d9 tl, fun b5 G4 ws s5 nb5 hw nw => ?_⟩
        have lw : ws.length = qs.length - kt := by rw [nw.1, gaL_len]
        refine ⟨b5, ws, rfl, .inl (SqL.of hw), _, rfl, _, rfl, _, _, rfl, rfl, rfl, (by show 2 ≤ sizeLine; decide), fun t nt => ?_⟩
        have ed : decide (V.int ((ws.length : Nat) : Int) = V.int (((qs.length : Nat) : Int) - ((kk : Nat) : Int))) = true := by
          rw [show ((ws.length : Nat) : Int) = ((qs.length : Nat) : Int) - ((kk : Nat) : Int) by omega]
          exact decide_eq_true rfl
        rw [ed]
        have s5' := new_same nt (HO.tup [V.str "", V.bl true])
        have s4 := s5.trans s5'
        have e4 : upd G4 t (HO.tup [V.str "", V.bl true]) t = some (.tup [.str "", .bl true]) := upd_same
        rcases due4 with ⟨c1, _⟩ | ⟨c1, _⟩ | ⟨_, _, u, rfl, ⟨_, hu'⟩ | ⟨c, _⟩⟩
        · exact absurd (show serS qs 1 = 1 from hC.u0) c1
        · exact absurd (((show kindS qs = "still" by rw [c1]; exact kind_still _)).symm.trans (flS_cr hC).1) (by decide)
        · exact ⟨_, rfl, .ref t, .ref u, rfl, lk_tup e4 (s4 _ _ hu') (Nat.le_add_right 2 58) (.cons (Lk.flat rfl) (.cons (Lk.flat rfl) .nil)), fun H6 s6 => ⟨_, rfl, ite2 (fun z => by cases z) (fun _ => ⟨_, _, _, rfl, (j3.same s4).same s6, (hg3.same s4).same s6, (hS3.same s4).same s6⟩)⟩⟩
        · exact absurd e c
    · refine ce_noc hq (fun hne H' x0 s' nx0 => ?_) (fun his => ?_)
      · refine air_ns fun t H4 s4 e4 => ?_
        rcases due4 with ⟨_, u, y, rfl, hu', ny⟩ | ⟨c1, _⟩ | ⟨c1, _⟩
        · have sz := s'.trans s4
          exact ⟨_, rfl, .ref t, .ref u, rfl, lk_tup e4 (sz _ _ hu') (Nat.le_add_right 2 58) (.cons (Lk.flat rfl) (.cons ((nx0.same s4).lk (n := 1) (ny.same sz)) .nil)), fun H6 s6 => ⟨_, rfl, ite2 (fun z => by cases z) (fun _ => ⟨_, _, _, rfl, (j3.same sz).same s6, (hg3.same sz).same s6, (hS3.same sz).same s6⟩)⟩⟩
        · exact absurd (by rw [c1]; rfl) hne
        · exact absurd c1 hne
      · refine air_is fun t H4 s4 e4 => ?_
        rcases due4 with ⟨c1, _⟩ | ⟨_, u, rfl, hu'⟩ | ⟨_, c2, _⟩
        · exact absurd (by rw [his]; rfl) c1
        · exact ⟨_, rfl, .ref t, .ref u, rfl, lk_tup e4 (s4 _ _ hu') (Nat.le_add_right 2 58) (.cons (Lk.flat rfl) (.cons (Lk.flat rfl) .nil)), fun H6 s6 => ⟨_, rfl, ite2 (fun z => by cases z) (fun _ => ⟨_, _, _, rfl, (j3.same s4).same s6, (hg3.same s4).same s6, (hS3.same s4).same s6⟩)⟩⟩
        · exact absurd his c2
  clear j hg due hTa hS
  rintro σ G ⟨vm, vd, vx, rfl, j, hg, hS⟩
  refine ⟨fun σ G => ∃ vm vd vx, σ = [some (.ref B), some (.ref xa), some (.int (kk : Nat)), some (.int (us.length : Nat)), some vg, some (.int (top : Nat)), some (.int (kt : Nat)), some vd, some vm, some vx] ∧ Jr T n B p H G ∧ StF K S G vx qs ∧ CeV K G vd qs, ?_, ?_⟩
  · exact ⟨_, rfl, vg, qs, rfl, hg, by omega, by omega, fun H' v s cv => ⟨vm, v, vx, rfl, j.same s, hS.same s, cv⟩⟩
  clear j hg hS
  rintro σ G ⟨vm, vd, vx, rfl, j, hS, cv⟩
  refine ⟨j.t, fun H3 x3 T3 => ?_⟩
  have j3 := j.ext x3 T3
  have hS3 := hS.go j.b (Go.ext x3)
  refine ⟨_, rfl, vx, qs, rfl, hS3, by omega, ?_⟩
  rcases hq with rfl | hq
  · refine ce_creep hC ⟨kk, M, hC, hZ.slv, fun k hk => hZ.dg hk, fun H4 y s4 hT => ?_⟩
    obtain ⟨ya, dy, yb, ys, lg, rfl, h1, _, _, _, _⟩ := hT
    have ev : vd = .non := by
      rcases cv with ⟨c1, _⟩ | ⟨c1, _⟩ | ⟨_, _, e⟩
      · exact absurd (show serS qs 1 = 1 from hC.u0) c1
      · exact absurd (((show kindS qs = "still" by rw [c1]; exact kind_still _)).symm.trans (flS_cr hC).1) (by decide)
      · exact e
    refine ⟨ya, TA, dy, _, _, rfl, h1, U.tk.c, U.tk.nA _ (by simp [taN]), rfl, _, rfl, rfl, (by show 2 ≤ sizeLine; decide), fun t nt => ?_⟩
    have ed : decide (V.int (((kk : Nat) : Int) + (((clkL qs kk).length : Nat) : Int)) = V.int ((qs.length : Nat) : Int)) = true := by
      rw [clkL_len, show ((kk : Nat) : Int) + ((qs.length - kk : Nat) : Int) = ((qs.length : Nat) : Int) by omega]
      exact decide_eq_true rfl
    rw [ed]
    have s5' := new_same nt (HO.tup [V.str "", V.bl true])
    have e4 : upd H4 t (HO.tup [V.str "", V.bl true]) t = some (.tup [.str "", .bl true]) := upd_same
    refine ⟨_, rfl, rfl, _, rfl, ite2 (fun _ => ?_) (fun z => absurd (decide_eq_true ev) z)⟩
    refine ⟨(by show 2 ≤ sizeLine; decide), fun u nu => ?_⟩
    have s6' := new_same nu (HO.tup [V.str "", V.bl true])
    refine ⟨_, _, rfl, lk_tup (s6' _ _ e4) upd_same (Nat.le_add_right 2 58) (.cons (Lk.flat rfl) (.cons (Lk.flat rfl) .nil)), fun H6 s6 => ?_⟩
    have j6 := j3.same (s4.trans (s5'.trans (s6'.trans s6)))
    exact gq _ j6.b j6.g j6.t
  · refine ce_noc hq (fun hne H' x0 s' nx0 => ?_) (fun his => ?_)
    · refine air_ns fun t H4 s4 e4 => ?_
      have cv3 : ∃ u y, vd = .ref u ∧ H3 u = some (.tup [.str "NotSlow", y]) ∧ Nq K H3 y (serS qs 1) := by
        rcases cv with ⟨_, u, y, e, hu', ny⟩ | ⟨c1, _⟩ | ⟨c1, _⟩
        · exact ⟨u, y, e, tup_go hu' j.b (Go.ext x3), ny.go j.b (Go.ext x3)⟩
        · exact absurd (by rw [c1]; rfl) hne
        · exact absurd c1 hne
      obtain ⟨u, y, rfl, hu', ny⟩ := cv3
      have sz := s'.trans s4
      refine ⟨_, rfl, rfl, _, rfl, ite2 (fun z => absurd (of_decide_eq_true z) (by simp)) (fun _ => ?_)⟩
      refine ⟨_, rfl, _, _, rfl, lk_tup e4 (sz _ _ hu') (Nat.le_add_right 2 58) (.cons (Lk.flat rfl) (.cons ((nx0.same s4).lk (n := 1) (ny.same sz)) .nil)), fun H6 s6 => ?_⟩
      have j6 := j3.same (sz.trans s6)
      exact gq _ j6.b j6.g j6.t
    · refine air_is fun t H4 s4 e4 => ?_
      have cv3 : ∃ u, vd = .ref u ∧ H3 u = some (.tup [.str "IsStill", .int (qs.length : Nat)]) := by
        rcases cv with ⟨c1, _⟩ | ⟨_, u, e, hu'⟩ | ⟨_, c2, _⟩
        · exact absurd (by rw [his]; rfl) c1
        · exact ⟨u, e, tup_go hu' j.b (Go.ext x3)⟩
        · exact absurd his c2
      obtain ⟨u, rfl, hu'⟩ := cv3
      refine ⟨_, rfl, rfl, _, rfl, ite2 (fun z => absurd (of_decide_eq_true z) (by simp)) (fun _ => ?_)⟩
      refine ⟨_, rfl, _, _, rfl, lk_tup e4 (s4 _ _ hu') (Nat.le_add_right 2 58) (.cons (Lk.flat rfl) (.cons (Lk.flat rfl) .nil)), fun H6 s6 => ?_⟩
      have j6 := j3.same (s4.trans s6)
      exact gq _ j6.b j6.g j6.t
end
end Kx
end
section
set_option maxHeartbeats 4000000
namespace Kx
open PySem PySem.Spec PyProof.Rows L2 RZ
/-- a list of any length, as far as the draws go -/
theorem Nl.goL {K : PySem.W.Frag} {nb : Nat} {H H' : Hp} {B p a : Addr} {xs : List V} {qs : List Rat} (h : Nl K H xs qs) (e : H a = some (.lst xs)) (b : Bag nb H B p) (s : Go B H H') : H' a = some (.lst xs) := by
  refine s _ _ (fun z => ?_) (fun ps z => by cases z) e
  by_cases l : 2 ≤ qs.length
  · exact h.ne l e b z
  · obtain ⟨ns, i, r, sd, c, hb, _⟩ := b.ex
    rw [z, hb] at e
    have := HO.lst.inj (Option.some.inj e)
    have l1 := h.1
    rw [← this] at l1
    have l3 : qs.length = 5 := by rw [← l1]; rfl
    omega
theorem Ls.goA {K : PySem.W.Frag} {nb : Nat} {H H' : Hp} {B p : Addr} {v : V} {qs : List Rat} (h : Ls K H v qs) (b : Bag nb H B p) (s : Go B H H') : Ls K H' v qs := by
  obtain ⟨a, xs, e, h1, h2⟩ := h
  exact ⟨a, xs, e, h2.goL h1 b s, h2.go b s⟩
theorem TaAt.go {K : PySem.W.Frag} {nb : Nat} {TA B p : Addr} {H H' : Hp} {v : V} {fl : Nat} {cs : List Rat} (h : TaAt K TA H v fl cs) (b : Bag nb H B p) (s : Go B H H') : TaAt K TA H' v fl cs := by
  obtain ⟨x, dx, b', xs, lg, e, h1, h2, h3, h4, h5⟩ := h
  exact ⟨x, dx, b', xs, lg, e, ins_go h1 b s, h3.goL h2 b s, h3.go b s, h4.imp id (fun h => ⟨h.1, h.2.go b s⟩), h5⟩
theorem bl_of : ∀ (zs : List V) {P : Nat → Bool → Prop}, (∀ (i : Nat) y, zs[i]? = some y → ∃ b, y = .bl b ∧ P i b) → ∃ bs : List Bool, zs = bs.map V.bl ∧ ∀ (i : Nat) b, bs[i]? = some b → P i b
  | [], _, _ => ⟨[], rfl, fun i b h => by simp at h⟩
  | z :: zs, P, h => by
    obtain ⟨b, rfl, pb⟩ := h 0 z rfl
    obtain ⟨bs, rfl, g⟩ := bl_of zs (P := fun i => P (i + 1)) fun i y e => h (i + 1) y e
    refine ⟨b :: bs, rfl, fun i c e => ?_⟩
    match i, e with
    | 0, e => rw [← Option.some.inj e]; exact pb
    | i + 1, e => exact g i c e
/-! ### one turn -/
structure Jo (K : PySem.W.Frag) (S TA : Addr) (T : List (Addr × Str)) (m : Nat) (B p : Addr) (H0 : Hp) (us : List Rat) (kk : Nat) (vf vt vc vn : V) (G : Hp) : Prop where
  j : Jr T m B p H0 G
  f : Ls K G vf (0 :: us)
  s : StF K S G vt us
  c : TaAt K TA G vc kk (clkL us kk)
  n : Ls K G vn (clkL us kk)
section
variable {K : PySem.W.Frag} {S TA : Addr} {T : List (Addr × Str)} {m m' : Nat} {B p : Addr} {H0 : Hp} {us : List Rat} {kk : Nat} {vf vt vc vn : V} {G G' : Hp}
theorem Jo.same (h : Jo K S TA T m B p H0 us kk vf vt vc vn G) (s : Same G G') : Jo K S TA T m B p H0 us kk vf vt vc vn G' := ⟨h.j.same s, h.f.same s, h.s.same s, h.c.same s, h.n.same s⟩
theorem Jo.go (h : Jo K S TA T m B p H0 us kk vf vt vc vn G) (b : Bag m' G' B p) (s : Go B G G') (t : LamX.Tabs T G') : Jo K S TA T m' B p H0 us kk vf vt vc vn G' := ⟨⟨b, h.j.g.trans s, t⟩, h.f.goA h.j.b s, h.s.go h.j.b s, h.c.go h.j.b s, h.n.goA h.j.b s⟩
theorem Jo.but (h : Jo K S TA T m B p H0 us kk vf vt vc vn G) (b : Bag m' G' B p) (u : But B G G') : Jo K S TA T m' B p H0 us kk vf vt vc vn G' := h.go b (Go.of u) (tabs_but h.j.t h.j.b u)
end
structure KitO (P : Program) (w : World) (K : PySem.W.Frag) (mg : Str → Option Value) (base : Heap) (C S TA CF CO : Addr) (cs : _root_.Fin 4 → Addr) (T : List (Addr × Str)) : Prop where
  a : Kit24 P w K mg base C S TA CF CO cs
  r : KitR P w K mg base C S TA CF CO cs
  ord : Use P w K mg base CX0 3 "_law_order" ["_law_bag_here"] spOrd []
  fla : Use P w K mg base CX0 3 "_law_flat" ["_law_bag_here", "_law_deg"] spFla []
  cre : Use P w K mg base CX0 5 "_law_creep" ["_law_bag_here", "_law_deg", "_law_kk"] (spCre K) []
  nus : MUse P w K mg base CX0 1 TA "numbers" ["self"] (spTnu K TA) []
  ifr : Use P w K mg base CX0 2 "_law_is_fraction" ["_law_p"] (spIfr K) []
  ity : Use P w K mg base CX0 6 "_law_is_tally" ["_law_told", "_law_nums_here", "_law_kk"] (spIty K TA) []
  ist : Use P w K mg base CX0 6 "_law_is_step" ["_law_told", "_law_f"] (spIst K S) []
  spo : Use P w K mg base CX0 8 "_law_spoilt" ["_law_bag_here", "_law_f", "_law_nums_here", "_law_kk"] (spSpo K) []
  ref : Use P w K mg base CX0 12 "_law_refused" ["_law_bag_here", "_law_f", "_law_kk"] (spRef K T) []
  isT : IsS K TA
  mI : mg "isinstance" = none
  ma : mg "all" = none
abbrev nOnc : List Str := ["_law_bag_here", "_law_deg", "_law_kk", "_law_f", "_law_thing", "_law_told", "_law_nums_here", "_law_p", "_law_found", "_law_more"]
def spOnc (K : PySem.W.Frag) (T : List (Addr × Str)) : Sp := fun vs H Q _ => ∃ (n : Nat) (B p : Addr), vs = [.ref B] ∧ Bag (n + 215) H B p ∧ LamX.Tabs T H ∧ ∀ H', Bag n H' B p → LamX.Tabs T H' → Q (.bl true) H'
section
variable {P : Program} {w : World} {K : PySem.W.Frag} {mg : Str → Option Value} {base : Heap} {f C S TA CF CO : Addr} {cs : _root_.Fin 4 → Addr} {fd : FuncData} {T : List (Addr × Str)}
theorem scOnc : FnScope nOnc ["_law_bag_here"] (defScope L_once) := ⟨rfl, rfl, rfl, by decide +kernel, rfl, by decide +kernel, by decide +kernel⟩
theorem ok_once (F : Fun K "_law_once" "_law_once" L_once f fd) (U : KitO P w K mg base C S TA CF CO cs T) : FnOk P w K mg base CX0 13 f fd ["_law_bag_here"] (spOnc K T) := by
  refine F.ok scOnc (fun vs H Q E h => ?_) (fun cdv A outer s H vs Q E hr h => ?_)
  · obtain ⟨n, B, p, rfl, _⟩ := h
    rfl
  obtain ⟨n, B, p, rfl, hb, hT, gq⟩ := h
  have hr1 := hr.mono (show 1 ≤ 12 by decide)
  have hr2 := hr.mono (show 2 ≤ 12 by decide)
  have hr3 := hr.mono (show 3 ≤ 12 by decide)
  have hr4 := hr.mono (show 4 ≤ 12 by decide)
  have hr5 := hr.mono (show 5 ≤ 12 by decide)
  have hr6 := hr.mono (show 6 ≤ 12 by decide)
  have hr7 := hr.mono (show 7 ≤ 12 by decide)
  have hr8 := hr.mono (show 8 ≤ 12 by decide)
  have hr9 := hr.mono (show 9 ≤ 12 by decide)
  obtain ⟨fI, fdI, MI, FI, bI⟩ := U.a.sk.ini
  obtain ⟨fT, fdT, MT, FT, bT⟩ := U.a.tk.ini
  refine ⟨_, (C8.pss_cut (ps_set (i := 1) scOnc.nd rfl (Or.inl rfl) (pe_use U.ord hr3 rfl pass0 (pa_cons (pv 0) pa_nil)))
    (C8.pss_cut (ps_set (i := 2) scOnc.nd rfl (Or.inl rfl) (pe_use U.fla hr3 rfl pass0 (pa_cons (pv 0) (pa_cons (pv 1) pa_nil))))
    (C8.pss_cut (ps_set (i := 3) scOnc.nd rfl (Or.inl rfl) (pe_use U.cre hr5 rfl pass0 (pa_cons (pv 0) (pa_cons (pv 1) (pa_cons (pv 2) pa_nil)))))
    (C8.pss_cut (ps_set (i := 4) scOnc.nd rfl (Or.inl rfl) (pe_make (E := fun _ _ _ => False) MI FI hr7 rfl U.a.sk.m bI .nil passF (pa_cons (pe_slice sl_list (pv 3) (po_some pe_int) po_none) pa_nil)))
    (C8.pss_cut (ps_set (i := 5) scOnc.nd rfl (Or.inl rfl) (pe_ifExp (pt_cmpR op_eq (pe_use U.a.draw hr1 rfl pass0 (pa_cons (pv 0) (pa_cons pe_int pa_nil))) pe_int (nomark _)) (pe_use (E := fun _ _ _ => False) U.r.clk hr9 rfl passF (pa_cons (pv 4) pa_nil)) (pe_useR (E := fun _ _ _ => False) (ks := ["creep"]) U.r.clk hr9 rfl passF rfl (pk_cons (pv 4) pk_nil) (by simp))))
    (C8.pss_cut (ps_set (i := 6) scOnc.nd rfl (Or.inl rfl) (pe_mu0 (E := fun _ _ _ => False) U.nus (pv 5) hr1 pass0))
    (C8.pss_cut (ps_if (PW.pt (pw_or (pt_not (pt_val (pe_callB call_isi rfl U.mI (by decide +kernel) (pa_cons (pv 5) (pa_cons (C8.pe_gc (v := .ref TA) rfl ⟨_, U.a.tk.m, rfl⟩) pa_nil))))) (pw_or (pt_cmpR op_ne (pe_callB call_len_seq rfl U.a.mn PySem.boot_len (pa_cons (pv 6) pa_nil)) (pe_op op_sub (pv 1) (pv 2)) (nomark _)) (pw_or1 (pt_not (pt_val (pe_callB (cr_all rfl) rfl U.ma (by decide +kernel) (pa_cons (pe_lc (own := [("_law_p", 7)]) (g := gName 7) (tt := tYes) rfl scOnc.nd (pi_list (pv 6)) (blkOk_by (N := nOnc) (sc := defScope L_once) (by decide +kernel)) (fun _ _ _ _ _ => pg_name (i := 7) scOnc.nd rfl (Or.inl rfl)) (fun _ _ _ _ _ => pts_nil) (fun _ _ _ _ _ => (pe_use U.ifr hr2 rfl pass0 (pa_cons (pv 7) pa_nil)))) pa_nil)))))))) (pss_one (ps_ret pe_bl)) pss_nil)
    (C8.pss_cut (ps_if (PW.pt (pw_or (pt_not (pt_val (pe_use U.ity hr6 rfl pass0 (pa_cons (pv 5) (pa_cons (pv 6) (pa_cons (pv 2) pa_nil)))))) (pw_or1 (pt_cmpR (op_neD hr.units) (pe_use U.a.lga hr6 rfl pass0 (pa_cons (pv 6) (pa_cons (pv 2) (pa_cons (pv 3) pa_nil)))) (pe_use U.a.one hr1 rfl pass0 (pa_cons (pe_op op_sub (pv 1) (pv 2)) pa_nil)) (nomark _))))) (pss_one (ps_ret pe_bl)) pss_nil)
    (C8.pss_cut (ps_set (i := 8) scOnc.nd rfl (Or.inl rfl) (pe_use (E := fun _ _ _ => False) U.a.gai hr7 rfl passF (pa_cons (pv 5) (pa_cons (pv 4) pa_nil))))
    (C8.pss_cut (ps_if (pt_not (pt_val (pe_use U.a.lik hr5 rfl pass0 (pa_cons (pv 8) (pa_cons (pe_use U.a.one hr1 rfl pass0 (pa_cons (pe_op op_sub (pv 1) (pv 2)) pa_nil)) pa_nil))))) (pss_one (ps_ret pe_bl)) pss_nil)
    (C8.pss_cut (ps_asg (pe_tup (pa_cons pe_int (pa_cons pe_int pa_nil))) (pg_sub (pv 8) pe_int set_list))
    (C8.pss_cut (ps_expr (pe_bm PySem.F.plainAttrs_list PySem.F.slot_list_append PySem.F.type_list_append mt_append (pv 8) (pa_cons (pe_tup (pa_cons pe_int (pa_cons pe_int pa_nil))) pa_nil)))
    (C8.pss_cut (ps_set (i := 9) scOnc.nd rfl (Or.inl rfl) (pe_use U.r.nms hr3 rfl pass0 (pa_cons (pv 0) (pa_cons (pv 2) (pa_cons (pv 1) pa_nil)))))
    (C8.pss_cut (ps_if (pt_not (pt_val (pe_use U.a.lik hr5 rfl pass0 (pa_cons (pe_use (E := fun _ _ _ => False) U.a.gai hr7 rfl passF (pa_cons (pe_make (E := fun _ _ _ => False) MT FT hr7 rfl U.a.tk.m bT .nil passF (pa_cons (pv 2) (pa_cons (pv 9) pa_nil))) (pa_cons (pv 4) pa_nil))) (pa_cons (pe_use U.a.lga hr6 rfl pass0 (pa_cons (pv 9) (pa_cons (pv 2) (pa_cons (pv 3) pa_nil)))) pa_nil))))) (pss_one (ps_ret pe_bl)) pss_nil)
    (C8.pss_cut (ps_if (PW.pt (pw_or (pt_not (pt_val (pe_use U.spo hr8 rfl pass0 (pa_cons (pv 0) (pa_cons (pv 3) (pa_cons (pv 6) (pa_cons (pv 2) pa_nil))))))) (pw_or1 (pt_not (pt_val (pe_use U.ref hr rfl pass0 (pa_cons (pv 0) (pa_cons (pv 3) (pa_cons (pv 2) pa_nil))))))))) (pss_one (ps_ret pe_bl)) pss_nil)
    (pss_one (ps_ret (pe_and (pe_use U.a.lik hr5 rfl pass0 (pa_cons (pe_use (E := fun _ _ _ => False) U.a.gai hr7 rfl passF (pa_cons (pv 5) (pa_cons (pv 4) pa_nil))) (pa_cons (pe_use U.a.one hr1 rfl pass0 (pa_cons (pe_op op_sub (pv 1) (pv 2)) pa_nil)) pa_nil))) (pe_and (pe_use U.ity hr6 rfl pass0 (pa_cons (pv 5) (pa_cons (pv 6) (pa_cons (pv 2) pa_nil)))) (pe_one (pe_use U.ist hr6 rfl pass0 (pa_cons (pv 4) (pa_cons (pv 3) pa_nil))))))))))))))))))))))), ?_⟩
  have hJ0 : Jr T (n + 215) B p H H := ⟨hb, Go.refl, hT⟩
  clear hb hT
  refine ⟨fun σ G => ∃ deg : Nat, σ = [some (.ref B), some (.int (deg : Nat)), none, none, none, none, none, none, none, none] ∧ Jr T (n + 213) B p H G ∧ 2 ≤ deg ∧ deg ≤ 11, ?_, ?_⟩
  · exact ⟨_, rfl, n + 213, B, p, rfl, hJ0.b, fun H' k b u k2 k11 => ⟨k, rfl, hJ0.go b u, k2, k11⟩⟩
  clear hJ0
  rintro σ G ⟨deg, rfl, j, d2, d11⟩
  refine ⟨fun σ G => ∃ kk : Nat, σ = [some (.ref B), some (.int (deg : Nat)), some (.int (kk : Nat)), none, none, none, none, none, none, none] ∧ Jr T (n + 211) B p H G ∧ 1 ≤ kk ∧ kk + 1 ≤ deg, ?_, ?_⟩
  · exact ⟨_, rfl, _, rfl, n + 211, B, p, deg, rfl, j.b, d2, d11, fun H' k b u k1 kd => ⟨k, rfl, j.go b u, k1, kd⟩⟩
  clear j
  rintro σ G ⟨kk, rfl, j, k1, kd⟩
  refine ⟨fun σ G => ∃ (vf : V) (us : List Rat) (M : Nat), σ = [some (.ref B), some (.int (deg : Nat)), some (.int (kk : Nat)), some vf, none, none, none, none, none, none] ∧ Jr T (n + 151) B p H G ∧ Ls K G vf (0 :: us) ∧ us.length = deg ∧ CrZ us kk M, ?_, ?_⟩
  · refine ⟨_, rfl, _, rfl, _, rfl, n + 151, B, p, deg, kk, rfl, j.b, d11, k1, kd, fun H' v rs d b u lv lr e0 e9 tl z a => ?_⟩
    exact ⟨v, 1 :: rs, _, rfl, j.go b u, lv, lr, cr_z e0 e9 tl k1 (by omega) (by omega) z a⟩
  clear j
  rintro σ G ⟨vf, us, M, rfl, j, hf, lu, hZ⟩
  have hC := hZ.c
  have lc := clkL_len us kk
  refine ⟨fun σ G => ∃ vt, σ = [some (.ref B), some (.int (deg : Nat)), some (.int (kk : Nat)), some vf, some vt, none, none, none, none, none] ∧ Jr T (n + 151) B p H G ∧ Ls K G vf (0 :: us) ∧ StF K S G vt us, ?_, ?_⟩
  · obtain ⟨xa, xs, rfl, hxa, nx⟩ := id hf
    refine ⟨_, rfl, 1, rfl, xa, xs, rfl, SqL.of hxa, fun pp np => ?_⟩
    rw [show cutV xs (some 1) none = xs.drop 1 from cut_drop xs 1]
    have s4 := new_same np (HO.lst (xs.drop 1))
    exact fun x2 d2 nx2' nd2 ne2 => step_newF (.inl upd_same) ((nx.drop 1).same s4) (by show 2 ≤ us.length; omega) (by show us.length ≤ 24; omega) nx2' nd2 ne2 fun G3 s5 hS => ⟨rfl, .ref x2, rfl, j.same (s4.trans s5), hf.same (s4.trans s5), hS⟩
  clear j hf
  rintro σ G ⟨vt, rfl, j, hf, hS⟩
  refine ⟨fun σ G => ∃ vc, σ = [some (.ref B), some (.int (deg : Nat)), some (.int (kk : Nat)), some vf, some vt, some vc, none, none, none, none] ∧ Jr T (n + 150) B p H G ∧ Ls K G vf (0 :: us) ∧ StF K S G vt us ∧ TaAt K TA G vc kk (clkL us kk), ?_, ?_⟩
  · refine ⟨_, rfl, n + 150, B, p, 2, rfl, by decide, by decide, j.b, fun H2 k b2 u2 k0 k1' => ⟨rfl, _, rfl, ?_⟩⟩
    have j2 := j.go b2 u2
    have hf2 := hf.goA j.b (Go.of u2)
    have hS2 := hS.go j.b (Go.of u2)
    have key : ∀ {R : VK} {E : XK}, (∀ H' y, Same H2 H' → TaAt K TA H' y kk (clkL us kk) → R y H') → spClk K S TA (cs 1) (cs 2) [vt] H2 R E := fun g => ⟨vt, us, rfl, hS2, by omega, ce_creep hC ⟨kk, M, hC, hZ.slv, fun k hk => hZ.dg hk, g⟩⟩
    refine ite2 (fun _ => ?_) (fun _ => ?_)
    · exact ⟨_, rfl, key fun H' y s hTa => ⟨y, rfl, j2.same s, hf2.same s, hS2.same s, hTa⟩⟩
    · exact ⟨_, rfl, rfl, key fun H' y s hTa => ⟨y, rfl, j2.same s, hf2.same s, hS2.same s, hTa⟩⟩
  clear j hf hS
  rintro σ G ⟨vc, rfl, j, hf, hS, hTa⟩
  refine ⟨fun σ G => ∃ b : Addr, σ = [some (.ref B), some (.int (deg : Nat)), some (.int (kk : Nat)), some vf, some vt, some vc, some (.ref b), none, none, none] ∧ Jr T (n + 150) B p H G ∧ Ls K G vf (0 :: us) ∧ StF K S G vt us ∧ TaAt K TA G vc kk (clkL us kk) ∧ Ls K G (.ref b) (clkL us kk) ∧ b ≠ B, ?_, ?_⟩
  · obtain ⟨y, dy, yb, ys, lg, rfl, h1, _⟩ := id hTa
    refine ⟨_, rfl, y, dy, _, rfl, h1, rfl, .ref y, kk, _, rfl, hTa, fun b G2 zs s nb hb2 nl => ⟨b, rfl, j.same s, hf.same s, hS.same s, hTa.same s, ⟨b, zs, rfl, hb2, nl⟩, (j.b.at nb).1⟩⟩
  clear j hf hS hTa
  rintro σ G ⟨bn, rfl, j, hf, hS, hTa, hn, nB⟩
  obtain ⟨na, ns, e0, hna, nn⟩ := id hn
  obtain rfl := V.ref.inj e0
  have ln : ns.length = us.length - kk := by rw [nn.1, lc]
  have fn := hC.fn
  obtain ⟨L, l0, lL, aL⟩ := hZ.z
  have sL1 : SmL L := ⟨l0, Nat.lt_of_le_of_lt lL (Nat.pow_lt_pow_right (by decide) (by decide))⟩
  have okc : AllO (clkL us kk) := aL.ok sL1 (by decide)
  have sLM : SmL (L * M) := ⟨Nat.mul_pos l0 hC.c.m0, by
    have := Nat.mul_le_mul lL (Nat.le_of_lt hC.c.m)
    rw [← Nat.pow_add] at this
    exact Nat.lt_of_le_of_lt this (Nat.pow_lt_pow_right (by decide) (by decide))⟩
  have one_eq : gaL us kk (clkL us kk) = oneL (us.length - kk) := clk_ga hC.u0 hC.lo hC.fn hC.f1 hC.a0
  have jo : Jo K S TA T (n + 150) B p H us kk vf vt vc (.ref bn) G := ⟨j, hf, hS, hTa, hn⟩
  have vfB : vf ≠ .ref B := by
    obtain ⟨xa, xs, rfl, hxa, nx⟩ := id hf
    exact fun z => nx.ne (by show 2 ≤ us.length + 1; omega) hxa j.b (V.ref.inj z)
  have len1 : (oneL (us.length - kk)).length = us.length - kk := oneL_len (by omega)
  have dk : [V.int (((deg : Nat) : Int) - ((kk : Nat) : Int))] = [V.int ((us.length - kk : Nat) : Int)] := by
    congr 2
    omega
  have key : ∀ {G : Hp} {R : VK} {E : XK}, TaAt K TA G vc kk (clkL us kk) → StF K S G vt us → GivesL K G R (oneL (us.length - kk)) → spGai K S TA (cs 0) (cs 1) (cs 2) (cs 3) [vc, vt] G R E := fun h1 h2 g => ⟨vc, vt, kk, _, us, rfl, h1, h2, fun z => absurd (by rw [lc]; omega) z, fun _ => ce_creep hC ⟨kk, M, hC, fun z => absurd rfl z, fun _ => ⟨L, 20000, sL1, by decide, aL, by rw [one_eq]; exact g⟩⟩⟩
  refine ⟨fun σ G => σ = [some (.ref B), some (.int (deg : Nat)), some (.int (kk : Nat)), some vf, some vt, some vc, some (.ref bn), none, none, none] ∧ Jo K S TA T (n + 150) B p H us kk vf vt vc (.ref bn) G, ?_, ?_⟩
  · obtain ⟨y, dy, yb, ys, lg, e9, h1, _⟩ := id hTa
    refine ⟨_, rfl, .ref y, .ref TA, .ref TA, .ref TA, true, by rw [e9], .own TA, U.isT.ty _ _ _ _ h1, U.isT.kit, _, rfl, iteF ?_⟩
    refine ⟨_, rfl, bn, ns, rfl, .inl (SqL.of hna), _, rfl, _, rfl, _, _, rfl, rfl, rfl, _, rfl, ?_⟩
    rw [show decide (V.int ((ns.length : Nat) : Int) = V.int (((deg : Nat) : Int) - ((kk : Nat) : Int))) = true from decide_eq_true (by congr 1; omega)]
    refine iteF ⟨_, rfl, bn, rfl, ⟨_, SqL.of hna⟩, fun D nD => ?_⟩
    refine lc_acc (walk_list (K := K) (a := bn) (xs := ns)) (fun i _ y => y = .bl true) (fun i H H' y l h _ _ => h) nD (by omega) (fun H2 s => SqL.of (s _ _ hna)) ?_ ?_
    · rintro i x H2 H3 k hi s2 ⟨rfl, hx2⟩ hk
      obtain ⟨b, eb, nb⟩ := nn.get hx2
      exact ⟨rfl, _, rfl, x, b, rfl, nb.same s2, okc b (List.mem_of_getElem? eb), fun H4 s4 => hk _ _ s4 rfl⟩
    · intro H2 zs s2 hD hl hR
      obtain ⟨bs, rfl, hb2⟩ := bl_of zs (P := fun _ b => b = true) fun i y e => ⟨true, hR i y e, rfl⟩
      refine ⟨D, bs, rfl, SqL.of hD, _, rfl, ?_⟩
      rw [show bs.all id = true from List.all_eq_true.mpr fun b hb' => by
        obtain ⟨i, hi⟩ := List.getElem?_of_mem hb'
        exact hb2 i b hi]
      exact iteF ⟨rfl, jo.same s2⟩
  clear j hf hS hTa hn hna jo
  rintro σ G ⟨rfl, jo⟩
  refine ⟨fun σ G => σ = [some (.ref B), some (.int (deg : Nat)), some (.int (kk : Nat)), some vf, some vt, some vc, some (.ref bn), none, none, none] ∧ Jo K S TA T (n + 150) B p H us kk vf vt vc (.ref bn) G, ?_, ?_⟩
  · refine ⟨_, rfl, _, rfl, _, rfl, vc, .ref bn, kk, _, rfl, jo.c, jo.n, by rw [lc]; omega, fun G1 s1 => ⟨_, rfl, iteF ?_⟩⟩
    refine ⟨_, rfl, _, rfl, _, rfl, .ref bn, vf, us, clkL us kk, kk, M, L, 20000, rfl, jo.n.same s1, jo.f.same s1, lc, hC, sL1, sLM, by decide, aL, fun b2 G2 w2 s2 nb2 hb2 nl2 => ?_⟩
    refine ⟨_, rfl, _, rfl, _, _, rfl, rfl, us.length - kk, dk, by omega, by omega, fun b3 G3 w3 s3 nb3 hb3 nl3 => ?_⟩
    have d1 : Ls K G3 (.ref b2) (gaL us kk (clkL us kk)) := Ls.same ⟨b2, w2, rfl, hb2, nl2⟩ s3
    have d2 : Ls K G3 (.ref b3) (oneL (us.length - kk)) := ⟨b3, w3, rfl, hb3, nl3⟩
    refine ⟨datL (gaL us kk (clkL us kk)), datL (oneL (us.length - kk)), d1.dp, d2.dp, shaped_list _, shaped_list _, _, rfl, ?_⟩
    rw [eqv_list, decide_eq_true one_eq]
    exact iteF ⟨rfl, jo.same (s1.trans (s2.trans s3))⟩
  clear jo
  rintro σ G ⟨rfl, jo⟩
  refine ⟨fun σ G => ∃ (G0 : Hp) (b : Addr) (ws : List V), σ = [some (.ref B), some (.int (deg : Nat)), some (.int (kk : Nat)), some vf, some vt, some vc, some (.ref bn), none, some (.ref b), none] ∧ Jo K S TA T (n + 150) B p H us kk vf vt vc (.ref bn) G0 ∧ Same G0 G ∧ G0 b = none ∧ G b = some (.lst ws) ∧ Nl K G ws (oneL (us.length - kk)), ?_, ?_⟩
  · exact ⟨_, rfl, _, rfl, key jo.c jo.s fun b G2 w s nb hb nl => ⟨G, b, w, rfl, jo, s, nb, hb, nl⟩⟩
  clear jo
  rintro σ G ⟨G0, fb, ws, rfl, jo, s0, nb0, hfb, nws⟩
  have lws : ws.length = us.length - kk := by rw [nws.1, len1]
  refine ⟨fun σ G => σ = [some (.ref B), some (.int (deg : Nat)), some (.int (kk : Nat)), some vf, some vt, some vc, some (.ref bn), none, some (.ref fb), none] ∧ Same G0 G ∧ G fb = some (.lst ws), ?_, ?_⟩
  · refine ⟨_, rfl, _, rfl, _, rfl, _, _, rfl, rfl, us.length - kk, dk, by omega, by omega, fun b3 G3 w3 s3 nb3 hb3 nl3 => ?_⟩
    exact ⟨_, _, rfl, Ls.lk (Ls.same ⟨fb, ws, rfl, hfb, nws⟩ s3) ⟨b3, w3, rfl, hb3, nl3⟩ (by rw [len1]; omega), fun G4 s4 => ⟨_, rfl, iteF ⟨rfl, s0.trans (s3.trans s4), (s3.trans s4) _ _ hfb⟩⟩⟩
  clear s0 hfb nws
  rintro σ G ⟨rfl, s0, hfb⟩
  refine ⟨fun σ G => ∃ zs : List V, σ = [some (.ref B), some (.int (deg : Nat)), some (.int (kk : Nat)), some vf, some vt, some vc, some (.ref bn), none, some (.ref fb), none] ∧ Same G0 G ∧ G fb = some (.lst zs) ∧ zs.length ≤ 11, ?_, ?_⟩
  · refine ⟨(by show 2 ≤ sizeLine; decide), fun t nt => ?_⟩
    have s1 := new_same nt (HO.tup [V.int 2, V.int 1])
    refine ⟨_, rfl, fb, ws, 0, 0, rfl, rfl, s1 _ _ hfb, ixN_of (i := 0) (by omega), _, rfl, fun a o h => ?_, upd_same, by rw [List.length_set]; omega⟩
    rw [upd_ne (fun z => by rw [z, nb0] at h; cases h)]
    exact s1 _ _ (s0 _ _ h)
  clear s0 hfb
  rintro σ G ⟨zs, rfl, s0, hfb, lz⟩
  refine ⟨fun σ G => σ = [some (.ref B), some (.int (deg : Nat)), some (.int (kk : Nat)), some vf, some vt, some vc, some (.ref bn), none, some (.ref fb), none] ∧ Jo K S TA T (n + 150) B p H us kk vf vt vc (.ref bn) G, ?_, ?_⟩
  · refine ⟨_, rfl, .inl ⟨rfl, _, SqL.of hfb⟩, (by show 2 ≤ sizeLine; decide), fun t nt => ?_⟩
    have s1 := new_same nt (HO.tup [V.int 1, V.int 1])
    refine ⟨fb, zs, _, rfl, rfl, s1 _ _ hfb, small1000 (by omega), rfl, jo.same fun a o h => ?_⟩
    rw [upd_ne (fun z => by rw [z, nb0] at h; cases h)]
    exact s1 _ _ (s0 _ _ h)
  clear s0 hfb jo nb0
  rintro σ G ⟨rfl, jo⟩
  refine ⟨fun σ G => ∃ (vm : V) (ds : List Rat) (d : Nat), σ = [some (.ref B), some (.int (deg : Nat)), some (.int (kk : Nat)), some vf, some vt, some vc, some (.ref bn), none, some (.ref fb), some vm] ∧ Jo K S TA T (n + 110) B p H us kk vf vt vc (.ref bn) G ∧ Ls K G vm ds ∧ ds.length = us.length - kk ∧ 0 < d ∧ d ≤ 99 ∧ (∀ r ∈ ds, TlQ d r), ?_, ?_⟩
  · exact ⟨_, rfl, _, rfl, _, rfl, n + 110, B, p, kk, deg, rfl, jo.j.b, by omega, by omega, fun H2 v cs d b u vB lcs lc' d0 d9 tl => ⟨v, cs, d, rfl, jo.but b u, lcs, by omega, d0, d9, tl⟩⟩
  clear jo
  rintro σ G ⟨vm, ds, d, rfl, jo, hm, lm, d0, d9, tl⟩
  refine ⟨fun σ G => σ = [some (.ref B), some (.int (deg : Nat)), some (.int (kk : Nat)), some vf, some vt, some vc, some (.ref bn), none, some (.ref fb), some vm] ∧ Jo K S TA T (n + 110) B p H us kk vf vt vc (.ref bn) G, ?_, ?_⟩
  · obtain ⟨ma, ms, rfl, hma, nm⟩ := id hm
    refine ⟨_, rfl, _, rfl, fun x1 d1 nx1 nd1 ne1 => tally_new hma nm k1 (by omega) (by omega) (by omega) nx1 nd1 ne1 fun G2 s2 hTm => ⟨rfl, ?_⟩⟩
    refine ⟨_, rfl, .ref x1, vt, kk, ds, us, rfl, hTm, jo.s.same s2, fun z => absurd (by omega) z, fun _ => ce_creep hC ⟨kk, M, hC, fun z => absurd rfl z, fun _ => ⟨60 * d, 43, sm60 d0 d9, by decide, tl_all d0 d9 tl, fun b G3 w3 s3 nb3 hb3 nl3 => ?_⟩⟩⟩
    have s23 := s2.trans s3
    refine ⟨_, rfl, _, rfl, _, rfl, .ref ma, vf, us, ds, kk, M, 60 * d, 43, rfl, hm.same s23, jo.f.same s23, lm, hC, sm60 d0 d9, sm60M d0 d9 hC.c.m0 hC.c.m, by decide, tl_all d0 d9 tl, fun b4 G4 w4 s4 nb4 hb4 nl4 => ?_⟩
    exact ⟨_, _, rfl, Ls.lk (Ls.same ⟨b, w3, rfl, hb3, nl3⟩ s4) ⟨b4, w4, rfl, hb4, nl4⟩ (by rw [gaL_len]; omega), fun G5 s5 => ⟨_, rfl, iteF ⟨rfl, jo.same (s23.trans (s4.trans s5))⟩⟩⟩
  clear jo hm
  rintro σ G ⟨rfl, jo⟩
  refine ⟨fun σ G => σ = [some (.ref B), some (.int (deg : Nat)), some (.int (kk : Nat)), some vf, some vt, some vc, some (.ref bn), none, some (.ref fb), some vm] ∧ Jo K S TA T (n + 5) B p H us kk vf vt vc (.ref bn) G, ?_, ?_⟩
  · refine ⟨_, rfl, _, rfl, _, rfl, _, rfl, n + 105, B, p, vf, .ref bn, us, kk, M, rfl, jo.j.b, jo.f, jo.n, vfB, fun z => nB (V.ref.inj z), hZ, fun H2 b2 u2 => ⟨_, rfl, iteF ?_⟩⟩
    have jo2 := jo.but b2 u2
    exact ⟨_, rfl, _, rfl, _, rfl, n + 5, B, p, vf, us, kk, M, rfl, jo2.j.b, jo2.f, vfB, hZ, jo2.j.t, fun H3 b3 g3 t3 => ⟨_, rfl, iteF ⟨rfl, jo2.go b3 g3 t3⟩⟩⟩
  clear jo
  rintro σ G ⟨rfl, jo⟩
  refine ⟨_, rfl, _, rfl, key jo.c jo.s fun b G2 w s2 nb hb nl => ?_⟩
  refine ⟨_, rfl, _, rfl, _, _, rfl, rfl, us.length - kk, dk, by omega, by omega, fun b3 G3 w3 s3 nb3 hb3 nl3 => ?_⟩
  refine ⟨_, _, rfl, Ls.lk (Ls.same ⟨b, w, rfl, hb, nl⟩ s3) ⟨b3, w3, rfl, hb3, nl3⟩ (by rw [len1]; omega), fun G4 s4 => ?_⟩
  have jo4 := jo.same (s2.trans (s3.trans s4))
  refine ⟨_, rfl, iteT ?_⟩
  refine ⟨_, rfl, _, rfl, _, rfl, vc, .ref bn, kk, _, rfl, jo4.c, jo4.n, by rw [lc]; omega, fun G5 s5 => ⟨_, rfl, iteT ?_⟩⟩
  have jo5 := jo4.same s5
  refine ⟨_, rfl, _, rfl, vt, vf, us, rfl, jo5.s.st, jo5.f, fun G6 s6 => ?_⟩
  have jo6 := jo5.same s6
  exact gq _ (jo6.j.less (show n ≤ n + 5 by omega)).b jo6.j.t
end
end Kx
end
section
set_option maxHeartbeats 4000000
namespace Kx
open PySem PySem.Spec PyProof.Rows L2 RZ
/-! ### the law -/
abbrev nLaw : List Str := ["_law_script", "_law_bag_here", "_law_turn"]
def spLaw (K : PySem.W.Frag) (T : List (Addr × Str)) : Sp := fun vs H Q _ => ∃ (a : Addr) (ns : List Int), vs = [.ref a] ∧ SqL K H a (ns.map V.int) ∧ LamX.Tabs T H ∧ ∀ H', Q (.bl true) H'
section
variable {P : Program} {w : World} {K : PySem.W.Frag} {mg : Str → Option Value} {base : Heap} {f : Addr} {fd : FuncData} {T : List (Addr × Str)}
theorem scLaw : FnScope nLaw ["_law_script"] (defScope L_law) := ⟨rfl, rfl, rfl, by decide +kernel, rfl, by decide +kernel, by decide +kernel⟩
theorem ok_law (F : Fun K "law" "law" L_law f fd) (mr : mg "range" = none) (UB : Use P w K mg base CX0 1 "_law_bag" ["_law_script"] (spBag K) []) (UO : Use P w K mg base CX0 13 "_law_once" ["_law_bag_here"] (spOnc K T) []) : FnOk P w K mg base CX0 14 f fd ["_law_script"] (spLaw K T) := by
  refine F.ok scLaw (fun vs H Q E h => ?_) (fun cdv A outer s H vs Q E hr h => ?_)
  · obtain ⟨a, ns, rfl, _⟩ := h
    rfl
  obtain ⟨a0, ns, rfl, ha0, hT, q⟩ := h
  have hr1 := hr.mono (show 1 ≤ 13 by decide)
  refine ⟨_, pss_cons (ps_set (i := 1) scLaw.nd rfl (Or.inl rfl) (pe_use UB hr1 rfl pass0 (pa_cons (pv 0) pa_nil)))
    (pss_cons (ps_for PassesOwn.never rfl (pi_range1 rfl mr (pa_cons pe_int pa_nil)) (pg_name (i := 2) scLaw.nd rfl (Or.inl rfl))
      (pss_one (ps_if (pt_not (pt_val (pe_use UO hr rfl pass0 (pa_cons (pv 1) pa_nil)))) (pss_one (ps_ret pe_bl)) pss_nil)))
    (pss_one (ps_ret pe_bl))), ?_⟩
  refine ⟨_, rfl, a0, ns, rfl, ha0, fun H1 B p s1 nb hb => ?_⟩
  refine ⟨_, rfl, by decide, by decide, for_range (lo := 0) (n := 2) (fun i σ H' => ∃ v2, σ = [some (.ref a0), some (.ref B), v2] ∧ Bag (1000000 - 300 * i) H' B p ∧ LamX.Tabs T H') ⟨none, rfl, hb, hT.ext s1⟩ ?_ ?_⟩
  · rintro i σ H3 hi ⟨v2, rfl, b3, t3⟩
    exact ⟨_, rfl, 1000000 - 300 * (i + 1), B, p, rfl, b3.less (by omega), t3, fun H4 b4 t4 => ⟨_, rfl, iteF ⟨_, rfl, b4, t4⟩⟩⟩
  · rintro σ H3 ⟨v2, rfl, _⟩
    exact q _
end
end Kx
end
section
set_option maxHeartbeats 4000000
namespace Kx
open PySem PySem.Spec PyProof.Rows L2 RZ
theorem fn_imp {P : Program} {w : World} {K : PySem.W.Frag} {mg : Str → Option Value} {base : Heap} {CX : CXT} {k : Nat} {f : Addr} {fd : FuncData} {ps : List Str} {sp sp0 : Sp} (F : FnOk P w K mg base CX k f fd ps sp) (h : ∀ vs H Q E, sp0 vs H Q E → sp vs H Q E) : FnOk P w K mg base CX k f fd ps sp0 :=
  ⟨fun vs H Q E q => F.len vs H Q E (h _ _ _ _ q), fun A outer s H args us vs Q E hr he hb hv hs => F.run A outer s H args us vs Q E hr he hb hv (h _ _ _ _ hs)⟩
section
variable {P : Program} {w : World} {K : PySem.W.Frag} {mg : Str → Option Value} {base : Heap} {f C S CF CO CN CI o0 o1 : Addr} {fd : FuncData} {H : Hp}
theorem scI1 : FnScope ["self", "value"] ["self", "value"] (defScope C_InvalidNumber_init) := ⟨rfl, rfl, rfl, by decide +kernel, rfl, by decide +kernel, by decide +kernel⟩
theorem init_1 (F : Fun K "__init__" "InvalidNumber.__init__" C_InvalidNumber_init f fd) (T : XC K C) (n0 : PySem.W.findIn K (.ref C) "code" = some none) (n1 : PySem.W.findIn K (.ref C) "value" = some none) : FnOk P w K mg base CX0 1 f fd ["self", "value"] (spIn C 1 (fs1 "InvalidNumber" "value")) := by
  refine F.ok scI1 (fun vs H Q E h => ?_) (fun cdv A outer s H vs Q E hr h => ?_)
  · obtain ⟨a, ws, rfl, l, _⟩ := h
    exact congrArg Nat.succ l
  obtain ⟨a, ws, rfl, l, ha, q⟩ := h
  obtain ⟨v, rfl⟩ : ∃ v, ws = [v] := by match ws, l with | [v], _ => exact ⟨v, rfl⟩
  refine ⟨_, pss_cons (ps_xst (pv 0) pe_str) (pss_one (ps_xst (pv 0) (pv 1))), ?_⟩
  refine ⟨_, rfl, a, _, rfl, T, n0, .inl ⟨ha, fun e H1 ne he h1 h2 h3 => ?_⟩⟩
  refine ⟨_, rfl, _, rfl, a, _, rfl, T, n1, .inr ⟨e, _, h1, h2, (by show 1 ≤ 900; decide), ?_⟩⟩
  exact q e _ ne he (by rw [upd_ne (Ne.symm ne)]; exact h1) (by rw [upd_same]; rfl) (fun b b1 b2 => by rw [upd_ne b2]; exact h3 b b1 b2)
theorem scCk : FnScope ["value"] ["value"] (defScope F_check_number) := ⟨rfl, rfl, rfl, by decide +kernel, rfl, by decide +kernel, by decide +kernel⟩
theorem ok_cnum (G : Fun K "check_number" "check_number" F_check_number f fd) (UF : Use P w K mg base CX0 2 "is_fraction" ["value"] (spIsG K) []) (Z : ErrC P w K mg base "InvalidNumber" 1 (fs1 "InvalidNumber" "value") CN) : FnOk P w K mg base (L2.CX P w) 3 f fd ["value"] (spCk K CN) := by
  refine G.okX scCk (fun vs H Q E h => ?_) (fun cdv A outer s H vs Q E hr h => ?_)
  · obtain ⟨v, r, rfl, _⟩ := h
    rfl
  obtain ⟨v, r, rfl, hin, h1, h2⟩ := h
  obtain ⟨fI, fdI, ps, i1, i2, i3, i4⟩ := Z.i
  refine ⟨_, pss_one (ps_if (pt_not (pt_val (pe_use UF hr rfl pass0 (pa_cons (pv 0) pa_nil)))) (pss_one (ps_raise rfl (takes_of rfl rfl rfl rfl) (pmk_xo Z.T Z.ty i1 i2 i3 hr i4 pass0 rfl Z.m (pa_cons (pv 0) pa_nil)))) pss_nil), ?_⟩
  refine ⟨_, rfl, v, r, rfl, hin, _, rfl, ?_⟩
  cases r with
  | true => exact iteF (h1 rfl)
  | false => exact iteT ⟨_, rfl, (by show 1 ≤ 1000; decide), fun a na => air_of (C := CN) (n := 1) (ws := [v]) na rfl (h2 rfl)⟩
end
end Kx
end
section
set_option maxHeartbeats 4000000
namespace Kx
open PySem PySem.Spec PyProof.Rows L2
theorem kpB_ok {K : PySem.W.Frag} {a : Addr} {x y : Int} (h : kpB K a x y = true) : KP K a x y := by
  unfold kpB at h
  split at h
  · rename_i c d its n sl q
    obtain ⟨h1, h⟩ := He.ba h
    obtain ⟨h2, h3⟩ := He.ba h
    exact ⟨_, its, n, q, congrArg Value.type (of_decide_eq_true h1), rfl, of_decide_eq_true h2, He.relAll_ok h3⟩
  · cases h
theorem owB_ok {K : PySem.W.Frag} {C iA sA gA : Addr} {m : Str} {ns : List Str} (h : owB K C iA sA gA m ns = true) (hk : PySem.W.keepIn K (.ref gA) = true) :
    Cls K C ∧ (∀ n ∈ ns, NoAttr K C n) ∧ Mk K C iA ∧ ClX.CRead K C (.type "type") ∧ CSta K C (.type "type") m sA gA ∧ ∀ (H : Hp) a dx fs, H a = some (.ins C dx fs) → TyX K H (.ref a) (.ref C) := by
  unfold owB at h
  obtain ⟨a1, h⟩ := He.ba h
  obtain ⟨a2, h⟩ := He.ba h
  obtain ⟨a3, h⟩ := He.ba h
  obtain ⟨a4, h⟩ := He.ba h
  obtain ⟨a5, h⟩ := He.ba h
  obtain ⟨a6, h⟩ := He.ba h
  obtain ⟨a7, h⟩ := He.ba h
  obtain ⟨a8, h⟩ := He.ba h
  obtain ⟨a9, h⟩ := He.ba h
  obtain ⟨b1, h⟩ := He.ba h
  obtain ⟨b2, h⟩ := He.ba h
  obtain ⟨b3, h⟩ := He.ba h
  obtain ⟨b4, h⟩ := He.ba h
  obtain ⟨b5, h⟩ := He.ba h
  obtain ⟨b6, h⟩ := He.ba h
  obtain ⟨b7, h⟩ := He.ba h
  obtain ⟨b8, b9⟩ := He.ba h
  have cls : Cls K C := ⟨a1, a2, a3, He.eqO_ok a4⟩
  obtain ⟨w1, w2⟩ := He5.wrapB_ok b1
  rw [of_decide_eq_true b2] at w1 w2
  rw [of_decide_eq_true b3] at w2
  exact ⟨cls, fun n hn => He.eqO_ok (List.all_eq_true.mp a5 n hn), ⟨a6, He.eqO_ok a7, a8, a9⟩, ⟨b4, He.eqO_ok b5⟩, ⟨w1, w2, hk⟩,
    fun H a dx fs e => .base (.ins e cls (He.eqO_ok b6) (He.eqO_ok b7) (of_decide_eq_true b8) (of_decide_eq_true b9))⟩
theorem owT_ok {K : PySem.W.Frag} {C iA : Addr} {ns : List Str} (h : owT K C iA ns = true) :
    Cls K C ∧ (∀ n ∈ ns, NoAttr K C n) ∧ Mk K C iA ∧ ∀ (H : Hp) a dx fs, H a = some (.ins C dx fs) → TyX K H (.ref a) (.ref C) := by
  unfold owT at h
  obtain ⟨a1, h⟩ := He.ba h
  obtain ⟨a2, h⟩ := He.ba h
  obtain ⟨a3, h⟩ := He.ba h
  obtain ⟨a4, h⟩ := He.ba h
  obtain ⟨a5, h⟩ := He.ba h
  obtain ⟨a6, h⟩ := He.ba h
  obtain ⟨a7, h⟩ := He.ba h
  obtain ⟨a8, h⟩ := He.ba h
  obtain ⟨a9, h⟩ := He.ba h
  obtain ⟨b6, h⟩ := He.ba h
  obtain ⟨b7, h⟩ := He.ba h
  obtain ⟨b8, b9⟩ := He.ba h
  have cls : Cls K C := ⟨a1, a2, a3, He.eqO_ok a4⟩
  exact ⟨cls, fun n hn => He.eqO_ok (List.all_eq_true.mp a5 n hn), ⟨a6, He.eqO_ok a7, a8, a9⟩,
    fun H a dx fs e => .base (.ins e cls (He.eqO_ok b6) (He.eqO_ok b7) (of_decide_eq_true b8) (of_decide_eq_true b9))⟩
theorem exB_ok {K : PySem.W.Frag} {C iA : Addr} {mb : List Value} {nw : String} {ns : List Str} (h : exB K C iA mb nw ns = true) (hb : ∃ B iid, ExcBaseFacts B nw iid mb ∧ StoreFacts B mb "object.__setattr__" "object") :
    XC K C ∧ PySem.W.typeIn K (.ref C) = some (.type "type") ∧ PySem.W.findIn K (.ref C) "__init__" = some (some (.ref iA)) ∧ PySem.W.isFn K (.ref iA) = true ∧ ∀ n ∈ ns, PySem.W.findIn K (.ref C) n = some none := by
  unfold exB at h
  obtain ⟨B, iid, FB, SF⟩ := hb
  obtain ⟨a1, h⟩ := He.ba h
  obtain ⟨a2, h⟩ := He.ba h
  obtain ⟨a3, h⟩ := He.ba h
  obtain ⟨a4, h⟩ := He.ba h
  obtain ⟨a5, h⟩ := He.ba h
  obtain ⟨a6, h⟩ := He.ba h
  obtain ⟨a7, h⟩ := He.ba h
  obtain ⟨a8, h⟩ := He.ba h
  obtain ⟨a9, h⟩ := He.ba h
  obtain ⟨b1, h⟩ := He.ba h
  obtain ⟨b2, h⟩ := He.ba h
  obtain ⟨b3, h⟩ := He.ba h
  obtain ⟨b4, h⟩ := He.ba h
  obtain ⟨b5, h⟩ := He.ba h
  obtain ⟨b6, h⟩ := He.ba h
  obtain ⟨b7, b8⟩ := He.ba h
  exact ⟨⟨⟨B, nw, iid, mb, FB, SF, a1, a2⟩, a3, a4, He.eqO_ok a5, He.eqO_ok a6, He.eqO_ok a7, of_decide_eq_true a8, He.eqO_ok a9, He.eqO_ok b1, of_decide_eq_true b2, of_decide_eq_true b3, b4⟩, of_decide_eq_true b5, He.eqO_ok b6, b7, fun n hn => He.eqO_ok (List.all_eq_true.mp b8 n hn)⟩
section
variable {K : PySem.W.Frag}
theorem SaysR.fact (c : SaysR K) (i : Nat) {f : PySem.W.Frag → Bool} (h : faT[i]? = some f := by rfl) : f K = true :=
  List.all_eq_true.mp (He.ba (show ((faT.all fun f => f K) && fnT.all fun d => d.ok K) = true from congrArg (fun z : ObV => z.1) c)).1 f (List.mem_of_getElem? h)
theorem SaysR.def_ (c : SaysR K) (i : Nat) {d : He5.DefA} (h : fnT[i]? = some d) : ∃ fd, L2.FunD K d.name d.qual d.params d.body d.scope (d.dvs K) (d.kws K) (d.at_ K) fd := by
  have c2 := (He.ba (show ((faT.all fun f => f K) && fnT.all fun d => d.ok K) = true from congrArg (fun z : ObV => z.1) c)).2
  have e : fnT.map (fun d => He5.fnA K (d.at_ K)) = fnT.map He5.DefA.val := congrArg (fun z : ObV => z.2) c
  have e2 : (fnT.map fun d => He5.fnA K (d.at_ K))[i]? = (fnT.map He5.DefA.val)[i]? := by rw [e]
  rw [List.getElem?_map, List.getElem?_map, h] at e2
  exact He5.DefA.funD (Option.some.inj e2) (List.all_eq_true.mp c2 d (List.mem_of_getElem? h))
theorem fun_ld (c : SaysR K) (i : Nat) {d : LD} (h : ldT[i]? = some d) : ∃ fd, Fun K d.nm d.nm (top d.ix) d.f fd := by
  obtain ⟨fd, F⟩ := c.def_ (i + 15) (d := ldD d) (by
    show (clT ++ ldT.map ldD)[i + 15]? = _
    rw [List.getElem?_append_right (by show 15 ≤ i + 15; omega)]
    show (ldT.map ldD)[i + 15 - 15]? = _
    rw [Nat.add_sub_cancel, List.getElem?_map, h]
    rfl)
  exact ⟨fd, He5.fun_of F⟩
theorem fun_cl (c : SaysR K) (i : Nat) {q nm : Str} {f : Addr} {st : Stmt} (h : fnT[i]? = some (mtD q nm f st) := by rfl) : ∃ fd, Fun K nm q st f fd := by
  obtain ⟨fd, F⟩ := c.def_ i h
  exact ⟨fd, He5.fun_of F⟩
theorem fun_c {x q : Str} {st : Stmt} {f c : Addr} {fd : FuncData} (F : Fun K x q st f fd) (h : codeB K f c = true) : FunC K x q st f fd c := by
  obtain ⟨oc, od, kV, doc, pm, an, cdv, ct, osl, rfl, lk, hcd⟩ := F.ex
  have e : cdv = .ref c := by
    unfold codeB at h
    rw [lk] at h
    cases cdv <;> first | exact congrArg Value.ref (of_decide_eq_true h) | exact (Bool.false_ne_true h).elim
  subst e
  exact ⟨⟨oc, od, kV, doc, pm, an, ct, osl, rfl, lk, hcd⟩, F.kp⟩
section
variable {h : Heap} {mg : Str → Option Value}
theorem mg_ld (X : K.In h) (G : h.Ns mainGlobals mg) (c : SaysR K) {d : LD} (hd : d ∈ ldT) : mg d.nm = some (.ref d.f) := PySem.W.mg_of X G (He.eqO_ok (List.all_eq_true.mp (c.fact 0) d hd))
theorem mg_free (X : K.In h) (G : h.Ns mainGlobals mg) (c : SaysR K) {x : Str} (hx : x ∈ freeN) : mg x = none := PySem.W.mg_none_of X G (He.eqO_ok (List.all_eq_true.mp (c.fact 1) x hx))
theorem mg_at (X : K.In h) (G : h.Ns mainGlobals mg) {x : Str} {v : Value} (e : He.eqO (PySem.W.nsIn K mainGlobals x) (some (some v)) = true) : mg x = some v := PySem.W.mg_of X G (He.eqO_ok e)
theorem at_ld (X : K.In h) (G : h.Ns mainGlobals mg) (c : SaysR K) {d : LD} (i : Nat) (e : ldT[i]? = some d) : (∃ fd, Fun K d.nm d.nm (top d.ix) d.f fd) ∧ mg d.nm = some (.ref d.f) := ⟨fun_ld c i e, mg_ld X G c (List.mem_of_getElem? e)⟩
end
end
end Kx
end
section
set_option maxHeartbeats 4000000
namespace Kx
open PySem PySem.Spec PyProof.Rows L2
section
variable {P : Program} {w : World} {K : PySem.W.Frag} {mg : Str → Option Value} {h base : Heap} {CX : CXT} {k : Nat} {x : Str} {f : Addr} {fd : FuncData} {ps ks : List Str} {sp : Sp}
theorem use0 (G : FnOk P w K mg base CX k f fd ps sp) (b : Binds K fd ps []) (kp : PySem.W.keepIn K (.ref f) = true) (m : mg x = some (.ref f)) : Use P w K mg base CX k x ps sp [] := ⟨⟨f, fd, G, b, kp, m, (fun _ h => (nomatch h)), (fun _ h => (nomatch h))⟩⟩
theorem useR (G : FnOk P w K mg base CX k f fd ps sp) (b : Binds K fd ps []) (kp : PySem.W.keepIn K (.ref f) = true) (m : mg x = some (.ref f)) (kb : KBn K fd ps 0 ks revB revA) (hl : ¬ (ks.length = 1 ∧ ps.length = 2)) : Use P w K mg base CX k x ps sp [ks] :=
  ⟨⟨f, fd, G, b, kp, m, fun ks' h _ => by rw [List.mem_singleton.mp h]; exact kb, fun ks' h l1 l2 => absurd ⟨by rw [← List.mem_singleton.mp h]; exact l1, l2⟩ hl⟩⟩
theorem useN (G : FnOk P w K mg base CX k f fd ps sp) (b : Binds K fd ps []) (kp : PySem.W.keepIn K (.ref f) = true) (m : mg x = some (.ref f)) (kb : KBn K fd ps 1 ks appB appA) (hl : ks.length ≠ ps.length) : Use P w K mg base CX k x ps sp [ks] :=
  ⟨⟨f, fd, G, b, kp, m, fun ks' h l => absurd (by rw [← List.mem_singleton.mp h]; exact l) hl, fun ks' h _ _ => by rw [List.mem_singleton.mp h]; exact kb⟩⟩
end
def csT : List (Addr × Addr) := [(1307, 1303)]
theorem c1 : ((1307 : Addr), (1303 : Addr)) ∈ csT := List.mem_cons_self
abbrev lmN (x : Str) : Str := (x ++ ".<locals>.") ++ "<lambda>"
def tbT : List (Addr × Str) := [(1303, lmN "_law_refused")]
theorem t1 : ((1303 : Addr), lmN "_law_refused") ∈ tbT := List.mem_cons_self
theorem memN {α : Type} {p a0 : α} (h : p ∈ [a0]) : p = a0 := by simpa using h
theorem tu1 : ∀ p ∈ tbT, p.1 = 1303 → p.2 = lmN "_law_refused" := fun p hp e => by
  rcases memN hp with h <;> rw [h] at e ⊢
theorem allE {f : _root_.Fin 4 → Bool} (h : (List.finRange 4).all f = true) (i : _root_.Fin 4) : f i = true := List.all_eq_true.mp h i (List.mem_finRange i)
section
variable {P : Program} {w : World} {K : PySem.W.Frag} {mg : Str → Option Value} {h : Heap}
theorem facts {f : Addr} (X : K.In h) (G : h.Ns mainGlobals mg) (hfa : mg ("law" : Str) = some (.ref f)) (c : SaysR K) :
    ∃ fd : FuncData, (∀ (s : Shared) (v : Value), BindsTo s fd ⟨[v], []⟩ [("_law_script", v)]) ∧ ∀ base : Heap, K.In base → base.Ns mainGlobals mg → (∀ p ∈ csT, LamX.TabB base mg p.1 p.2) → FnOk P w K mg base CX0 14 f fd ["_law_script"] (spLaw K tbT) := by
  have mf : ∀ x ∈ freeN, mg x = none := fun x hx => mg_free X G c hx
  have mn := mf "len" (by decide)
  have mI := mf "isinstance" (by decide)
  have ml := mf "list" (by decide)
  have mt := mf "tuple" (by decide)
  have mi := mf "int" (by decide)
  have mr := mf "range" (by decide)
  have ma := mf "all" (by decide)
  have mz := mf "zip" (by decide)
  have mb := mf "bool" (by decide)
  have ms := mf "str" (by decide)
  have mabs := mf "abs" (by decide)
  have men := mf "enumerate" (by decide)
  have msum := mf "sum" (by decide)
  have mmin := mf "min" (by decide)
  have mmax := mf "max" (by decide)
  have mG : mg "gcd" = some (.builtin "math.gcd") := mg_at X G (c.fact 2)
  have mLc : mg "lcm" = some (.builtin "math.lcm") := mg_at X G (c.fact 3)
  have mS : mg "Step" = some (.ref stA) := mg_at X G (c.fact 4)
  have mT : mg "Tally" = some (.ref tyA) := mg_at X G (c.fact 5)
  have mR : mg "Row" = some (.ref rwA) := mg_at X G (c.fact 6)
  have mZ : mg "ZERO" = some (.ref zeA) := mg_at X G (c.fact 7)
  have mO : mg "ONE" = some (.ref onA) := mg_at X G (c.fact 8)
  have mM : mg "MINUS_ONE" = some (.ref moA) := mg_at X G (c.fact 9)
  have mC : mg "CreepError" = some (.ref ceA) := mg_at X G (c.fact 10)
  have mLO : ∃ u, mg "LOWEST_ORDER" = some u ∧ RelV (.int 2) u := let ⟨t, e⟩ := He.int_ok X G (c.fact 11); ⟨_, e, t, rfl⟩
  have mHO : ∃ u, mg "HIGHEST_ORDER" = some u ∧ RelV (.int 24) u := let ⟨t, e⟩ := He.int_ok X G (c.fact 12); ⟨_, e, t, rfl⟩
  have mMP : ∃ u, mg "MOST_POWER" = some u ∧ RelV (.int 64) u := let ⟨t, e⟩ := He.int_ok X G (c.fact 13); ⟨_, e, t, rfl⟩
  have k0 : KP K zeA 0 1 := kpB_ok (c.fact 14)
  have k1 : KP K onA 1 1 := kpB_ok (c.fact 15)
  have km : KP K moA (-1) 1 := kpB_ok (c.fact 16)
  obtain ⟨dm0, Fm0⟩ := fun_cl c 0
  obtain ⟨dm1, Fm1⟩ := fun_cl c 1
  obtain ⟨dm2, Fm2⟩ := fun_cl c 2
  obtain ⟨dm3, Fm3⟩ := fun_cl c 3
  obtain ⟨dm4, Fm4⟩ := fun_cl c 4
  obtain ⟨dm5, Fm5⟩ := fun_cl c 5
  obtain ⟨dm6, Fm6⟩ := fun_cl c 6
  obtain ⟨dm7, Fm7⟩ := fun_cl c 7
  obtain ⟨dm8, Fm8⟩ := fun_cl c 8
  obtain ⟨dm9, Fm9⟩ := fun_cl c 9
  obtain ⟨dm10, Fm10⟩ := fun_cl c 10
  obtain ⟨dm11, Fm11⟩ := fun_cl c 11
  obtain ⟨dm12, Fm12⟩ := fun_cl c 12
  obtain ⟨dm13, Fm13⟩ := fun_cl c 13
  obtain ⟨dm14, Fm14⟩ := fun_cl c 14
  obtain ⟨clR, nAR, MkR, rR, cR, tyR'⟩ := owB_ok (c.fact 18) Fm1.kp
  obtain ⟨clT, nAT, MkT, tyT'⟩ := owT_ok (c.fact 20)
  obtain ⟨clS, nAS, MkS, tyS'⟩ := owT_ok (c.fact 17)
  obtain ⟨x0, ty0, i0, fi0, n0⟩ := exB_ok (c.fact 22) ⟨_, _, F.excBase_ValueError, F.store_ValueError⟩
  obtain ⟨x1, ty1, i1, fi1, n1⟩ := exB_ok (c.fact 23) ⟨_, _, F.excBase_ValueError, F.store_ValueError⟩
  obtain ⟨x2, ty2, i2, fi2, n2⟩ := exB_ok (c.fact 24) ⟨_, _, F.excBase_ValueError, F.store_ValueError⟩
  obtain ⟨x3, ty3, i3, fi3, n3⟩ := exB_ok (c.fact 25) ⟨_, _, F.excBase_ValueError, F.store_ValueError⟩
  obtain ⟨x4, ty4, i4, fi4, n4⟩ := exB_ok (c.fact 26) ⟨_, _, F.excBase_ValueError, F.store_ValueError⟩
  obtain ⟨x5, ty5, i5, fi5, n5⟩ := exB_ok (c.fact 27) ⟨_, _, F.excBase_ValueError, F.store_ValueError⟩
  obtain ⟨x6, ty6, i6, fi6, n6⟩ := exB_ok (c.fact 28) ⟨_, _, F.excBase_ValueError, F.store_ValueError⟩
  obtain ⟨⟨d_is_whole, F_is_whole⟩, g_is_whole⟩ := at_ld X G c 0 rfl
  obtain ⟨⟨d_is_between, F_is_between⟩, g_is_between⟩ := at_ld X G c 1 rfl
  obtain ⟨⟨d_is_fraction, F_is_fraction⟩, g_is_fraction⟩ := at_ld X G c 2 rfl
  obtain ⟨⟨d_ratio, F_ratio⟩, g_ratio⟩ := at_ld X G c 3 rfl
  obtain ⟨⟨d_difference_of, F_difference_of⟩, g_difference_of⟩ := at_ld X G c 4 rfl
  obtain ⟨⟨d_product_of, F_product_of⟩, g_product_of⟩ := at_ld X G c 5 rfl
  obtain ⟨⟨d_quotient_of, F_quotient_of⟩, g_quotient_of⟩ := at_ld X G c 6 rfl
  obtain ⟨⟨d_is_listing, F_is_listing⟩, g_is_listing⟩ := at_ld X G c 7 rfl
  obtain ⟨⟨d_check_order, F_check_order⟩, g_check_order⟩ := at_ld X G c 8 rfl
  obtain ⟨⟨d_check_orders, F_check_orders⟩, g_check_orders⟩ := at_ld X G c 9 rfl
  obtain ⟨⟨d_check_number, F_check_number⟩, g_check_number⟩ := at_ld X G c 10 rfl
  obtain ⟨⟨d_wrong_item, F_wrong_item⟩, g_wrong_item⟩ := at_ld X G c 11 rfl
  obtain ⟨⟨d_check_fractions, F_check_fractions⟩, g_check_fractions⟩ := at_ld X G c 12 rfl
  obtain ⟨⟨d_checked_numbers, F_checked_numbers⟩, g_checked_numbers⟩ := at_ld X G c 13 rfl
  obtain ⟨⟨d_check_slow, F_check_slow⟩, g_check_slow⟩ := at_ld X G c 14 rfl
  obtain ⟨⟨d_is_zero, F_is_zero⟩, g_is_zero⟩ := at_ld X G c 15 rfl
  obtain ⟨⟨d_least_place, F_least_place⟩, g_least_place⟩ := at_ld X G c 16 rfl
  obtain ⟨⟨d_multiples_of, F_multiples_of⟩, g_multiples_of⟩ := at_ld X G c 17 rfl
  obtain ⟨⟨d_over_one_lower, F_over_one_lower⟩, g_over_one_lower⟩ := at_ld X G c 18 rfl
  obtain ⟨⟨d_multiplied, F_multiplied⟩, g_multiplied⟩ := at_ld X G c 19 rfl
  obtain ⟨⟨d_dot, F_dot⟩, g_dot⟩ := at_ld X G c 20 rfl
  obtain ⟨⟨d_mixed, F_mixed⟩, g_mixed⟩ := at_ld X G c 21 rfl
  obtain ⟨⟨d_kind_of, F_kind_of⟩, g_kind_of⟩ := at_ld X G c 22 rfl
  obtain ⟨⟨d_solved, F_solved⟩, g_solved⟩ := at_ld X G c 23 rfl
  obtain ⟨⟨d_log_slopes, F_log_slopes⟩, g_log_slopes⟩ := at_ld X G c 24 rfl
  obtain ⟨⟨d_unit_log, F_unit_log⟩, g_unit_log⟩ := at_ld X G c 25 rfl
  obtain ⟨⟨d_unit_power, F_unit_power⟩, g_unit_power⟩ := at_ld X G c 26 rfl
  obtain ⟨⟨d_raised, F_raised⟩, g_raised⟩ := at_ld X G c 27 rfl
  obtain ⟨⟨d_power_of, F_power_of⟩, g_power_of⟩ := at_ld X G c 28 rfl
  obtain ⟨⟨d_letters_behind, F_letters_behind⟩, g_letters_behind⟩ := at_ld X G c 29 rfl
  obtain ⟨⟨d_checked_tally, F_checked_tally⟩, g_checked_tally⟩ := at_ld X G c 30 rfl
  obtain ⟨⟨d_letter_gains, F_letter_gains⟩, g_letter_gains⟩ := at_ld X G c 31 rfl
  obtain ⟨⟨d_check_flats, F_check_flats⟩, g_check_flats⟩ := at_ld X G c 32 rfl
  obtain ⟨⟨d_check_creep, F_check_creep⟩, g_check_creep⟩ := at_ld X G c 33 rfl
  obtain ⟨⟨d_gain, F_gain⟩, g_gain⟩ := at_ld X G c 34 rfl
  obtain ⟨⟨d_along, F_along⟩, g_along⟩ := at_ld X G c 35 rfl
  obtain ⟨⟨d_clock_of, F_clock_of⟩, g_clock_of⟩ := at_ld X G c 36 rfl
  obtain ⟨⟨d__law_bag, F__law_bag⟩, g__law_bag⟩ := at_ld X G c 37 rfl
  obtain ⟨⟨d__law_draw, F__law_draw⟩, g__law_draw⟩ := at_ld X G c 38 rfl
  obtain ⟨⟨d__law_of, F__law_of⟩, g__law_of⟩ := at_ld X G c 39 rfl
  obtain ⟨⟨d__law_same, F__law_same⟩, g__law_same⟩ := at_ld X G c 40 rfl
  obtain ⟨⟨d__law_low, F__law_low⟩, g__law_low⟩ := at_ld X G c 41 rfl
  obtain ⟨⟨d__law_add, F__law_add⟩, g__law_add⟩ := at_ld X G c 42 rfl
  obtain ⟨⟨d__law_sub, F__law_sub⟩, g__law_sub⟩ := at_ld X G c 43 rfl
  obtain ⟨⟨d__law_mul, F__law_mul⟩, g__law_mul⟩ := at_ld X G c 44 rfl
  obtain ⟨⟨d__law_div, F__law_div⟩, g__law_div⟩ := at_ld X G c 45 rfl
  obtain ⟨⟨d__law_plus, F__law_plus⟩, g__law_plus⟩ := at_ld X G c 46 rfl
  obtain ⟨⟨d__law_zeros, F__law_zeros⟩, g__law_zeros⟩ := at_ld X G c 47 rfl
  obtain ⟨⟨d__law_x, F__law_x⟩, g__law_x⟩ := at_ld X G c 48 rfl
  obtain ⟨⟨d__law_whole, F__law_whole⟩, g__law_whole⟩ := at_ld X G c 49 rfl
  obtain ⟨⟨d__law_conv, F__law_conv⟩, g__law_conv⟩ := at_ld X G c 50 rfl
  obtain ⟨⟨d__law_prod, F__law_prod⟩, g__law_prod⟩ := at_ld X G c 51 rfl
  obtain ⟨⟨d__law_slope, F__law_slope⟩, g__law_slope⟩ := at_ld X G c 52 rfl
  obtain ⟨⟨d__law_recip, F__law_recip⟩, g__law_recip⟩ := at_ld X G c 53 rfl
  obtain ⟨⟨d__law_log_row, F__law_log_row⟩, g__law_log_row⟩ := at_ld X G c 54 rfl
  obtain ⟨⟨d__law_parts, F__law_parts⟩, g__law_parts⟩ := at_ld X G c 55 rfl
  obtain ⟨⟨d__law_gain, F__law_gain⟩, g__law_gain⟩ := at_ld X G c 56 rfl
  obtain ⟨⟨d__law_num, F__law_num⟩, g__law_num⟩ := at_ld X G c 57 rfl
  obtain ⟨⟨d__law_not0, F__law_not0⟩, g__law_not0⟩ := at_ld X G c 58 rfl
  obtain ⟨⟨d__law_wide, F__law_wide⟩, g__law_wide⟩ := at_ld X G c 59 rfl
  obtain ⟨⟨d__law_order, F__law_order⟩, g__law_order⟩ := at_ld X G c 60 rfl
  obtain ⟨⟨d__law_flat, F__law_flat⟩, g__law_flat⟩ := at_ld X G c 61 rfl
  obtain ⟨⟨d__law_tail, F__law_tail⟩, g__law_tail⟩ := at_ld X G c 62 rfl
  obtain ⟨⟨d__law_creep, F__law_creep⟩, g__law_creep⟩ := at_ld X G c 63 rfl
  obtain ⟨⟨d__law_step, F__law_step⟩, g__law_step⟩ := at_ld X G c 64 rfl
  obtain ⟨⟨d__law_not_slow, F__law_not_slow⟩, g__law_not_slow⟩ := at_ld X G c 65 rfl
  obtain ⟨⟨d__law_is_fraction, F__law_is_fraction⟩, g__law_is_fraction⟩ := at_ld X G c 66 rfl
  obtain ⟨⟨d__law_is_step, F__law_is_step⟩, g__law_is_step⟩ := at_ld X G c 67 rfl
  obtain ⟨⟨d__law_is_tally, F__law_is_tally⟩, g__law_is_tally⟩ := at_ld X G c 68 rfl
  obtain ⟨⟨d__law_one, F__law_one⟩, g__law_one⟩ := at_ld X G c 69 rfl
  obtain ⟨⟨d__law_nums, F__law_nums⟩, g__law_nums⟩ := at_ld X G c 70 rfl
  obtain ⟨⟨d__law_no_creep, F__law_no_creep⟩, g__law_no_creep⟩ := at_ld X G c 71 rfl
  obtain ⟨⟨d__law_creep_error, F__law_creep_error⟩, g__law_creep_error⟩ := at_ld X G c 72 rfl
  obtain ⟨⟨d__law_fits, F__law_fits⟩, g__law_fits⟩ := at_ld X G c 73 rfl
  obtain ⟨⟨d__law_try, F__law_try⟩, g__law_try⟩ := at_ld X G c 74 rfl
  obtain ⟨⟨d__law_spoilt, F__law_spoilt⟩, g__law_spoilt⟩ := at_ld X G c 75 rfl
  obtain ⟨⟨d__law_refused, F__law_refused⟩, g__law_refused⟩ := at_ld X G c 76 rfl
  obtain ⟨⟨d__law_once, F__law_once⟩, g__law_once⟩ := at_ld X G c 77 rfl
  obtain ⟨⟨d_law, F_law⟩, g_law⟩ := at_ld X G c 78 rfl
  have b_is_whole : Binds K d_is_whole ["value"] [] := F_is_whole.binds fun _ _ _ _ _ _ us hl => match us, hl with | [_], _ => rfl
  have b_is_between : Binds K d_is_between ["value", "low", "high"] [] := F_is_between.binds fun _ _ _ _ _ _ us hl => match us, hl with | [_, _, _], _ => rfl
  have b_is_fraction : Binds K d_is_fraction ["value"] [] := F_is_fraction.binds fun _ _ _ _ _ _ us hl => match us, hl with | [_], _ => rfl
  have b_ratio : Binds K d_ratio ["upper", "lower"] [] := F_ratio.binds fun _ _ _ _ _ _ us hl => match us, hl with | [_, _], _ => rfl
  have b_difference_of : Binds K d_difference_of ["one", "other"] [] := F_difference_of.binds fun _ _ _ _ _ _ us hl => match us, hl with | [_, _], _ => rfl
  have b_product_of : Binds K d_product_of ["one", "other"] [] := F_product_of.binds fun _ _ _ _ _ _ us hl => match us, hl with | [_, _], _ => rfl
  have b_quotient_of : Binds K d_quotient_of ["one", "other"] [] := F_quotient_of.binds fun _ _ _ _ _ _ us hl => match us, hl with | [_, _], _ => rfl
  have b_is_listing : Binds K d_is_listing ["value"] [] := F_is_listing.binds fun _ _ _ _ _ _ us hl => match us, hl with | [_], _ => rfl
  have b_check_order : Binds K d_check_order ["order"] [] := F_check_order.binds fun _ _ _ _ _ _ us hl => match us, hl with | [_], _ => rfl
  have b_check_orders : Binds K d_check_orders ["one", "other"] [] := F_check_orders.binds fun _ _ _ _ _ _ us hl => match us, hl with | [_, _], _ => rfl
  have b_check_number : Binds K d_check_number ["value"] [] := F_check_number.binds fun _ _ _ _ _ _ us hl => match us, hl with | [_], _ => rfl
  have b_wrong_item : Binds K d_wrong_item ["numbers"] [] := F_wrong_item.binds fun _ _ _ _ _ _ us hl => match us, hl with | [_], _ => rfl
  have b_check_fractions : Binds K d_check_fractions ["numbers"] [] := F_check_fractions.binds fun _ _ _ _ _ _ us hl => match us, hl with | [_], _ => rfl
  have b_checked_numbers : Binds K d_checked_numbers ["numbers", "further"] [] := F_checked_numbers.binds fun _ _ _ _ _ _ us hl => match us, hl with | [_, _], _ => rfl
  have b_check_slow : Binds K d_check_slow ["step"] [] := F_check_slow.binds fun _ _ _ _ _ _ us hl => match us, hl with | [_], _ => rfl
  have b_is_zero : Binds K d_is_zero ["numbers"] [] := F_is_zero.binds fun _ _ _ _ _ _ us hl => match us, hl with | [_], _ => rfl
  have b_least_place : Binds K d_least_place ["numbers", "first"] [] := F_least_place.binds fun _ _ _ _ _ _ us hl => match us, hl with | [_, _], _ => rfl
  have b_multiples_of : Binds K d_multiples_of ["numbers", "t"] [] := F_multiples_of.binds fun _ _ _ _ _ _ us hl => match us, hl with | [_, _], _ => rfl
  have b_over_one_lower : Binds K d_over_one_lower ["numbers"] [] := F_over_one_lower.binds fun _ _ _ _ _ _ us hl => match us, hl with | [_], _ => rfl
  have b_multiplied : Binds K d_multiplied ["one", "other"] [] := F_multiplied.binds fun _ _ _ _ _ _ us hl => match us, hl with | [_, _], _ => rfl
  have b_dot : Binds K d_dot ["ones", "others"] [] := F_dot.binds fun _ _ _ _ _ _ us hl => match us, hl with | [_, _], _ => rfl
  have b_mixed : Binds K d_mixed ["factors", "lists"] [] := F_mixed.binds fun _ _ _ _ _ _ us hl => match us, hl with | [_, _], _ => rfl
  have b_kind_of : Binds K d_kind_of ["numbers"] [] := F_kind_of.binds fun _ _ _ _ _ _ us hl => match us, hl with | [_], _ => rfl
  have b_solved : Binds K d_solved ["lines", "wanted"] [] := F_solved.binds fun _ _ _ _ _ _ us hl => match us, hl with | [_, _], _ => rfl
  have b_log_slopes : Binds K d_log_slopes ["numbers"] [] := F_log_slopes.binds fun _ _ _ _ _ _ us hl => match us, hl with | [_], _ => rfl
  have b_unit_log : Binds K d_unit_log ["numbers"] [] := F_unit_log.binds fun _ _ _ _ _ _ us hl => match us, hl with | [_], _ => rfl
  have b_unit_power : Binds K d_unit_power ["numbers", "t"] [] := F_unit_power.binds fun _ _ _ _ _ _ us hl => match us, hl with | [_, _], _ => rfl
  have b_raised : Binds K d_raised ["base", "n"] [] := F_raised.binds fun _ _ _ _ _ _ us hl => match us, hl with | [_, _], _ => rfl
  have b_power_of : Binds K d_power_of ["value", "n"] [] := F_power_of.binds fun _ _ _ _ _ _ us hl => match us, hl with | [_, _], _ => rfl
  have b_letters_behind : Binds K d_letters_behind ["flat", "numbers"] [] := F_letters_behind.binds fun _ _ _ _ _ _ us hl => match us, hl with | [_, _], _ => rfl
  have b_checked_tally : Binds K d_checked_tally ["flat", "numbers"] [] := F_checked_tally.binds fun _ _ _ _ _ _ us hl => match us, hl with | [_, _], _ => rfl
  have b_letter_gains : Binds K d_letter_gains ["creep"] [] := F_letter_gains.binds fun _ _ _ _ _ _ us hl => match us, hl with | [_], _ => rfl
  have b_check_flats : Binds K d_check_flats ["one", "other"] [] := F_check_flats.binds fun _ _ _ _ _ _ us hl => match us, hl with | [_, _], _ => rfl
  have b_check_creep : Binds K d_check_creep ["step"] [] := F_check_creep.binds fun _ _ _ _ _ _ us hl => match us, hl with | [_], _ => rfl
  have b_gain : Binds K d_gain ["tally", "creep"] [] := F_gain.binds fun _ _ _ _ _ _ us hl => match us, hl with | [_, _], _ => rfl
  have b_along : Binds K d_along ["row", "creep"] [] := F_along.binds fun _ _ _ _ _ _ us hl => match us, hl with | [_, _], _ => rfl
  have b_clock_of : Binds K d_clock_of ["creep"] [] := F_clock_of.binds fun _ _ _ _ _ _ us hl => match us, hl with | [_], _ => rfl
  have b__law_bag : Binds K d__law_bag ["_law_script"] [] := F__law_bag.binds fun _ _ _ _ _ _ us hl => match us, hl with | [_], _ => rfl
  have b__law_draw : Binds K d__law_draw ["_law_bag_here", "_law_many_y"] [] := F__law_draw.binds fun _ _ _ _ _ _ us hl => match us, hl with | [_, _], _ => rfl
  have b__law_of : Binds K d__law_of ["_law_bag_here", "_law_things"] [] := F__law_of.binds fun _ _ _ _ _ _ us hl => match us, hl with | [_, _], _ => rfl
  have b__law_same : Binds K d__law_same ["_law_found", "_law_due"] [] := F__law_same.binds fun _ _ _ _ _ _ us hl => match us, hl with | [_, _], _ => rfl
  have b__law_low : Binds K d__law_low ["_law_num_here", "_law_den"] [] := F__law_low.binds fun _ _ _ _ _ _ us hl => match us, hl with | [_, _], _ => rfl
  have b__law_add : Binds K d__law_add ["_law_p", "_law_q"] [] := F__law_add.binds fun _ _ _ _ _ _ us hl => match us, hl with | [_, _], _ => rfl
  have b__law_sub : Binds K d__law_sub ["_law_p", "_law_q"] [] := F__law_sub.binds fun _ _ _ _ _ _ us hl => match us, hl with | [_, _], _ => rfl
  have b__law_mul : Binds K d__law_mul ["_law_p", "_law_q"] [] := F__law_mul.binds fun _ _ _ _ _ _ us hl => match us, hl with | [_, _], _ => rfl
  have b__law_div : Binds K d__law_div ["_law_p", "_law_q"] [] := F__law_div.binds fun _ _ _ _ _ _ us hl => match us, hl with | [_, _], _ => rfl
  have b__law_plus : Binds K d__law_plus ["_law_u", "_law_w"] [] := F__law_plus.binds fun _ _ _ _ _ _ us hl => match us, hl with | [_, _], _ => rfl
  have b__law_zeros : Binds K d__law_zeros ["_law_many_y"] [] := F__law_zeros.binds fun _ _ _ _ _ _ us hl => match us, hl with | [_], _ => rfl
  have b__law_x : Binds K d__law_x ["_law_deg"] [] := F__law_x.binds fun _ _ _ _ _ _ us hl => match us, hl with | [_], _ => rfl
  have b__law_whole : Binds K d__law_whole ["_law_u"] [] := F__law_whole.binds fun _ _ _ _ _ _ us hl => match us, hl with | [_], _ => rfl
  have b__law_conv : Binds K d__law_conv ["_law_xs", "_law_ys"] [] := F__law_conv.binds fun _ _ _ _ _ _ us hl => match us, hl with | [_, _], _ => rfl
  have b__law_prod : Binds K d__law_prod ["_law_u", "_law_w"] [] := F__law_prod.binds fun _ _ _ _ _ _ us hl => match us, hl with | [_, _], _ => rfl
  have b__law_slope : Binds K d__law_slope ["_law_u"] [] := F__law_slope.binds fun _ _ _ _ _ _ us hl => match us, hl with | [_], _ => rfl
  have b__law_recip : Binds K d__law_recip ["_law_u"] [] := F__law_recip.binds fun _ _ _ _ _ _ us hl => match us, hl with | [_], _ => rfl
  have b__law_log_row : Binds K d__law_log_row ["_law_u"] [] := F__law_log_row.binds fun _ _ _ _ _ _ us hl => match us, hl with | [_], _ => rfl
  have b__law_parts : Binds K d__law_parts ["_law_s", "_law_kk", "_law_count_y"] [] := F__law_parts.binds fun _ _ _ _ _ _ us hl => match us, hl with | [_, _, _], _ => rfl
  have b__law_gain : Binds K d__law_gain ["_law_nums_here", "_law_kk", "_law_f"] [] := F__law_gain.binds fun _ _ _ _ _ _ us hl => match us, hl with | [_, _, _], _ => rfl
  have b__law_num : Binds K d__law_num ["_law_bag_here"] [] := F__law_num.binds fun _ _ _ _ _ _ us hl => match us, hl with | [_], _ => rfl
  have b__law_not0 : Binds K d__law_not0 ["_law_bag_here"] [] := F__law_not0.binds fun _ _ _ _ _ _ us hl => match us, hl with | [_], _ => rfl
  have b__law_wide : Binds K d__law_wide ["_law_bag_here"] [] := F__law_wide.binds fun _ _ _ _ _ _ us hl => match us, hl with | [_], _ => rfl
  have b__law_order : Binds K d__law_order ["_law_bag_here"] [] := F__law_order.binds fun _ _ _ _ _ _ us hl => match us, hl with | [_], _ => rfl
  have b__law_flat : Binds K d__law_flat ["_law_bag_here", "_law_deg"] [] := F__law_flat.binds fun _ _ _ _ _ _ us hl => match us, hl with | [_, _], _ => rfl
  have b__law_tail : Binds K d__law_tail ["_law_bag_here", "_law_deg", "_law_kk"] [] := F__law_tail.binds fun _ _ _ _ _ _ us hl => match us, hl with | [_, _, _], _ => rfl
  have b__law_creep : Binds K d__law_creep ["_law_bag_here", "_law_deg", "_law_kk"] [] := F__law_creep.binds fun _ _ _ _ _ _ us hl => match us, hl with | [_, _, _], _ => rfl
  have b__law_step : Binds K d__law_step ["_law_bag_here", "_law_deg", "_law_cc"] [] := F__law_step.binds fun _ _ _ _ _ _ us hl => match us, hl with | [_, _, _], _ => rfl
  have b__law_not_slow : Binds K d__law_not_slow ["_law_bag_here", "_law_deg"] [] := F__law_not_slow.binds fun _ _ _ _ _ _ us hl => match us, hl with | [_, _], _ => rfl
  have b__law_is_fraction : Binds K d__law_is_fraction ["_law_p"] [] := F__law_is_fraction.binds fun _ _ _ _ _ _ us hl => match us, hl with | [_], _ => rfl
  have b__law_is_step : Binds K d__law_is_step ["_law_told", "_law_f"] [] := F__law_is_step.binds fun _ _ _ _ _ _ us hl => match us, hl with | [_, _], _ => rfl
  have b__law_is_tally : Binds K d__law_is_tally ["_law_told", "_law_nums_here", "_law_kk"] [] := F__law_is_tally.binds fun _ _ _ _ _ _ us hl => match us, hl with | [_, _, _], _ => rfl
  have b__law_one : Binds K d__law_one ["_law_count_y"] [] := F__law_one.binds fun _ _ _ _ _ _ us hl => match us, hl with | [_], _ => rfl
  have b__law_nums : Binds K d__law_nums ["_law_bag_here", "_law_kk", "_law_deg"] [] := F__law_nums.binds fun _ _ _ _ _ _ us hl => match us, hl with | [_, _, _], _ => rfl
  have b__law_no_creep : Binds K d__law_no_creep ["_law_bag_here", "_law_deg"] [] := F__law_no_creep.binds fun _ _ _ _ _ _ us hl => match us, hl with | [_, _], _ => rfl
  have b__law_creep_error : Binds K d__law_creep_error ["_law_f"] [] := F__law_creep_error.binds fun _ _ _ _ _ _ us hl => match us, hl with | [_], _ => rfl
  have b__law_fits : Binds K d__law_fits ["_law_u"] [] := F__law_fits.binds fun _ _ _ _ _ _ us hl => match us, hl with | [_], _ => rfl
  have b__law_try : Binds K d__law_try ["_law_ask"] [] := F__law_try.binds fun _ _ _ _ _ _ us hl => match us, hl with | [_], _ => rfl
  have b__law_spoilt : Binds K d__law_spoilt ["_law_bag_here", "_law_f", "_law_nums_here", "_law_kk"] [] := F__law_spoilt.binds fun _ _ _ _ _ _ us hl => match us, hl with | [_, _, _, _], _ => rfl
  have b__law_refused : Binds K d__law_refused ["_law_bag_here", "_law_f", "_law_kk"] [] := F__law_refused.binds fun _ _ _ _ _ _ us hl => match us, hl with | [_, _, _], _ => rfl
  have b__law_once : Binds K d__law_once ["_law_bag_here"] [] := F__law_once.binds fun _ _ _ _ _ _ us hl => match us, hl with | [_], _ => rfl
  have b_law : Binds K d_law ["_law_script"] [] := F_law.binds fun _ _ _ _ _ _ us hl => match us, hl with | [_], _ => rfl
  have bm0 : Binds K dm0 ["self", "numbers"] [] := Fm0.binds fun _ _ _ _ _ _ us hl => match us, hl with | [_, _], _ => rfl
  have bm1 : Binds K dm1 ["value", "order"] [] := Fm1.binds fun _ _ _ _ _ _ us hl => match us, hl with | [_, _], _ => rfl
  have bm2 : Binds K dm2 ["self", "numbers"] [] := Fm2.binds fun _ _ _ _ _ _ us hl => match us, hl with | [_, _], _ => rfl
  have bm3 : Binds K dm3 ["self"] [] := Fm3.binds fun _ _ _ _ _ _ us hl => match us, hl with | [_], _ => rfl
  have bm4 : Binds K dm4 ["self", "flat", "numbers"] [] := Fm4.binds fun _ _ _ _ _ _ us hl => match us, hl with | [_, _, _], _ => rfl
  have bm5 : Binds K dm5 ["self"] [] := Fm5.binds fun _ _ _ _ _ _ us hl => match us, hl with | [_], _ => rfl
  have bm6 : Binds K dm6 ["self"] [] := Fm6.binds fun _ _ _ _ _ _ us hl => match us, hl with | [_], _ => rfl
  have bm7 : Binds K dm7 ["self"] [] := Fm7.binds fun _ _ _ _ _ _ us hl => match us, hl with | [_], _ => rfl
  have bm8 : Binds K dm8 ["self", "one", "other"] [] := Fm8.binds fun _ _ _ _ _ _ us hl => match us, hl with | [_, _, _], _ => rfl
  have bm9 : Binds K dm9 ["self", "first"] [] := Fm9.binds fun _ _ _ _ _ _ us hl => match us, hl with | [_, _], _ => rfl
  have bm10 : Binds K dm10 ["self", "have"] [] := Fm10.binds fun _ _ _ _ _ _ us hl => match us, hl with | [_, _], _ => rfl
  have bm11 : Binds K dm11 ["self", "one", "other"] [] := Fm11.binds fun _ _ _ _ _ _ us hl => match us, hl with | [_, _, _], _ => rfl
  have bm12 : Binds K dm12 ["self", "at"] [] := Fm12.binds fun _ _ _ _ _ _ us hl => match us, hl with | [_, _], _ => rfl
  have bm13 : Binds K dm13 ["self", "value"] [] := Fm13.binds fun _ _ _ _ _ _ us hl => match us, hl with | [_, _], _ => rfl
  have bm14 : Binds K dm14 ["self", "value"] [] := Fm14.binds fun _ _ _ _ _ _ us hl => match us, hl with | [_, _], _ => rfl
  have e : f = 1320 := Value.ref.inj (Option.some.inj (hfa.symm.trans g_law))
  subst e
  refine ⟨d_law, fun s v => ?_, fun base _ _ hTB => ?_⟩
  · obtain ⟨oc, od, kV, doc, pm, an, cdv, ct, osl, e, lk, hcd⟩ := F_law.ex
    rw [e]
    exact .of_eq rfl
  have Z0 : ErrC P w K mg base "UnlikeOrders" 2 (fs2 "UnlikeOrders" "one" "other") (csE 0) := ⟨x0, ty0, mg_at X G (c.fact 29), 133, dm8, _, i0, fi0, init_5 Fm8 x0 (n0 _ (by decide)) (n0 _ (by decide)) (n0 _ (by decide)), bm8⟩
  have Z1 : ErrC P w K mg base "NotSlow" 1 (fs1 "NotSlow" "first") (csE 1) := ⟨x1, ty1, mg_at X G (c.fact 30), 209, dm9, _, i1, fi1, init_NotSlow Fm9 x1 (n1 _ (by decide)) (n1 _ (by decide)), bm9⟩
  have Z2 : ErrC P w K mg base "IsStill" 1 (fs1 "IsStill" "have") (csE 2) := ⟨x2, ty2, mg_at X G (c.fact 31), 228, dm10, _, i2, fi2, init_IsStill Fm10 x2 (n2 _ (by decide)) (n2 _ (by decide)), bm10⟩
  have Z3 : ErrC P w K mg base "UnlikeFlats" 2 (fs2 "UnlikeFlats" "one" "other") (csE 3) := ⟨x3, ty3, mg_at X G (c.fact 32), 266, dm11, _, i3, fi3, init_UF Fm11 x3 (n3 _ (by decide)) (n3 _ (by decide)) (n3 _ (by decide)), bm11⟩
  have Z4 : ErrC P w K mg base "InvalidFraction" 1 (fs1 "InvalidFraction" "at") cfA := ⟨x4, ty4, mg_at X G (c.fact 33), 95, dm12, _, i4, fi4, init_2 Fm12 x4 (n4 _ (by decide)) (n4 _ (by decide)), bm12⟩
  have Z5 : ErrC P w K mg base "InvalidOrder" 1 (fs1 "InvalidOrder" "value") coA := ⟨x5, ty5, mg_at X G (c.fact 34), 114, dm13, _, i5, fi5, init_3 Fm13 x5 (n5 _ (by decide)) (n5 _ (by decide)), bm13⟩
  have Z6 : ErrC P w K mg base "InvalidNumber" 1 (fs1 "InvalidNumber" "value") cnA := ⟨x6, ty6, mg_at X G (c.fact 35), 76, dm14, _, i6, fi6, init_1 Fm14 x6 (n6 _ (by decide)) (n6 _ (by decide)), bm14⟩
  have Uw : Use P w K mg base CX0 1 "is_whole" ["value"] (spWhole K) [] := use0 (ok_whole F_is_whole mI mi mb) b_is_whole F_is_whole.kp g_is_whole
  have Ub : Use P w K mg base CX0 2 "is_between" ["value", "low", "high"] (spBtw K) [] := use0 (ok_btw F_is_between Uw) b_is_between F_is_between.kp g_is_between
  have Uf : Use P w K mg base CX0 2 "is_fraction" ["value"] (spIsG K) [] := use0 (ok_isg F_is_fraction mI mt mn mG Uw) b_is_fraction F_is_fraction.kp g_is_fraction
  have Ur : Use P w K mg base CX0 1 "ratio" ["upper", "lower"] spLowQ [] := use0 (ok_ratio F_ratio mG) b_ratio F_ratio.kp g_ratio
  have Udf : Use P w K mg base CX0 2 "difference_of" ["one", "other"] (spTwoQ K (· - ·)) [] := use0 (ok_difference F_difference_of Ur) b_difference_of F_difference_of.kp g_difference_of
  have Upr : Use P w K mg base CX0 2 "product_of" ["one", "other"] (spTwoQ K (· * ·)) [] := use0 (ok_product F_product_of Ur) b_product_of F_product_of.kp g_product_of
  have Uqu : Use P w K mg base CX0 2 "quotient_of" ["one", "other"] (spDivQ K) [] := use0 (ok_quotient F_quotient_of Ur) b_quotient_of F_quotient_of.kp g_quotient_of
  have Uco : Use P w K mg base (L2.CX P w) 3 "check_order" ["order"] (spCo K coA) [] := use0 (ok_corder F_check_order Ub mLO mHO Z5) b_check_order F_check_order.kp g_check_order
  have Ucs : Use P w K mg base (L2.CX P w) 3 "check_orders" ["one", "other"] (spCor K (csE 0)) [] := use0 (ok_corders F_check_orders Z0) b_check_orders F_check_orders.kp g_check_orders
  have Uck : Use P w K mg base (L2.CX P w) 3 "check_number" ["value"] (spCkN K) [] := use0 (fn_imp (ok_cnum F_check_number Uf Z6) (fun _ _ _ _ ⟨v, q, e, hn, g⟩ => ⟨v, true, e, hn.isG, fun _ => g, fun z => Bool.noConfusion z⟩)) b_check_number F_check_number.kp g_check_number
  have Uil : Use P w K mg base CX0 1 "is_listing" ["value"] (spIl K) [] := use0 (ok_listing F_is_listing mI ml mt) b_is_listing F_is_listing.kp g_is_listing
  have Uwi : Use P w K mg base CX0 3 "wrong_item" ["numbers"] (spWi K) [] := use0 (ok_wrong F_wrong_item men Uf) b_wrong_item F_wrong_item.kp g_wrong_item
  have Ucf : Use P w K mg base (L2.CX P w) 4 "check_fractions" ["numbers"] (spCf K cfA) [] := use0 (ok_cfrac F_check_fractions Uwi Z4) b_check_fractions F_check_fractions.kp g_check_fractions
  have Ucn : Use P w K mg base (L2.CX P w) 5 "checked_numbers" ["numbers", "further"] (spCn K cfA coA) [] := use0 (ok_checked F_checked_numbers mn ml Uil Uco Ucf Z4) b_checked_numbers F_checked_numbers.kp g_checked_numbers
  have Uiz : Use P w K mg base CX0 1 "is_zero" ["numbers"] (spIz K) [] := use0 (ok_iszero F_is_zero k0 ma mZ) b_is_zero F_is_zero.kp g_is_zero
  have Ulp : Use P w K mg base CX0 1 "least_place" ["numbers", "first"] (spLp K) [] := use0 (ok_least F_least_place k0 men mZ) b_least_place F_least_place.kp g_least_place
  have Uol : Use P w K mg base CX0 1 "over_one_lower" ["numbers"] (spOol K) [] := use0 (ok_ool F_over_one_lower mLc) b_over_one_lower F_over_one_lower.kp g_over_one_lower
  have Umd : Use P w K mg base CX0 2 "multiplied" ["one", "other"] (spMulL K) [] := use0 (ok_multiplied F_multiplied mn mr msum Uol Ur) b_multiplied F_multiplied.kp g_multiplied
  have Umu : Use P w K mg base CX0 3 "multiples_of" ["numbers", "t"] (spMulsL K) [] := use0 (ok_multiples F_multiples_of Upr) b_multiples_of F_multiples_of.kp g_multiples_of
  have Udo : Use P w K mg base CX0 2 "dot" ["ones", "others"] (spDot K) [] := use0 (ok_dot F_dot mz mLc Ur) b_dot F_dot.kp g_dot
  have Umx : Use P w K mg base CX0 3 "mixed" ["factors", "lists"] (spMix K) [] := use0 (ok_mixed F_mixed mn mr Udo) b_mixed F_mixed.kp g_mixed
  have Uko : Use P w K mg base CX0 2 "kind_of" ["numbers"] (spKo K) [] := use0 (ok_kind F_kind_of k1 k0 km mZ mO mM Uiz) b_kind_of F_kind_of.kp g_kind_of
  have Usv : Use P w K mg base CX0 3 "solved" ["lines", "wanted"] (spSolv K) [] := use0 (ok_solved F_solved men Udo Udf Uqu) b_solved F_solved.kp g_solved
  have Uls : Use P w K mg base CX0 3 "log_slopes" ["numbers"] (spLsL K) [] := use0 (ok_lsl F_log_slopes mn mr Udo Udf Upr) b_log_slopes F_log_slopes.kp g_log_slopes
  have Ulg : Use P w K mg base CX0 4 "unit_log" ["numbers"] (spLgL K) [] := use0 (ok_lgl F_unit_log men k0 mZ Uls Uqu) b_unit_log F_unit_log.kp g_unit_log
  have Upw : Use P w K mg base CX0 4 "unit_power" ["numbers", "t"] (spPwL K) [] := use0 (ok_pwl F_unit_power mn mr k1 mO Uls Udo Upr Uqu) b_unit_power F_unit_power.kp g_unit_power
  have Urs : Use P w K mg base CX0 1 "raised" ["base", "n"] spRsd1 [] := use0 (ok_raised1 F_raised mr) b_raised F_raised.kp g_raised
  have Upo : Use P w K mg base CX0 3 "power_of" ["value", "n"] (spPwo1 K) [] := use0 (ok_powerof1 F_power_of mMP Ub Urs Ur) b_power_of F_power_of.kp g_power_of
  have Ulb : Use P w K mg base CX0 5 "letters_behind" ["flat", "numbers"] (spLtb K) [] := use0 (ok_letters F_letters_behind mn mr k0 mZ k1 mO Uqu Umu Upw Upo Ulg Umd) b_letters_behind F_letters_behind.kp g_letters_behind
  have Uct : Use P w K mg base (L2.CX P w) 5 "checked_tally" ["flat", "numbers"] (spCkt K) [] := use0 (ok_cktally F_checked_tally mn ml mHO Ub Uil Ucf) b_checked_tally F_checked_tally.kp g_checked_tally
  have Ucl : Use P w K mg base (L2.CX P w) 3 "check_flats" ["one", "other"] (spCfl K (csE 3)) [] := use0 (ok_cflats F_check_flats Z3) b_check_flats F_check_flats.kp g_check_flats
  have sk : StepK P w K mg base ceA stA cfA coA := ⟨clS, nAS, mS, ⟨_, _, MkS, ok_stinitF Fm0 clS nAS mn Ucn Uko Ulp, bm0⟩⟩
  have tk : TaK P w K mg base tyA := ⟨clT, nAT, mT, ⟨_, _, MkT, ok_tainit Fm4 clT nAT mn Uct, bm4⟩⟩
  have rk : RowK P w K mg base rwA cfA coA := ⟨clR, nAR, mR, ⟨_, _, MkR, ok_rwinit Fm2 clR nAR mn Ucn Ulp, bm2⟩⟩
  have isT : IsS K tyA := ⟨tyT', of_decide_eq_true (c.fact 19)⟩
  have mt' : ∀ t ∈ mtT, PySem.W.findIn K (.ref t.1) t.2.2 = some (some (.ref t.2.1)) ∧ PySem.W.isFn K (.ref t.2.1) = true := fun t ht => by
    obtain ⟨h1, h2⟩ := He.ba (List.all_eq_true.mp (c.fact 37) t ht)
    exact ⟨He.eqO_ok h1, h2⟩
  have Ucw : Use P w K mg base (L2.CX P w) 3 "check_slow" ["step"] (spCkS K stA (csE 1)) [] := use0 (ok_cslow F_check_slow sk k1 mO Z1) b_check_slow F_check_slow.kp g_check_slow
  have Ucc : Use P w K mg base (L2.CX P w) 4 "check_creep" ["step"] (spCkc K stA (csE 1) (csE 2)) [] := use0 (ok_ccreep F_check_creep sk Ucw Z2) b_check_creep F_check_creep.kp g_check_creep
  have Rnu : MUse P w K mg base CX0 1 rwA "numbers" ["self"] (spNu K rwA) [] := ⟨⟨663, dm3, ⟨(mt' (rwA, 663, "numbers") (by simp [mtT])).1, (mt' (rwA, 663, "numbers") (by simp [mtT])).2, Fm3.kp⟩, ok_rnumbers Fm3 rk ml, bm3, fun ks hk => nomatch hk⟩, clR⟩
  have Mnu : MUse P w K mg base CX0 1 stA "numbers" ["self"] (spNuS K stA) [] := ⟨⟨807, dm7, ⟨(mt' (stA, 807, "numbers") (by simp [mtT])).1, (mt' (stA, 807, "numbers") (by simp [mtT])).2, Fm7.kp⟩, ok_snumbers Fm7 sk ml, bm7, fun ks hk => nomatch hk⟩, clS⟩
  have Tnu : MUse P w K mg base CX0 1 tyA "numbers" ["self"] (spTnu K tyA) [] := ⟨⟨933, dm5, ⟨(mt' (tyA, 933, "numbers") (by simp [mtT])).1, (mt' (tyA, 933, "numbers") (by simp [mtT])).2, Fm5.kp⟩, ok_tnumbers Fm5 tk ml, bm5, fun ks hk => nomatch hk⟩, clT⟩
  have Tle : OpM P w K mg base CX0 1 tyA "__len__" (spTle K tyA) := ⟨⟨994, dm6, _, (mt' (tyA, 994, "__len__") (by simp [mtT])).1, (mt' (tyA, 994, "__len__") (by simp [mtT])).2, ok_tlen Fm6 tk mn, bm6⟩, c.fact 21⟩
  have Ult : Use P w K mg base CX0 6 "letter_gains" ["creep"] (spLtg K stA) [] := use0 (ok_lettergains F_letter_gains sk mn mr k1 mO Ulb Mnu Udf) b_letter_gains F_letter_gains.kp g_letter_gains
  have Fga := ok_gain (P := P) (w := w) (base := base) F_gain sk tk Ucs Ucc Ucl Tnu Ult Umx
  have Uga : Use P w K mg base (L2.CX P w) 7 "gain" ["tally", "creep"] (spGai K stA tyA (csE 0) (csE 1) (csE 2) (csE 3)) [] := use0 (Fga) b_gain F_gain.kp g_gain
  have UgaI : UseI P w K mg base (L2.CX P w) 7 "gain" ["tally", "creep"] (spGai K stA tyA (csE 0) (csE 1) (csE 2) (csE 3)) := ⟨_, _, Fga, F_gain.kp, g_gain, kb_in F_gain (fun _ _ _ _ _ _ _ _ => rfl)⟩
  have Ual : Use P w K mg base (L2.CX P w) 8 "along" ["row", "creep"] (spAlo K stA rwA tyA (csE 1) (csE 2)) [] := use0 (ok_along F_along sk tk rk Ucs Ucc Rnu Ult Usv) b_along F_along.kp g_along
  have Ucl_ : Use P w K mg base (L2.CX P w) 9 "clock_of" ["creep"] (spClk K stA tyA (csE 1) (csE 2)) [["creep"]] := useR (ok_clock F_clock_of sk rk rR cR (ok_rconst Fm1 rk k0 mZ k1 Uck Uco) bm1 mO Ual) b_clock_of F_clock_of.kp g_clock_of (kb_one F_clock_of (fun _ _ _ _ _ _ _ => rfl)) (by decide)
  have Ldr : Use P w K mg base CX0 1 "_law_draw" ["_law_bag_here", "_law_many_y"] spDraw [] := use0 (ok_draw F__law_draw mn mi) b__law_draw F__law_draw.kp g__law_draw
  have Lof : Use P w K mg base CX0 2 "_law_of" ["_law_bag_here", "_law_things"] spOfL [] := use0 (ok_ofL F__law_of (ok_draw F__law_draw mn mi) b__law_draw F__law_draw.kp g__law_draw mn) b__law_of F__law_of.kp g__law_of
  have Glo := ok_low (P := P) (w := w) (base := base) F__law_low mabs mi
  have Llo : Use P w K mg base CX0 1 "_law_low" ["_law_num_here", "_law_den"] spLowQ [] := use0 (Glo) b__law_low F__law_low.kp g__law_low
  have Lad : Use P w K mg base CX0 2 "_law_add" ["_law_p", "_law_q"] (spTwoQ K (· + ·)) [] := use0 (ok_addQ F__law_add Glo b__law_low F__law_low.kp g__law_low) b__law_add F__law_add.kp g__law_add
  have Lsb : Use P w K mg base CX0 2 "_law_sub" ["_law_p", "_law_q"] (spTwoQ K (· - ·)) [] := use0 (ok_subQ F__law_sub Glo b__law_low F__law_low.kp g__law_low) b__law_sub F__law_sub.kp g__law_sub
  have Lmu : Use P w K mg base CX0 2 "_law_mul" ["_law_p", "_law_q"] (spTwoQ K (· * ·)) [] := use0 (ok_mulQ F__law_mul Glo b__law_low F__law_low.kp g__law_low) b__law_mul F__law_mul.kp g__law_mul
  have Ldi : Use P w K mg base CX0 2 "_law_div" ["_law_p", "_law_q"] (spDivQ K) [] := use0 (ok_divQ F__law_div Glo b__law_low F__law_low.kp g__law_low) b__law_div F__law_div.kp g__law_div
  have Lpl : Use P w K mg base CX0 3 "_law_plus" ["_law_u", "_law_w"] (spTwoL K (· + ·)) [] := use0 (ok_lplus F__law_plus mz Lad) b__law_plus F__law_plus.kp g__law_plus
  have Lze : Use P w K mg base CX0 1 "_law_zeros" ["_law_many_y"] (spZeros K) [] := use0 (ok_lzeros F__law_zeros) b__law_zeros F__law_zeros.kp g__law_zeros
  have Lx : Use P w K mg base CX0 1 "_law_x" ["_law_deg"] (spX K) [] := use0 (ok_lx F__law_x) b__law_x F__law_x.kp g__law_x
  have Lwh : Use P w K mg base CX0 1 "_law_whole" ["_law_u"] (spOol K) [] := use0 (ok_lwhole F__law_whole mi) b__law_whole F__law_whole.kp g__law_whole
  have Lcv : Use P w K mg base CX0 1 "_law_conv" ["_law_xs", "_law_ys"] (spConv K) [] := use0 (ok_lconv F__law_conv mn mr) b__law_conv F__law_conv.kp g__law_conv
  have Lpr : Use P w K mg base CX0 2 "_law_prod" ["_law_u", "_law_w"] (spPrd K) [] := use0 (ok_lprod F__law_prod Lwh Lcv Llo) b__law_prod F__law_prod.kp g__law_prod
  have Lsl : Use P w K mg base CX0 3 "_law_slope" ["_law_u"] (spSlp K) [] := use0 (ok_lslope F__law_slope mn mr Lmu) b__law_slope F__law_slope.kp g__law_slope
  have Lrc : Use P w K mg base CX0 3 "_law_recip" ["_law_u"] (spRcp K) [] := use0 (ok_lrecip F__law_recip mn mr mi Lsb Lmu Ldi) b__law_recip F__law_recip.kp g__law_recip
  have Llr : Use P w K mg base CX0 4 "_law_log_row" ["_law_u"] (spLgr K) [] := use0 (ok_llogrow F__law_log_row mn mr Lpr Lsl Lrc Llo) b__law_log_row F__law_log_row.kp g__law_log_row
  have Lpt : Use P w K mg base CX0 5 "_law_parts" ["_law_s", "_law_kk", "_law_count_y"] (spPts K) [] := use0 (ok_lparts F__law_parts mr Lpr Lrc Llr) b__law_parts F__law_parts.kp g__law_parts
  have Lga : Use P w K mg base CX0 6 "_law_gain" ["_law_nums_here", "_law_kk", "_law_f"] (spLga K) [] := use0 (ok_lgain F__law_gain mn mr Lad Lmu Lpt) b__law_gain F__law_gain.kp g__law_gain
  have Lnu : Use P w K mg base CX0 2 "_law_num" ["_law_bag_here"] (spNum K 3 NumQ) [] := use0 (ok_num F__law_num Ldr Llo) b__law_num F__law_num.kp g__law_num
  have Lwi : Use P w K mg base CX0 2 "_law_wide" ["_law_bag_here"] (spNum K 2 WideP) [] := use0 (ok_wide F__law_wide Ldr Llo) b__law_wide F__law_wide.kp g__law_wide
  have Lno : Use P w K mg base CX0 3 "_law_not0" ["_law_bag_here"] (spNum K 4 NumZ) [] := use0 (ok_not0 F__law_not0 Lnu Lof) b__law_not0 F__law_not0.kp g__law_not0
  have Lor : Use P w K mg base CX0 3 "_law_order" ["_law_bag_here"] spOrd [] := use0 (ok_order F__law_order Ldr Lof) b__law_order F__law_order.kp g__law_order
  have Lfl : Use P w K mg base CX0 3 "_law_flat" ["_law_bag_here", "_law_deg"] spFla [] := use0 (ok_flat F__law_flat mmin Ldr Lof) b__law_flat F__law_flat.kp g__law_flat
  have Lta : Use P w K mg base CX0 4 "_law_tail" ["_law_bag_here", "_law_deg", "_law_kk"] (spTai K) [] := use0 (ok_tail F__law_tail mr Ldr Lnu Lno Lwi) b__law_tail F__law_tail.kp g__law_tail
  have Lcr : Use P w K mg base CX0 5 "_law_creep" ["_law_bag_here", "_law_deg", "_law_kk"] (spCre K) [] := use0 (ok_creep F__law_creep Lx Lta Lpl) b__law_creep F__law_creep.kp g__law_creep
  have Lst : Use P w K mg base CX0 3 "_law_step" ["_law_bag_here", "_law_deg", "_law_cc"] (spStp K) [] := use0 (ok_stp F__law_step mr Lnu) b__law_step F__law_step.kp g__law_step
  have Lns : Use P w K mg base CX0 4 "_law_not_slow" ["_law_bag_here", "_law_deg"] (spNsl K) [] := use0 (ok_nsl F__law_not_slow Ldr Lof Lze Lst) b__law_not_slow F__law_not_slow.kp g__law_not_slow
  have Lnm : Use P w K mg base CX0 3 "_law_nums" ["_law_bag_here", "_law_kk", "_law_deg"] (spNms K) [] := use0 (ok_lnums F__law_nums mn mr Ldr Lnu Lwi) b__law_nums F__law_nums.kp g__law_nums
  have Lnc : Use P w K mg base CX0 5 "_law_no_creep" ["_law_bag_here", "_law_deg"] (spNoc K) [] := use0 (ok_nocreep F__law_no_creep Ldr Lx Lns) b__law_no_creep F__law_no_creep.kp g__law_no_creep
  have Lce : Use P w K mg base CX0 2 "_law_creep_error" ["_law_f"] (spCer K) [] := use0 (ok_creeperr F__law_creep_error mn Lx) b__law_creep_error F__law_creep_error.kp g__law_creep_error
  have Lif : Use P w K mg base CX0 2 "_law_is_fraction" ["_law_p"] (spIfr K) [] := use0 (ok_ifr F__law_is_fraction mI mt mi mb mn Llo) b__law_is_fraction F__law_is_fraction.kp g__law_is_fraction
  have Lft : Use P w K mg base CX0 1 "_law_fits" ["_law_u"] (spFts K) [] := use0 (ok_fits F__law_fits ma mabs) b__law_fits F__law_fits.kp g__law_fits
  have Lon : Use P w K mg base CX0 1 "_law_one" ["_law_count_y"] (spOne K) [] := use0 (ok_lone F__law_one) b__law_one F__law_one.kp g__law_one
  have L0 : FnOk P w K mg base CX0 2 _ _ _ (spLike K 0) := ok_like F__law_same b__law_same g__law_same (fun n' e => by cases e) mI ml mt mb ms mi mn mz ma
  have L1 : FnOk P w K mg base CX0 3 _ _ _ (spLike K 1) := ok_like F__law_same b__law_same g__law_same (fun n' e => by cases e; exact L0) mI ml mt mb ms mi mn mz ma
  have L2 : FnOk P w K mg base CX0 4 _ _ _ (spLike K 2) := ok_like F__law_same b__law_same g__law_same (fun n' e => by cases e; exact L1) mI ml mt mb ms mi mn mz ma
  have L3 : FnOk P w K mg base CX0 5 _ _ _ (spLike K 3) := ok_like F__law_same b__law_same g__law_same (fun n' e => by cases e; exact L2) mI ml mt mb ms mi mn mz ma
  have Lls : Use P w K mg base CX0 5 "_law_same" ["_law_found", "_law_due"] (spLike K 3) [] := use0 (L3) b__law_same F__law_same.kp g__law_same
  have Lis : Use P w K mg base CX0 6 "_law_is_step" ["_law_told", "_law_f"] (spIst K stA) [] := use0 (ok_isstep F__law_is_step sk mn Mnu Lls) b__law_is_step F__law_is_step.kp g__law_is_step
  have Lit : Use P w K mg base CX0 6 "_law_is_tally" ["_law_told", "_law_nums_here", "_law_kk"] (spIty K tyA) [] := use0 (ok_istally F__law_is_tally tk mn Tnu Tle Lls) b__law_is_tally F__law_is_tally.kp g__law_is_tally
  have ZZ : Errs4 P w K mg base csE := ⟨Z0, Z1, Z2, Z3, fun i => by
    match i with
    | 0 => exact n0 _ (by decide)
    | 1 => exact n1 _ (by decide)
    | 2 => exact n2 _ (by decide)
    | 3 => exact n3 _ (by decide),
    n0 "one" (by decide), n0 "other" (by decide), n1 "first" (by decide), n2 "have" (by decide), n3 "one" (by decide), n3 "other" (by decide),
    fun i j => of_decide_eq_true (allE (allE (c.fact 36) i) j)⟩
  have ka : Kit24 P w K mg base ceA stA tyA cfA coA csE := { sk := sk, tk := tk, draw := Ldr, nz := Lno, add := Lad, mul := Lmu, fts := Lft, gai := Uga, lga := Lga, one := Lon, lik := Lls, mn := mn, ml := ml }
  have kr : KitR P w K mg base ceA stA tyA cfA coA csE := { sk := sk, tk := tk, draw := Ldr, noc := Lnc, cer := Lce, nms := Lnm, lik := Lls, gai := UgaI, clk := Ucl_, Z := ZZ, ask := ⟨_, _, F__law_try, b__law_try, g__law_try⟩, mn := mn }
  have Lsp : Use P w K mg base CX0 8 "_law_spoilt" ["_law_bag_here", "_law_f", "_law_nums_here", "_law_kk"] (spSpo K) [] := use0 (ok_spoilt F__law_spoilt ka) b__law_spoilt F__law_spoilt.kp g__law_spoilt
  have Lrf : Use P w K mg base CX0 12 "_law_refused" ["_law_bag_here", "_law_f", "_law_kk"] (spRef K tbT) [] := use0 (ok_lref (fun_c F__law_refused (c.fact 39)) kr (hTB (1307, 1303) c1) t1 tu1) b__law_refused F__law_refused.kp g__law_refused
  have ko : KitO P w K mg base ceA stA tyA cfA coA csE tbT := { a := ka, r := kr, ord := Lor, fla := Lfl, cre := Lcr, nus := Tnu, ifr := Lif, ity := Lit, ist := Lis, spo := Lsp, ref := Lrf, isT := isT, mI := mI, ma := ma }
  have Lnc_ : Use P w K mg base CX0 13 "_law_once" ["_law_bag_here"] (spOnc K tbT) [] := use0 (ok_once F__law_once ko) b__law_once F__law_once.kp g__law_once
  exact ok_law F_law mr (use0 (ok_bag F__law_bag ml mi) b__law_bag F__law_bag.kp g__law_bag) Lnc_
end
end Kx
end
section
set_option maxHeartbeats 0
namespace Kx
open PySem PySem.Spec PyProof.Rows L2
theorem cs_tab {h : Heap} (hT : ∀ a ∈ tabA, h.get? a = some { cls := .none, data := .fields #[] }) : ∀ p ∈ csT, h.get? p.2 = some { cls := .none, data := .fields #[] } := fun p hp => by
  rcases memN hp with e <;> rw [e]
  · exact hT 1303 (List.mem_cons_self)
theorem cs_none {K : PySem.W.Frag} (c : SaysR K) : ∀ p ∈ csT, K.lookup p.2 = none := fun p hp => by
  have n := c.fact 38
  have nn : ∀ a ∈ tabA, K.lookup a = none := fun a ha => Option.isNone_iff_eq_none.mp (List.all_eq_true.mp n a ha)
  rcases memN hp with e <;> rw [e]
  · exact nn 1303 (List.mem_cons_self)
theorem cs_code {K : PySem.W.Frag} {h : Heap} (X : K.In h) (c : SaysR K) : ∀ p ∈ csT, PySem.W.CodeHd h p.1 p.2 := fun p hp => by
  rcases memN hp with e <;> rw [e]
  · exact PySem.W.codeHd_of_K X (c.fact 40)
theorem tabs_start {H : Hp} (hH : ∀ p ∈ csT, H p.2 = some (.tbl #[])) : LamX.Tabs tbT H := fun p hp => by
  rcases memN hp with e <;> rw [e]
  · exact LamX.TabS.nil (hH _ c1)
end Kx
open PySem PySem.W PySem.Calls PyProof.Rows
theorem PySem.Challenge.cw_creepclocks_k24_whole_clocks_move_on_by_holds : PySem.Challenge.rw_creepclocks_k24_whole_clocks_move_on_by.Holds := by
  w_on; o_law
  refine HandSHeadRun.head_imp (r := OpenLaw.row PySem.Challenge.rw_creepclocks_k24_whole_clocks_move_on_by) (q := view (OpenLaw.row PySem.Challenge.rw_creepclocks_k24_whole_clocks_move_on_by).prog [0, 133]) (H := Kx.hookR) (ob := Kx.ob) (M := 20000) (loose := Kx.names) (d := HandSHeadRun.topDef (OpenLaw.row PySem.Challenge.rw_creepclocks_k24_whole_clocks_move_on_by).prog 133) (kwd := []) Kx.ob_eq
    Kx.run (by kernel_rfl) (by kernel_rfl) (by kernel_rfl) (by rfl) (by first | assumption | decide +kernel) (by decide +kernel) ⟨rfl, rfl, rfl, rfl, rfl, by decide +kernel⟩ ?hw ?hc
  case hw => w_witness2
  case hc =>
    refine LamX.walk_ofTsE (l := PySem.Challenge.rw_creepclocks_k24_whole_clocks_move_on_by) (n := 63) (k := 14) (x := "_law_script") (CX := fun _ => L2.CX0) rfl (by decide) (by kernel_rfl) ⟨rfl, by decide, by decide⟩ ?F (fun _ _ _ _ _ z => z)
    intro w mg fa h Y G hmg0
    obtain ⟨⟨K, KX, c⟩, hT⟩ := Y
    have hmg : mg ("law" : PySem.Str) = some (.ref fa) := by
      have e : (HandSHeadRun.topDef (OpenLaw.row PySem.Challenge.rw_creepclocks_k24_whole_clocks_move_on_by).prog 133).name = ("law" : PySem.Str) := by kernel_rfl
      rw [← e]
      exact hmg0
    obtain ⟨fd, hb, hF⟩ := Kx.facts (P := (PySem.Challenge.rw_creepclocks_k24_whole_clocks_move_on_by).prog) (w := w) KX G hmg c
    exact ⟨K, KX, fd, Kx.csT, Kx.spLaw K Kx.tbT, Kx.cs_tab hT, Kx.cs_none c, Kx.cs_code KX c, hb, fun H a ns hl _ hH hS => ⟨a, ns, rfl, hS, Kx.tabs_start hH, fun _ => rfl⟩, hF⟩
end
