import PyProof.Rows.All
import Wide.All
import OpenK.AllK
import Wide.FinOn
import HandS.Words
import HandS.WordsExc
import HandS.ForMost
import HandS.Zip
import HandS.Codes
import HandS.Walk
import HandS.Wide
import HandS.Gcd
import HandS.IsInst
import HandS.AnyAll
import HandS.ClsMeth
import HandS.Lambda
import HandS.ExcInitHot
import HandS.Defaults
import HandS.HeadHook1
import HandS.HeadHook2
import HandS.HeadNt
import HandS.NestedK
import KE.KExcInit
import KE.KStateDown
import Lean
import HandS.Head0
import HandS.Head1
import HandS.Head2
import HandS.Head3
import HandS.HeadEnd
import HandS.ExcInit
import KE.KExcIs
import HandS.MakeKw
import HandS.Exc
import HandS.ExcIs
import HandS.ExcField
import HandS.TryMany
import HandS.HotCalls
import PyProof.Draws
import PyProof.EnumMake
import KE.GoesMore
import HandS.MakeKwOnly
import KE.KDictZip
import HandS.Style
import HandS.ListEq
import HandS.OwnEq
import PyProof.InstNe
import KE.KFmtOwn
import HandS.Deep
import HandS.HeadWalk
import PySem.Challenge.RW_creepclocks_k20_whole_partings
set_option Elab.async false
set_option linter.all false
set_option maxRecDepth 100000
section
set_option maxHeartbeats 4000000
namespace Kx
open PySem PySem.Spec PyProof.Rows L2
def top (i : Nat) : Stmt := PySem.Challenge.pw_creepclocks_k20_whole_partings.main.body.getD i (.Pass ⟨0, 0, 0, 0⟩)
abbrev F__wall : Stmt := top 1
abbrev C_CreepError : Stmt := top 3
abbrev C_InvalidNumber : Stmt := top 4
abbrev C_InvalidNumber_init : Stmt := inClass (top 4) 0
abbrev C_InvalidFraction : Stmt := top 5
abbrev C_InvalidFraction_init : Stmt := inClass (top 5) 0
abbrev C_InvalidOrder : Stmt := top 6
abbrev C_InvalidOrder_init : Stmt := inClass (top 6) 0
abbrev C_OrderTooLow : Stmt := top 7
abbrev C_OrderTooLow_init : Stmt := inClass (top 7) 0
abbrev C_UnlikeOrders : Stmt := top 8
abbrev C_UnlikeOrders_init : Stmt := inClass (top 8) 0
abbrev C_InvalidPlace : Stmt := top 9
abbrev C_InvalidPlace_init : Stmt := inClass (top 9) 0
abbrev C_InvalidPower : Stmt := top 10
abbrev C_InvalidPower_init : Stmt := inClass (top 10) 0
abbrev C_CantTurn : Stmt := top 11
abbrev C_CantTurn_init : Stmt := inClass (top 11) 0
abbrev C_NotSlow : Stmt := top 12
abbrev C_NotSlow_init : Stmt := inClass (top 12) 0
abbrev C_NoAnswer : Stmt := top 13
abbrev C_DividedByZero : Stmt := top 14
abbrev C_DividedByZero_init : Stmt := inClass (top 14) 0
abbrev F_is_whole : Stmt := top 20
abbrev F_is_between : Stmt := top 21
abbrev F_is_fraction : Stmt := top 22
abbrev F_ratio : Stmt := top 23
abbrev F_difference_of : Stmt := top 24
abbrev F_product_of : Stmt := top 25
abbrev F_quotient_of : Stmt := top 26
abbrev F_fraction_text : Stmt := top 27
abbrev F_is_listing : Stmt := top 31
abbrev F_check_order : Stmt := top 32
abbrev F_check_orders : Stmt := top 33
abbrev F_check_cut : Stmt := top 34
abbrev F_check_place : Stmt := top 35
abbrev F_check_number : Stmt := top 36
abbrev F_wrong_item : Stmt := top 37
abbrev F_check_fractions : Stmt := top 38
abbrev F_checked_numbers : Stmt := top 39
abbrev F_check_slow : Stmt := top 40
abbrev F_check_turnable : Stmt := top 41
abbrev F_is_zero : Stmt := top 43
abbrev F_least_place : Stmt := top 44
abbrev F_differences_of : Stmt := top 45
abbrev F_multiples_of : Stmt := top 46
abbrev F_dot : Stmt := top 47
abbrev F_mixed : Stmt := top 48
abbrev F_over_one_lower : Stmt := top 49
abbrev F_multiplied : Stmt := top 50
abbrev F_still_numbers : Stmt := top 51
abbrev F_table_lines : Stmt := top 52
abbrev F_put_behind : Stmt := top 53
abbrev F_solved : Stmt := top 54
abbrev F_turned_back : Stmt := top 55
abbrev F_done_times : Stmt := top 56
abbrev F_differences : Stmt := top 57
abbrev F_binomials : Stmt := top 58
abbrev F_binomial_power : Stmt := top 59
abbrev F_letter_text : Stmt := top 61
abbrev F_term_text : Stmt := top 62
abbrev F_term_words : Stmt := top 63
abbrev F_numbers_text : Stmt := top 64
abbrev F_kind_of : Stmt := top 66
abbrev C_Step : Stmt := top 67
abbrev C_Step_init : Stmt := inClass (top 67) 0
abbrev C_Step_still : Stmt := inClass (top 67) 1
abbrev C_Step_scaling : Stmt := inClass (top 67) 2
abbrev C_Step_numbers : Stmt := inClass (top 67) 3
abbrev C_Step_number : Stmt := inClass (top 67) 4
abbrev C_Step_power : Stmt := inClass (top 67) 5
abbrev C_Step_renamed : Stmt := inClass (top 67) 6
abbrev C_Step_cut : Stmt := inClass (top 67) 7
abbrev C_Step_gone_on : Stmt := inClass (top 67) 8
abbrev C_Step_as_row : Stmt := inClass (top 67) 9
abbrev C_Step_text : Stmt := inClass (top 67) 10
abbrev C_Step_mul : Stmt := inClass (top 67) 11
abbrev C_Step_invert : Stmt := inClass (top 67) 12
abbrev C_Step_eq : Stmt := inClass (top 67) 13
abbrev C_Step_len : Stmt := inClass (top 67) 14
abbrev C_Step_str : Stmt := inClass (top 67) 15
abbrev C_Step_repr : Stmt := inClass (top 67) 16
abbrev F_first_difference : Stmt := top 68
abbrev C_Paper : Stmt := top 70
abbrev C_Paper_init : Stmt := inClass (top 70) 0
abbrev C_Paper_wrong : Stmt := inClass (top 70) 1
abbrev F_unequal_sides : Stmt := top 71
abbrev C_Parting : Stmt := top 73
abbrev C_Parting_init : Stmt := inClass (top 73) 0
abbrev C_Parting_wrong : Stmt := inClass (top 73) 1
abbrev F_slow_part : Stmt := top 74
abbrev F_flip_straightener : Stmt := top 75
abbrev F_stretch_straightener : Stmt := top 76
abbrev F_parted : Stmt := top 77
abbrev F_is_pure : Stmt := top 78
abbrev L_bag : Stmt := top 80
abbrev L_draw : Stmt := top 81
abbrev L_of : Stmt := top 82
abbrev L_same : Stmt := top 83
abbrev L_low : Stmt := top 84
abbrev L_sub : Stmt := top 85
abbrev L_mul : Stmt := top 86
abbrev L_less : Stmt := top 87
abbrev L_scaled : Stmt := top 88
abbrev L_x : Stmt := top 89
abbrev L_whole : Stmt := top 90
abbrev L_conv : Stmt := top 91
abbrev L_put : Stmt := top 92
abbrev L_num : Stmt := top 93
abbrev L_wide : Stmt := top 94
abbrev L_order : Stmt := top 95
abbrev L_step : Stmt := top 96
abbrev L_is_fraction : Stmt := top 97
abbrev L_is_step : Stmt := top 98
abbrev L_scaling : Stmt := top 99
abbrev L_try : Stmt := top 100
abbrev L_parts_fit : Stmt := top 101
abbrev L_row_of : Stmt := top 102
abbrev L_right : Stmt := top 103
abbrev L_pure : Stmt := top 104
abbrev L_drawn : Stmt := top 105
abbrev L_once : Stmt := top 106
abbrev L_law : Stmt := top 107
end Kx
end
section
set_option maxHeartbeats 4000000
namespace Kx
open PySem PySem.Spec PyProof.Rows L2
/-- a def of the module: its name, its place in the text, its address -/
structure LD where
  nm : Str
  ix : Nat
  f : Addr
def ptN0 : List Str := ["title", "step", "pure", "slow", "straightener"]
def stN0 : List Str := ["_numbers", "order", "lead", "kind", "height", "flat", "strength"]
def ldT : List LD := [
  ⟨"is_whole", 20, 275⟩,
  ⟨"is_between", 21, 282⟩,
  ⟨"is_fraction", 22, 289⟩,
  ⟨"ratio", 23, 296⟩,
  ⟨"difference_of", 24, 303⟩,
  ⟨"product_of", 25, 310⟩,
  ⟨"quotient_of", 26, 317⟩,
  ⟨"is_listing", 31, 331⟩,
  ⟨"check_order", 32, 338⟩,
  ⟨"check_orders", 33, 345⟩,
  ⟨"check_cut", 34, 352⟩,
  ⟨"check_number", 36, 366⟩,
  ⟨"wrong_item", 37, 373⟩,
  ⟨"check_fractions", 38, 380⟩,
  ⟨"checked_numbers", 39, 387⟩,
  ⟨"check_slow", 40, 394⟩,
  ⟨"check_turnable", 41, 401⟩,
  ⟨"is_zero", 43, 406⟩,
  ⟨"least_place", 44, 413⟩,
  ⟨"differences_of", 45, 418⟩,
  ⟨"multiples_of", 46, 423⟩,
  ⟨"dot", 47, 430⟩,
  ⟨"mixed", 48, 435⟩,
  ⟨"over_one_lower", 49, 440⟩,
  ⟨"multiplied", 50, 445⟩,
  ⟨"still_numbers", 51, 452⟩,
  ⟨"table_lines", 52, 457⟩,
  ⟨"put_behind", 53, 464⟩,
  ⟨"solved", 54, 469⟩,
  ⟨"turned_back", 55, 476⟩,
  ⟨"differences", 57, 490⟩,
  ⟨"binomials", 58, 497⟩,
  ⟨"binomial_power", 59, 504⟩,
  ⟨"kind_of", 66, 537⟩,
  ⟨"first_difference", 68, 683⟩,
  ⟨"unequal_sides", 71, 718⟩,
  ⟨"slow_part", 74, 751⟩,
  ⟨"flip_straightener", 75, 758⟩,
  ⟨"stretch_straightener", 76, 763⟩,
  ⟨"parted", 77, 770⟩,
  ⟨"is_pure", 78, 777⟩,
  ⟨"_law_bag", 80, 784⟩,
  ⟨"_law_draw", 81, 791⟩,
  ⟨"_law_of", 82, 798⟩,
  ⟨"_law_same", 83, 803⟩,
  ⟨"_law_low", 84, 810⟩,
  ⟨"_law_sub", 85, 817⟩,
  ⟨"_law_mul", 86, 824⟩,
  ⟨"_law_less", 87, 829⟩,
  ⟨"_law_scaled", 88, 834⟩,
  ⟨"_law_x", 89, 841⟩,
  ⟨"_law_whole", 90, 846⟩,
  ⟨"_law_conv", 91, 853⟩,
  ⟨"_law_put", 92, 858⟩,
  ⟨"_law_num", 93, 865⟩,
  ⟨"_law_wide", 94, 872⟩,
  ⟨"_law_order", 95, 879⟩,
  ⟨"_law_step", 96, 884⟩,
  ⟨"_law_is_fraction", 97, 891⟩,
  ⟨"_law_is_step", 98, 898⟩,
  ⟨"_law_scaling", 99, 905⟩,
  ⟨"_law_try", 100, 912⟩,
  ⟨"_law_parts_fit", 101, 917⟩,
  ⟨"_law_row_of", 102, 924⟩,
  ⟨"_law_right", 103, 931⟩,
  ⟨"_law_pure", 104, 938⟩,
  ⟨"_law_drawn", 105, 945⟩,
  ⟨"_law_once", 106, 952⟩,
  ⟨"law", 107, 959⟩
]
abbrev stA : Addr := 672
abbrev paA : Addr := 707
abbrev ptA : Addr := 742
abbrev zeA : Addr := 266
abbrev onA : Addr := 267
abbrev moA : Addr := 268
abbrev ceA : Addr := 59
abbrev cuA : Addr := 155
abbrev ctA : Addr := 212
abbrev cfA : Addr := 98
abbrev coA : Addr := 117
abbrev csA : Addr := 231
def freeN : List Str := ["isinstance", "len", "list", "tuple", "int", "range", "all", "zip", "bool", "str", "abs", "enumerate", "sum", "min"]
def tabA : List Addr := [947]
def ldD (d : LD) : He5.DefA := { at_ := fun _ => d.f, name := d.nm, qual := d.nm, params := defArgs (top d.ix), body := defBody (top d.ix), scope := defScope (top d.ix) }
def mtD (q nm : Str) (f : Addr) (st : Stmt) : He5.DefA := { at_ := fun _ => f, name := nm, qual := q, params := defArgs st, body := defBody st, scope := defScope st }
def clT : List He5.DefA := [mtD "Step.__init__" "__init__" 551 (inClass (top 67) 0),
  mtD "Step.still" "still" 558 (inClass (top 67) 1),
  mtD "Step.scaling" "scaling" 568 (inClass (top 67) 2),
  mtD "Step.numbers" "numbers" 578 (inClass (top 67) 3),
  mtD "Step.power" "power" 592 (inClass (top 67) 5),
  mtD "Step.cut" "cut" 606 (inClass (top 67) 7),
  mtD "Step.__mul__" "__mul__" 634 (inClass (top 67) 11),
  mtD "Step.__invert__" "__invert__" 641 (inClass (top 67) 12),
  mtD "Step.__eq__" "__eq__" 648 (inClass (top 67) 13),
  mtD "Paper.__init__" "__init__" 697 (inClass (top 70) 0),
  mtD "Parting.__init__" "__init__" 732 (inClass (top 73) 0),
  mtD "Parting.wrong" "wrong" 739 (inClass (top 73) 1),
  mtD "UnlikeOrders.__init__" "__init__" 152 (inClass (top 8) 0),
  mtD "CantTurn.__init__" "__init__" 209 (inClass (top 11) 0),
  mtD "InvalidFraction.__init__" "__init__" 95 (inClass (top 5) 0),
  mtD "InvalidOrder.__init__" "__init__" 114 (inClass (top 6) 0),
  mtD "NotSlow.__init__" "__init__" 228 (inClass (top 12) 0)]
def fnT : List He5.DefA := clT ++ ldT.map ldD
def kpB (K : PySem.W.Frag) (a : Addr) (x y : Int) : Bool := match K.lookup a with
  | some ⟨.type c, _, .seq its _, _⟩ => decide (c = "tuple") && (decide (its.size ≤ sizeLine) && He.relAll [.int x, .int y] its.toList)
  | _ => false
def owT (K : PySem.W.Frag) (C iA : Addr) (ns : List Str) : Bool :=
  PySem.W.plainGet K C Str.empty && (PySem.W.hasDictIn K C && (PySem.W.plainOver K C && (He.eqO (PySem.W.findIn K (.ref C) "__setattr__") (some (some (.builtin "object.__setattr__"))) && (ns.all (fun x => He.eqO (PySem.W.findIn K (.ref C) x) (some none)) &&
  (PySem.W.makesIn K C && (He.eqO (PySem.W.findIn K (.ref C) "__init__") (some (some (.ref iA))) && (PySem.W.isFn K (.ref iA) && (PySem.W.keepIn K (.ref C) && (He.eqO (PySem.W.findIn K (.ref C) "__class__") (some (some (.builtin "object.__class__"))) &&
  (He.eqO (PySem.W.specialIn K (.builtin "object.__class__") "__get__") (some (some (.builtin "getset_descriptor.__get__"))) && (decide (PySem.W.takesIn K (.builtin "object.__class__") = some true) && decide (PySem.W.mroIn K C (.type "object") = some true))))))))))))
def rdB (K : PySem.W.Frag) (C : Addr) : Bool := PySem.W.readsIn K C (.type "type") && He.eqO (PySem.W.specialIn K (.ref C) "__getattribute__") (some (some (.builtin "type.__getattribute__")))
def stB (K : PySem.W.Frag) (C sA gA : Addr) (m : Str) : Bool := He5.wrapB K C "staticmethod" "staticmethod.__get__" m && (decide (He.ma K C m = sA) && decide (He5.wf K C "staticmethod" m = gA))
def cfnB (K : PySem.W.Frag) (C gA : Addr) (m : Str) : Bool := match PySem.W.findCls K (.ref C) (.type "type") m with
  | some (.val v) => decide (v = .ref gA)
  | _ => false
/-- an own exception class -/
def exB (K : PySem.W.Frag) (C iA : Addr) (mb : List Value) (nw : String) (ns : List Str) : Bool :=
  PySem.W.excInitIn K C mb nw && (PySem.W.excOver K C mb && ((PySem.W.clsIn K C).isSome && (PySem.W.hasDictIn K C && (He.eqO (PySem.W.findIn K (.ref C) "__setattr__") (some (some (.builtin "object.__setattr__"))) && (He.eqO (PySem.W.findIn K (.ref C) "__getattribute__") (some (some (.builtin "BaseException.__getattribute__"))) &&
  (He.eqO (PySem.W.findIn K (.ref C) "__getattr__") (some none) && (decide (PySem.W.subIn K (.ref C) (.type "BaseException") = some true) && (He.eqO (PySem.W.findIn K (.ref C) "__class__") (some (some (.builtin "object.__class__"))) && (He.eqO (PySem.W.specialIn K (.builtin "object.__class__") "__get__") (some (some (.builtin "getset_descriptor.__get__"))) &&
  (decide (PySem.W.takesIn K (.builtin "object.__class__") = some true) && (decide (PySem.W.mroIn K C (.type "object") = some true) && (PySem.W.keepIn K (.ref C) && (decide (PySem.W.typeIn K (.ref C) = some (.type "type")) && (He.eqO (PySem.W.findIn K (.ref C) "__init__") (some (some (.ref iA))) &&
  (PySem.W.isFn K (.ref iA) && ns.all (fun x => He.eqO (PySem.W.findIn K (.ref C) x) (some none)))))))))))))))))
def codeB (K : PySem.W.Frag) (f c : Addr) : Bool := match K.lookup f with
  | some ⟨_, _, .func fd, _⟩ => (match fd.code with | .ref c' => decide (c' = c) | _ => false)
  | _ => false
def mtB (K : PySem.W.Frag) (C f : Addr) (m : Str) : Bool := He.eqO (PySem.W.findIn K (.ref C) m) (some (some (.ref f))) && PySem.W.isFn K (.ref f)
def mtT : List (Addr × Addr × Str) := [(stA, 578, "numbers"), (stA, 592, "power"), (stA, 606, "cut"), (stA, 634, "__mul__"), (stA, 641, "__invert__"), (stA, 648, "__eq__"), (ptA, 739, "wrong")]
/-- the looks -/
def faT : List (PySem.W.Frag → Bool) := [
  fun K => ldT.all fun d => He.eqO (PySem.W.nsIn K mainGlobals d.nm) (some (some (.ref d.f))),
  fun K => freeN.all fun x => He.eqO (PySem.W.nsIn K mainGlobals x) (some none),
  fun K => He.eqO (PySem.W.nsIn K mainGlobals "gcd") (some (some (.builtin "math.gcd"))),
  fun K => He.eqO (PySem.W.nsIn K mainGlobals "lcm") (some (some (.builtin "math.lcm"))),
  fun K => He.eqO (PySem.W.nsIn K mainGlobals "Step") (some (some (.ref stA))),
  fun K => He.eqO (PySem.W.nsIn K mainGlobals "Paper") (some (some (.ref paA))),
  fun K => He.eqO (PySem.W.nsIn K mainGlobals "Parting") (some (some (.ref ptA))),
  fun K => He.eqO (PySem.W.nsIn K mainGlobals "ZERO") (some (some (.ref zeA))),
  fun K => He.eqO (PySem.W.nsIn K mainGlobals "ONE") (some (some (.ref onA))),
  fun K => He.eqO (PySem.W.nsIn K mainGlobals "MINUS_ONE") (some (some (.ref moA))),
  fun K => He.eqO (PySem.W.nsIn K mainGlobals "CreepError") (some (some (.ref ceA))),
  (He.Fa.int "LOWEST_ORDER" 2).ok,
  (He.Fa.int "HIGHEST_ORDER" 24).ok,
  (He.Fa.int "MOST_POWER" 64).ok,
  fun K => kpB K zeA 0 1,
  fun K => kpB K onA 1 1,
  fun K => kpB K moA (-1) 1,
  fun K => owT K stA 551 stN0,
  fun K => owT K ptA 732 ptN0,
  fun K => rdB K stA,
  fun K => rdB K paA,
  fun K => stB K stA 560 558 "still",
  fun K => stB K stA 570 568 "scaling",
  fun K => cfnB K paA 697 "__init__",
  fun K => decide (PySem.W.kitOne K (.ref stA) (.ref stA) = some true),
  fun K => decide (PySem.W.kitOne K (.ref ptA) (.ref ptA) = some true),
  fun K => decide (PySem.W.kitOne K (.ref ptA) (.ref paA) = some true),
  fun K => PySem.W.selfFirst K stA,
  fun K => exB K 155 152 [.type "ValueError", .type "Exception", .type "BaseException", .type "object"] "ValueError.__new__" ["code", "one", "other"],
  fun K => exB K 212 209 [.type "ValueError", .type "Exception", .type "BaseException", .type "object"] "ValueError.__new__" ["code"],
  fun K => exB K 98 95 [.type "ValueError", .type "Exception", .type "BaseException", .type "object"] "ValueError.__new__" ["code", "at"],
  fun K => exB K 117 114 [.type "ValueError", .type "Exception", .type "BaseException", .type "object"] "ValueError.__new__" ["code", "value"],
  fun K => exB K 231 228 [.type "ValueError", .type "Exception", .type "BaseException", .type "object"] "ValueError.__new__" ["code", "first"],
  fun K => He.eqO (PySem.W.nsIn K mainGlobals "UnlikeOrders") (some (some (.ref 155))),
  fun K => He.eqO (PySem.W.nsIn K mainGlobals "CantTurn") (some (some (.ref 212))),
  fun K => He.eqO (PySem.W.nsIn K mainGlobals "InvalidFraction") (some (some (.ref 98))),
  fun K => He.eqO (PySem.W.nsIn K mainGlobals "InvalidOrder") (some (some (.ref 117))),
  fun K => He.eqO (PySem.W.nsIn K mainGlobals "NotSlow") (some (some (.ref 231))),
  fun K => decide (PySem.W.exmOne K (.ref ctA) (.ref ctA) = some true),
  fun K => mtT.all fun t => mtB K t.1 t.2.1 t.2.2,
  fun K => tabA.all fun a => (K.lookup a).isNone,
  fun K => codeB K 952 951,
  fun K => PySem.W.codeHdIn K 951 947]
abbrev ObV : Type := Bool × List He5.FnW
def obK (K : PySem.W.Frag) : ObV := ((faT.all fun f => f K) && fnT.all fun d => d.ok K, fnT.map fun d => He5.fnA K (d.at_ K))
def valR : ObV := (true, fnT.map He5.DefA.val)
def adr : List Addr := [mainGlobals, cStatics, stA, 671, paA, 706, ptA, 741, 560, 570, ceA, 58, zeA, onA, moA, 155, 154, 212, 211, 98, 97, 117, 116, 231, 230, 551, 550, 558, 557, 568, 567, 578, 577, 592, 591, 606, 605, 634, 633, 641, 640, 648, 647, 697, 696, 732, 731, 739, 738, 152, 151, 209, 208, 95, 94, 114, 113, 228, 227] ++ ldT.flatMap fun d => [d.f, d.f - 1]
def obR (g : Addr → Option Obj) : ObV := obK (He.frG g adr)
def tblB (g : Addr → Option Obj) : Bool := tabA.all fun a => match g a with
  | some ⟨.none, none, .fields vs, sl⟩ => decide (vs = #[]) && decide (sl.size = 0)
  | _ => false
theorem tblB_ok {g : Addr → Option Obj} (h : tblB g = true) : ∀ a ∈ tabA, g a = some { cls := .none, data := .fields #[] } := fun a ha => by
  have q := List.all_eq_true.mp h a ha
  split at q
  · rename_i vs sl e
    obtain ⟨q1, q2⟩ := He.ba q
    have e2 : sl = #[] := Array.eq_empty_of_size_eq_zero (of_decide_eq_true q2)
    rw [e, of_decide_eq_true q1, e2]
  · cases q
def SaysR (K : PySem.W.Frag) : Prop := obK K = valR
def hookR : PySem.W.Hook where
  α := ObV × Bool
  obs := fun s => (obR s.heap.get?, tblB s.heap.get?)
  val := fun _ => (valR, true)
  says := fun _ h => (∃ K : PySem.W.Frag, K.In h ∧ SaysR K) ∧ ∀ a ∈ tabA, h.get? a = some { cls := .none, data := .fields #[] }
  of := fun _ _ e => ⟨⟨_, He.frG_in, (Prod.mk.inj e).1⟩, tblB_ok (Prod.mk.inj e).2⟩
  keeps := fun _ _ _ ⟨⟨K, hK, c⟩, t⟩ k => ⟨⟨K, PySem.W.Frag.In.keeps hK k, c⟩, fun a ha => k _ _ (t a ha)⟩
end Kx
end
section
set_option maxHeartbeats 0
namespace Kx
open PySem PySem.Spec PyProof.Rows L2
abbrev R : PySem.W.OpenRow := PySem.W.OpenLaw.row PySem.Challenge.rw_creepclocks_k20_whole_partings
def names0 : List PySem.Str := ["_wall", "CreepError", "InvalidNumber", "InvalidFraction", "InvalidOrder", "OrderTooLow", "UnlikeOrders", "InvalidPlace", "InvalidPower", "CantTurn", "NotSlow", "NoAnswer", "DividedByZero", "ZERO", "ONE", "MINUS_ONE", "MOST_POWER", "is_whole", "is_between", "is_fraction"]
def names1 : List PySem.Str := ["ratio", "difference_of", "product_of", "quotient_of", "fraction_text", "LOWEST_ORDER", "HIGHEST_ORDER", "is_listing", "check_order", "check_orders", "check_cut", "check_place", "check_number", "wrong_item", "check_fractions", "checked_numbers", "check_slow", "check_turnable", "is_zero", "least_place"]
def names2 : List PySem.Str := ["differences_of", "multiples_of", "dot", "mixed", "over_one_lower", "multiplied", "still_numbers", "table_lines", "put_behind", "solved", "turned_back", "done_times", "differences", "binomials", "binomial_power", "letter_text", "term_text", "term_words", "numbers_text", "kind_of"]
def names3 : List PySem.Str := ["Step", "first_difference", "Paper", "unequal_sides", "Parting", "slow_part", "flip_straightener", "stretch_straightener", "parted", "is_pure", "_law_bag", "_law_draw", "_law_of", "_law_same", "_law_low", "_law_sub", "_law_mul", "_law_less", "_law_scaled", "_law_x"]
def names4 : List PySem.Str := ["_law_whole", "_law_conv", "_law_put", "_law_num", "_law_wide", "_law_order", "_law_step", "_law_is_fraction", "_law_is_step", "_law_scaling", "_law_try", "_law_parts_fit", "_law_row_of", "_law_right", "_law_pure", "_law_drawn", "_law_once"]
def names : List PySem.Str := names0 ++ names1 ++ names2 ++ names3 ++ names4
abbrev hk : PySem.W.Hook := hookR
def ob (s : PySem.W.SharedT) : ObV × Bool := (obR (HandSHeadRun.getT s), tblB (HandSHeadRun.getT s))
theorem ob_eq (s : PySem.W.SharedT) : ob s = hk.obs s.abs := by
  have e : HandSHeadRun.getT s = s.abs.heap.get? := funext fun a => HandSHeadRun.getT_eq s a
  unfold ob
  rw [e]
  rfl
noncomputable abbrev endI (w : World) := HandSHeadRun.wholeF (fun p => HandSHeadRun.stepQ (HandSHeadRun.denQ HandSHeadRun.tabQ) p w) HandSHeadRun.fenceQ 20000 R.prog
abbrev qv := PySem.W.view R.prog [0, 107]
theorem run1a (w : World) : (endI w).map (fun x => HandSHeadRun.looksF R.prog x.1.heap x.2.abs) = some true := by
  kernel_rfl
theorem run1b (w : World) : (endI w).map (fun x => (obR (HandSHeadRun.getT x.2)).1) = some true := by
  kernel_rfl
theorem run1c (w : World) : (endI w).map (fun x => (obR (HandSHeadRun.getT x.2)).2) = some valR.2 := by
  kernel_rfl
theorem run1d (w : World) : (endI w).map (fun x => tblB (HandSHeadRun.getT x.2)) = some true := by
  kernel_rfl
theorem run1 (w : World) : (endI w).map (fun x => (HandSHeadRun.looksF R.prog x.1.heap x.2.abs, ob x.2)) = some (true, (valR, true)) := by
  obtain ⟨x, e1, e2⟩ := Option.map_eq_some_iff.mp (run1a w)
  have e3 := run1b w
  have e4 := run1c w
  have e5 := run1d w
  rw [e1] at e3 e4 e5 ⊢
  have e3 : (obR (HandSHeadRun.getT x.2)).1 = true := Option.some.inj e3
  have e4 : (obR (HandSHeadRun.getT x.2)).2 = valR.2 := Option.some.inj e4
  have e5 : tblB (HandSHeadRun.getT x.2) = true := Option.some.inj e5
  have e6 : obR (HandSHeadRun.getT x.2) = valR := Prod.ext e3 e4
  show some (HandSHeadRun.looksF R.prog x.1.heap x.2.abs, (obR (HandSHeadRun.getT x.2), tblB (HandSHeadRun.getT x.2))) = _
  rw [e2, e5, e6]
theorem run2 (w : World) : (endI w).map (fun x => HandSHeadRun.seenQ qv names (importedModules R.prog.main.body) (fun s => PySem.W.xlAt qv [] s && PySem.W.recOk R.toRowW.records s) x.2.abs) = some (PySem.W.openGood qv names) := by
  kernel_rfl
theorem run (w : World) : HandSHeadRun.RunEqI R qv hk ob 20000 names w := by
  obtain ⟨x, e1, e2⟩ := Option.map_eq_some_iff.mp (run1 w)
  have e3 := run2 w
  show (endI w).map _ = _
  rw [e1] at e3 ⊢
  have e4 := Option.some.inj e3
  have e5 := (Prod.mk.inj e2).1
  have e6 := (Prod.mk.inj e2).2
  show some (HandSHeadRun.looksF R.prog x.1.heap x.2.abs, HandSHeadRun.seenQ qv names (importedModules R.prog.main.body) (fun s => PySem.W.xlAt qv [] s && PySem.W.recOk R.toRowW.records s) x.2.abs, ob x.2) = _
  rw [e5, e6]
  exact congrArg some (congrArg (Prod.mk true) (congrArg (fun z => (z, (valR, true))) e4))
end Kx
end
section
set_option maxHeartbeats 4000000
namespace Kx
open PySem PySem.Spec PyProof.Rows L2
/-! ### powers of greater bases -/
def CPowL (i j : Int) : Prop := 0 ≤ j ∧ j ≤ 4 ∧ i.natAbs < 2 ^ 200
theorem op_powL {X : Cx} : OpR X (binaryOp .Pow) (rI CPowL fun i j => .int (i ^ j.toNat)) := opI fun i j _ _ _ _ _ hc q => pow_int hc.1 (by
  have h1 := hc.1
  have h2 := hc.2.1
  have h3 : Builtin.Int.intBits i ≤ 200 := by
    unfold Builtin.Int.intBits
    split
    · omega
    · have := PySem.Flt.log2_lt_of (k := 200) (by decide) hc.2.2
      omega
  have h4 : (Builtin.Int.intBits i : Int) * j ≤ 200 * 4 := Int.mul_le_mul (by omega) h2 h1 (by decide)
  exact Int.le_trans h4 (by decide)) q
/-! ### the bag: n more draws may come -/
def bagL (p : Addr) (i r sd c : Int) : List V := [.ref p, .int i, .int r, .int sd, .int c]
structure Bag (n : Nat) (H : Hp) (B p : Addr) : Prop where
  ex : ∃ (ns : List Int) (i r sd c : Int), H B = some (.lst (bagL p i r sd c)) ∧ H p = some (.lst (ns.map V.int)) ∧ p ≠ B ∧ 0 ≤ i ∧ 0 ≤ r ∧ 0 ≤ sd ∧ sd < 2305843009213693951 ∧ 0 ≤ c ∧ c + n ≤ 1000000
/-- all but the bag stands -/
def But (B : Addr) (H H' : Hp) : Prop := ∀ b o, b ≠ B → H b = some o → H' b = some o
theorem But.refl {B : Addr} {H : Hp} : But B H H := fun _ _ _ h => h
theorem But.trans {B : Addr} {H H1 H2 : Hp} (a : But B H H1) (b : But B H1 H2) : But B H H2 := fun x o n h => b x o n (a x o n h)
theorem But.new {B : Addr} {H : Hp} {p : Addr} {o : HO} (h : H p = none) : But B H (upd H p o) := fun b u _ q => by rw [upd_ne (ne_of_none q h)]; exact q
theorem But.same {B : Addr} {H H' : Hp} (h : Same H H') : But B H H' := fun b o _ q => h b o q
theorem Bag.same {n : Nat} {H H' : Hp} {B p : Addr} (b : Bag n H B p) (h : Same H H') : Bag n H' B p := by
  obtain ⟨ns, i, r, sd, c, h1, h2, h3⟩ := b.ex
  exact ⟨ns, i, r, sd, c, h _ _ h1, h _ _ h2, h3⟩
theorem Bag.less {n m : Nat} {H : Hp} {B p : Addr} (b : Bag n H B p) (h : m ≤ n) : Bag m H B p := by
  obtain ⟨ns, i, r, sd, c, h1, h2, h3, h4, h5, h6, h7, h8, h9⟩ := b.ex
  exact ⟨ns, i, r, sd, c, h1, h2, h3, h4, h5, h6, h7, h8, by omega⟩
def spDraw : Sp := fun vs H Q _ => ∃ (n : Nat) (B p : Addr) (L : Int), vs = [.ref B, .int L] ∧ 0 < L ∧ L < 1073741824 ∧ Bag (n + 1) H B p ∧
  ∀ H' k, Bag n H' B p → But B H H' → 0 ≤ k → k < L → Q (.int k) H'
section
variable {P : Program} {w : World} {K : PySem.W.Frag} {mg : Str → Option Value} {base : Heap} {f : Addr} {fd : FuncData}
abbrev nDr : List Str := ["_law_bag_here", "_law_many_y", "_law_cell", "_law_digit"]
theorem scDraw : FnScope nDr ["_law_bag_here", "_law_many_y"] (defScope L_draw) := ⟨rfl, rfl, rfl, by decide +kernel, rfl, by decide +kernel, by decide +kernel⟩
theorem pow_bd {x : Int} {n : Nat} (h : x.natAbs < 2 ^ n) (hn : n ≤ 200) : CPowL x 3 := ⟨by decide, by decide, Nat.lt_of_lt_of_le h (Nat.pow_le_pow_right (by decide) hn)⟩
theorem ok_draw (F : Fun K "_law_draw" "_law_draw" L_draw f fd) (ml : mg "len" = none) (mi : mg "int" = none) : FnOk P w K mg base CX0 1 f fd ["_law_bag_here", "_law_many_y"] spDraw := by
  refine F.ok scDraw (fun vs H Q E h => ?_) (fun cdv A outer s H vs Q E hr h => ?_)
  · obtain ⟨n, B, p, L, rfl, _⟩ := h
    rfl
  obtain ⟨n, B, p, L, rfl, l1, l2, hb, q⟩ := h
  obtain ⟨ns, i, r, sd, c, hB, hp, np, i0, r0, s0, s1, c0, cn⟩ := hb.ex
  have cn' : c + 1 + (n : Int) ≤ 1000000 := by omega
  refine ⟨_, pss_cons (ps_asg (pe_op op_add (pe_ix ix_list (pv 0) pe_int (fun _ _ => rfl)) pe_int) (pg_sub (pv 0) pe_int set_list))
    (C8.pss_cut (ps_if (PW.pt (pw_and (pt_cmpR op_eq (pe_ix ix_list (pv 0) pe_int (fun _ _ => rfl)) pe_int (nomark _)) (pw_and1 (pt_cmpR op_lt (pe_ix ix_list (pv 0) pe_int (fun _ _ => rfl)) (pe_callB call_len_seq rfl ml PySem.boot_len (pa_cons (pe_ix ix_list (pv 0) pe_int (fun _ _ => rfl)) pa_nil)) (nomark _)))))
        (pss_cons (ps_set (i := 2) scDraw.nd rfl (Or.inl rfl) (pe_callTy call_int1 rfl mi (by decide +kernel) (pa_cons (pe_ix ix_list (pe_ix ix_list (pv 0) pe_int (fun _ _ => rfl)) (pe_ix ix_list (pv 0) pe_int (fun _ _ => rfl)) (fun _ _ => rfl)) pa_nil)))
        (pss_cons (ps_asg (pe_op op_add (pe_ix ix_list (pv 0) pe_int (fun _ _ => rfl)) pe_int) (pg_sub (pv 0) pe_int set_list))
        (pss_one (ps_if (pt_cmpR op_ge (pv 2) (pe_op op_pow pe_int pe_int) (nomark _))
          (pss_one (ps_asg (pv 2) (pg_sub (pv 0) pe_int set_list)))
          (pss_one (ps_asg (pe_op op_mod (pe_callTy call_int1 rfl mi (by decide +kernel) (pa_cons (pe_op op_powL (pe_op op_add (pe_op op_add (pe_ix ix_list (pv 0) pe_int (fun _ _ => rfl)) (pe_op op_mul (pe_op op_mod (pe_callTy call_int1 rfl mi (by decide +kernel) (pa_cons (pv 2) pa_nil)) pe_int) pe_int)) pe_int) pe_int) pa_nil)) pe_int) (pg_sub (pv 0) pe_int set_list)))))))
        pss_nil)
    (pss_cons (ps_if (pt_cmpR op_gt (pe_ix ix_list (pv 0) pe_int (fun _ _ => rfl)) pe_int (nomark _))
        (pss_cons (ps_set (i := 3) scDraw.nd rfl (Or.inl rfl) (pe_op op_mod (pe_callTy call_int1 rfl mi (by decide +kernel) (pa_cons (pe_ix ix_list (pv 0) pe_int (fun _ _ => rfl)) pa_nil)) (pv 1)))
        (pss_cons (ps_asg (pe_op op_fdiv (pe_callTy call_int1 rfl mi (by decide +kernel) (pa_cons (pe_ix ix_list (pv 0) pe_int (fun _ _ => rfl)) pa_nil)) (pv 1)) (pg_sub (pv 0) pe_int set_list))
        (pss_one (ps_ret (pv 3)))))
        pss_nil)
    (pss_cons (ps_asg (pe_op op_mod (pe_callTy call_int1 rfl mi (by decide +kernel) (pa_cons (pe_op op_powL (pe_op op_add (pe_op op_add (pe_ix ix_list (pv 0) pe_int (fun _ _ => rfl)) (pe_op op_mul (pe_ix ix_list (pv 0) pe_int (fun _ _ => rfl)) pe_int)) pe_int) pe_int) pa_nil)) pe_int) (pg_sub (pv 0) pe_int set_list))
    (pss_one (ps_ret (pe_op op_mod (pe_callTy call_int1 rfl mi (by decide +kernel) (pa_cons (pe_op op_fdivW (pe_ix ix_list (pv 0) pe_int (fun _ _ => rfl)) pe_int) pa_nil)) (pv 1))))))), ?_⟩
  refine ⟨_, rfl, B, _, 4, _, rfl, rfl, SqL.of hB, rfl, c, 1, rfl, rfl, _, rfl, B, _, 4, 4, rfl, rfl, hB, rfl, ?_⟩
  have e1 : (bagL p i r sd c).set 4 (.int (c + 1)) = bagL p i r sd (c + 1) := rfl
  have hB1 : (upd H B (.lst ((bagL p i r sd c).set 4 (.int (c + 1))))) B = some (.lst (bagL p i r sd (c + 1))) := upd_same
  have hp1 : (upd H B (.lst ((bagL p i r sd c).set 4 (.int (c + 1))))) p = some (.lst (ns.map V.int)) := by rw [upd_ne np]; exact hp
  have b1 : But B H (upd H B (.lst ((bagL p i r sd c).set 4 (.int (c + 1))))) := fun b o n z => by rw [upd_ne n]; exact z
  generalize upd H B (.lst ((bagL p i r sd c).set 4 (.int (c + 1)))) = H1 at hB1 hp1 b1 ⊢
  refine ⟨fun σ' H' => ∃ (i r sd : Int) (v w : Option V), σ' = [some (.ref B), some (.int L), v, w] ∧ H' B = some (.lst (bagL p i r sd (c + 1))) ∧ H' p = some (.lst (ns.map V.int)) ∧ But B H H' ∧ 0 ≤ i ∧ 0 ≤ r ∧ 0 ≤ sd ∧ sd < 2305843009213693951, ?_, ?_⟩
  · refine ⟨_, rfl, B, _, 2, _, rfl, rfl, SqL.of hB1, rfl, rfl, _, rfl, ?_⟩
    refine ite2 (fun _ => ?_) (fun _ => iteF ⟨i, r, sd, none, none, rfl, hB1, hp1, b1, i0, r0, s0, s1⟩)
    refine ⟨_, rfl, B, _, 1, _, rfl, rfl, SqL.of hB1, rfl, _, rfl, B, _, 0, _, rfl, rfl, SqL.of hB1, rfl, p, _, rfl, .inl (SqL.of hp1), i, _, rfl, rfl, _, rfl, ?_⟩
    refine ite2 (fun c1 => ?_) (fun _ => ⟨i, r, sd, none, none, rfl, hB1, hp1, b1, i0, r0, s0, s1⟩)
    have c2 : i < (((ns.map V.int).length : Nat) : Int) := of_decide_eq_true c1
    rw [List.length_map] at c2
    have hz : (ns.map V.int)[i.toNat]? = some (.int (ns[i.toNat]'(by omega))) := by rw [List.getElem?_map, List.getElem?_eq_getElem (by omega)]; rfl
    generalize ns[i.toNat]'(by omega) = z at hz
    have ha : atI (ns.map V.int) i = some (.int z) := at_of (by omega) hz
    refine ⟨_, rfl, B, _, 0, _, rfl, rfl, SqL.of hB1, rfl, _, rfl, B, _, 1, _, rfl, rfl, SqL.of hB1, rfl, p, _, i, _, rfl, rfl, SqL.of hp1, ha, .inl ⟨z, rfl, ?_⟩⟩
    refine ⟨_, rfl, B, _, 1, _, rfl, rfl, SqL.of hB1, rfl, i, 1, rfl, rfl, _, rfl, B, _, 1, 1, rfl, rfl, hB1, rfl, ?_⟩
    have hB2 : (upd H1 B (.lst ((bagL p i r sd (c + 1)).set 1 (.int (i + 1))))) B = some (.lst (bagL p (i + 1) r sd (c + 1))) := upd_same
    have hp2 : (upd H1 B (.lst ((bagL p i r sd (c + 1)).set 1 (.int (i + 1))))) p = some (.lst (ns.map V.int)) := by rw [upd_ne np]; exact hp1
    have b2 : But B H (upd H1 B (.lst ((bagL p i r sd (c + 1)).set 1 (.int (i + 1))))) := b1.trans fun b o n z => by rw [upd_ne n]; exact z
    generalize upd H1 B (.lst ((bagL p i r sd (c + 1)).set 1 (.int (i + 1)))) = H2 at hB2 hp2 b2 ⊢
    refine ⟨_, rfl, 10, 18, rfl, rfl, ⟨by decide, by decide, by decide⟩, z, _, rfl, rfl, _, rfl, ?_⟩
    refine ite2 (fun c3 => ?_) (fun _ => ?_)
    · have c4 : (10 : Int) ^ (18 : Int).toNat ≤ z := of_decide_eq_true c3
      refine ⟨_, rfl, _, rfl, B, _, 2, 2, rfl, rfl, hB2, rfl, i + 1, z, sd, some (.int z), none, rfl, upd_same, by rw [upd_ne np]; exact hp2, b2.trans fun b o n z => by rw [upd_ne n]; exact z, by omega, ?_, s0, s1⟩
      exact Int.le_trans (by decide) c4
    · refine ⟨_, rfl, B, _, 3, _, rfl, rfl, SqL.of hB2, rfl, _, rfl, .inl ⟨z, rfl, ?_⟩⟩
      have v0 := Int.emod_nonneg z (show (2305843009213693921 : Int) ≠ 0 by decide)
      have v1 := Int.emod_lt_of_pos z (show (0 : Int) < 2305843009213693921 by decide)
      refine ⟨z, 2305843009213693921, rfl, rfl, (by show (0 : Int) < 2305843009213693921; decide), _, 11, rfl, rfl, .inr ⟨by decide, by decide⟩, sd, _, rfl, rfl, _, 41, rfl, rfl, _, 3, rfl, rfl, ?_, .inl ⟨_, rfl, ?_⟩⟩
      · exact pow_bd (n := 70) (by omega) (by decide)
      refine ⟨_, 2305843009213693951, rfl, rfl, (by show (0 : Int) < 2305843009213693951; decide), _, rfl, B, _, 3, 3, rfl, rfl, hB2, rfl, i + 1, r, _, some (.int z), none, rfl, upd_same, by rw [upd_ne np]; exact hp2, b2.trans fun b o n z => by rw [upd_ne n]; exact z, by omega, r0, Int.emod_nonneg _ (by decide), Int.emod_lt_of_pos _ (by decide)⟩
  · rintro σ' H' ⟨i, r, sd, v, w', rfl, hB2, hp2, b2, i0, r0, s0, s1⟩
    refine ⟨_, rfl, B, _, 2, _, rfl, rfl, SqL.of hB2, rfl, r, 0, rfl, rfl, _, rfl, ?_⟩
    refine ite2 (fun _ => ?_) (fun _ => ?_)
    · refine ⟨_, rfl, B, _, 2, _, rfl, rfl, SqL.of hB2, rfl, .inl ⟨r, rfl, _, rfl, r, L, rfl, rfl, l1, ?_⟩⟩
      refine ⟨_, rfl, B, _, 2, _, rfl, rfl, SqL.of hB2, rfl, .inl ⟨r, rfl, _, rfl, r, L, rfl, rfl, ⟨l1, l2⟩, _, rfl, B, _, 2, 2, rfl, rfl, hB2, rfl, ?_⟩⟩
      refine ⟨_, rfl, q _ _ ⟨ns, i, r / L, sd, c + 1, upd_same, by rw [upd_ne np]; exact hp2, np, i0, Int.ediv_nonneg r0 (by omega), s0, s1, by omega, by omega⟩ (b2.trans fun b o n z => by rw [upd_ne n]; exact z) (Int.emod_nonneg _ (by omega)) (Int.emod_lt_of_pos _ l1)⟩
    · refine ⟨_, rfl, B, _, 3, _, rfl, rfl, SqL.of hB2, rfl, _, rfl, B, _, 4, _, rfl, rfl, SqL.of hB2, rfl, c + 1, 1000003, rfl, rfl, .inr ⟨by decide, by decide⟩, sd, _, rfl, rfl, _, 31, rfl, rfl, _, 3, rfl, rfl, ?_, .inl ⟨_, rfl, ?_⟩⟩
      · exact pow_bd (n := 70) (by omega) (by decide)
      refine ⟨_, 2305843009213693951, rfl, rfl, (by show (0 : Int) < 2305843009213693951; decide), _, rfl, B, _, 3, 3, rfl, rfl, hB2, rfl, ?_⟩
      have v0 := Int.emod_nonneg ((sd + (c + 1) * 1000003 + 31) ^ Int.toNat 3) (show (2305843009213693951 : Int) ≠ 0 by decide)
      have v1 := Int.emod_lt_of_pos ((sd + (c + 1) * 1000003 + 31) ^ Int.toNat 3) (show (0 : Int) < 2305843009213693951 by decide)
      have hB3 : (upd H' B (.lst ((bagL p i r sd (c + 1)).set 3 (.int ((sd + (c + 1) * 1000003 + 31) ^ Int.toNat 3 % 2305843009213693951))))) B = some (.lst (bagL p i r ((sd + (c + 1) * 1000003 + 31) ^ Int.toNat 3 % 2305843009213693951) (c + 1))) := upd_same
      have hp3 : (upd H' B (.lst ((bagL p i r sd (c + 1)).set 3 (.int ((sd + (c + 1) * 1000003 + 31) ^ Int.toNat 3 % 2305843009213693951))))) p = some (.lst (ns.map V.int)) := by rw [upd_ne np]; exact hp2
      have b3 : But B H (upd H' B (.lst ((bagL p i r sd (c + 1)).set 3 (.int ((sd + (c + 1) * 1000003 + 31) ^ Int.toNat 3 % 2305843009213693951))))) := b2.trans fun b o n z => by rw [upd_ne n]; exact z
      refine ⟨_, rfl, B, _, 3, _, rfl, rfl, SqL.of hB3, rfl, _, 1073741827, rfl, rfl, ⟨by decide, by decide⟩, .inl ⟨_, rfl, _, rfl, _, L, rfl, rfl, l1, ?_⟩⟩
      exact q _ _ ⟨ns, i, r, _, c + 1, hB3, hp3, np, i0, r0, v0, v1, by omega, by omega⟩ b3 (Int.emod_nonneg _ (by omega)) (Int.emod_lt_of_pos _ l1)
end
end Kx
end
section
set_option maxHeartbeats 4000000
namespace Kx
open PySem PySem.Spec PyProof.Rows L2
theorem cut_map (ns : List Int) (lo hi : Option Int) : ∃ ms : List Int, cutV (ns.map V.int) lo hi = ms.map V.int := by
  unfold cutV
  rw [List.length_map, ← List.map_drop, ← List.map_take]
  exact ⟨_, rfl⟩
def spBag (K : PySem.W.Frag) : Sp := fun vs H Q _ => ∃ (a : Addr) (ns : List Int), vs = [.ref a] ∧ SqL K H a (ns.map V.int) ∧ ∀ H' B p, Same H H' → H B = none → Bag 1000000 H' B p → Q (.ref B) H'
theorem new_same {H : Hp} {p : Addr} (h : H p = none) (o : HO) : Same H (upd H p o) := fun b u q => by rw [upd_ne (ne_of_none q h)]; exact q
section
variable {P : Program} {w : World} {K : PySem.W.Frag} {mg : Str → Option Value} {base : Heap} {f fD : Addr} {fd fdD : FuncData}
theorem scBag : FnScope ["_law_script", "_law_mixed", "_law_cell"] ["_law_script"] (defScope L_bag) := ⟨rfl, rfl, rfl, by decide +kernel, rfl, by decide +kernel, by decide +kernel⟩
theorem ok_bag (F : Fun K "_law_bag" "_law_bag" L_bag f fd) (ml : mg "list" = none) (mi : mg "int" = none) : FnOk P w K mg base CX0 1 f fd ["_law_script"] (spBag K) := by
  refine F.ok scBag (fun vs H Q E h => ?_) (fun cdv A outer s H vs Q E hr h => ?_)
  · obtain ⟨a, ns, rfl, _⟩ := h
    rfl
  obtain ⟨a, ns, rfl, hS, q⟩ := h
  obtain ⟨ms, hm⟩ := cut_map ns none (some 63)
  refine ⟨_, pss_cons (ps_set (i := 1) scBag.nd rfl (Or.inl rfl) pe_int)
    (pss_cons (ps_for PassesOwn.never rfl (pi_list (pe_slice sl_list (pv 0) po_none (po_some pe_int))) (pg_name (i := 2) scBag.nd rfl (Or.inl rfl))
      (pss_one (ps_set (i := 1) scBag.nd rfl (Or.inl rfl) (pe_op op_mod (pe_callTy call_int1 rfl mi (by decide +kernel) (pa_cons (pe_op op_powL (pe_op op_add (pe_op op_add (pv 1) (pe_op op_mod (pe_callTy call_int1 rfl mi (by decide +kernel) (pa_cons (pv 2) pa_nil)) pe_int)) pe_int) pe_int) pa_nil)) pe_int))))
    (pss_one (ps_ret (pe_lst (pa_cons (pe_callTy call_list_of rfl ml (by decide +kernel) (pa_cons (pe_slice sl_list (pv 0) po_none (po_some pe_int)) pa_nil)) (pa_cons pe_int (pa_cons pe_int (pa_cons (pv 1) (pa_cons pe_int pa_nil))))))))), ?_⟩
  refine ⟨_, rfl, 63, rfl, a, _, rfl, hS, fun p np => ⟨p, rfl, ⟨_, SqL.of upd_same⟩, for_list (K := K) (a := p) (xs := cutV (ns.map V.int) none (some 63))
    (fun i σ H' => ∃ (sd : Int) (v : Option V), σ = [some (.ref a), some (.int sd), v] ∧ 0 ≤ sd ∧ sd < 2305843009213693951 ∧ H' = upd H p (.lst (cutV (ns.map V.int) none (some 63)))) ⟨13960, none, rfl, by decide, by decide, rfl⟩ (fun i σ H' _ h => ?_) ?_ ?_⟩⟩
  · obtain ⟨_, _, _, _, _, rfl⟩ := h
    exact SqL.of upd_same
  · rintro i y σ H' hy ⟨sd, v, rfl, s0, s1, rfl⟩
    obtain ⟨z, rfl⟩ : ∃ z, y = V.int z := by
      rw [hm, List.getElem?_map] at hy
      obtain ⟨z, _, e⟩ := Option.map_eq_some_iff.mp hy
      exact ⟨z, e.symm⟩
    have v0 := Int.emod_nonneg z (show (2305843009213693921 : Int) ≠ 0 by decide)
    have v1 := Int.emod_lt_of_pos z (show (0 : Int) < 2305843009213693921 by decide)
    refine ⟨_, rfl, _, rfl, .inl ⟨z, rfl, z, 2305843009213693921, rfl, rfl, (by show (0 : Int) < 2305843009213693921; decide), sd, _, rfl, rfl, _, 389, rfl, rfl, _, 3, rfl, rfl, ?_, .inl ⟨_, rfl, _, 2305843009213693951, rfl, rfl, (by show (0 : Int) < 2305843009213693951; decide), ?_⟩⟩⟩
    · exact pow_bd (n := 70) (by omega) (by decide)
    exact ⟨_, _, rfl, Int.emod_nonneg _ (by decide), Int.emod_lt_of_pos _ (by decide), rfl⟩
  · rintro σ H' ⟨sd, v, rfl, s0, s1, rfl⟩
    have g1 : Same H (upd H p (.lst (cutV (ns.map V.int) none (some 63)))) := new_same np _
    generalize upd H p (.lst (cutV (ns.map V.int) none (some 63))) = H1 at g1
    refine ⟨_, rfl, 63, rfl, a, _, rfl, g1.seq hS, fun p2 np2 => ⟨p2, _, rfl, .inl (SqL.of upd_same), fun l nl => ?_⟩⟩
    have g2 := g1.trans (new_same np2 (.lst (cutV (ns.map V.int) none (some 63))))
    generalize upd H1 p2 (.lst (cutV (ns.map V.int) none (some 63))) = H2 at g2 nl
    have g3 := g2.trans (new_same nl (.lst (cutV (ns.map V.int) none (some 63))))
    have hl : (upd H2 l (.lst (cutV (ns.map V.int) none (some 63)))) l = some (.lst (ms.map V.int)) := by rw [upd_same, hm]
    generalize upd H2 l (.lst (cutV (ns.map V.int) none (some 63))) = H3 at g3 hl
    refine ⟨_, rfl, (by show 5 ≤ sizeLine; decide), fun B nB => q _ B l (g3.trans (new_same nB _)) (g3.free nB) ⟨ms, 0, 0, sd, 0, upd_same, ?_, ?_, by decide, by decide, s0, s1, by decide, by decide⟩⟩
    · rw [upd_ne (ne_of_none hl nB)]
      exact hl
    · exact ne_of_none hl nB
/-! ### one of several -/
def spOfL : Sp := fun vs H Q _ => ∃ (n : Nat) (B p t : Addr) (xs : List V), vs = [.ref B, .ref t] ∧ H t = some (.lst xs) ∧ t ≠ B ∧ 0 < xs.length ∧ xs.length ≤ 1000 ∧ Bag (n + 1) H B p ∧ ∀ H' x, Bag n H' B p → But B H H' → x ∈ xs → Q x H'
theorem scOf : FnScope ["_law_bag_here", "_law_things"] ["_law_bag_here", "_law_things"] (defScope L_of) := ⟨rfl, rfl, rfl, by decide +kernel, rfl, by decide +kernel, by decide +kernel⟩
theorem at_in {xs : List V} {k : Int} (h0 : 0 ≤ k) (h1 : k < (xs.length : Int)) : ∃ x, atI xs k = some x ∧ x ∈ xs := by
  have hk : k.toNat < xs.length := by omega
  exact ⟨xs[k.toNat], at_of (by omega) (List.getElem?_eq_getElem hk), List.getElem_mem hk⟩
theorem ok_ofL (F : Fun K "_law_of" "_law_of" L_of f fd) (G : FnOk P w K mg base CX0 1 fD fdD ["_law_bag_here", "_law_many_y"] spDraw) (bD : Binds K fdD ["_law_bag_here", "_law_many_y"] []) (kD : PySem.W.keepIn K (.ref fD) = true) (mD : mg "_law_draw" = some (.ref fD)) (ml : mg "len" = none) :
    FnOk P w K mg base CX0 2 f fd ["_law_bag_here", "_law_things"] spOfL := by
  refine F.ok scOf (fun vs H Q E h => ?_) (fun cdv A outer s H vs Q E hr h => ?_)
  · obtain ⟨n, B, p, t, xs, rfl, _⟩ := h
    rfl
  obtain ⟨n, B, p, t, xs, rfl, ht, nt, l0, l1, hb, q⟩ := h
  refine ⟨_, pss_one (ps_ret (pe_ix ix_list (pv 1) (pe_call G hr rfl mD kD bD .nil pass0 (pa_cons (pv 0) (pa_cons (pe_callB call_len_seq rfl ml PySem.boot_len (pa_cons (pv 1) pa_nil)) pa_nil))) (fun _ _ => rfl))), ?_⟩
  refine ⟨_, rfl, _, rfl, _, rfl, t, _, rfl, .inl (SqL.of ht), n, B, p, _, rfl, by omega, by omega, hb, fun H' k b' u k0 k1 => ?_⟩
  obtain ⟨x, hx, hm⟩ := at_in k0 k1
  exact ⟨t, xs, k, x, rfl, rfl, SqL.of (u _ _ nt ht), hx, q H' x b' u hm⟩
end
end Kx
end
section
set_option maxHeartbeats 4000000
namespace Kx
open PySem PySem.Spec PyProof.Rows L2
/-- // by any divisor but 0, below 2 ^ 9000 -/
theorem op_fdivA {X : Cx} : OpR X (binaryOp .FloorDiv) (rI (fun _ j => j ≠ 0 ∧ j.natAbs.log2 < 9000) fun i j => .int (i.fdiv j)) := opI fun _ _ _ _ _ _ _ hc q => floordiv_int hc.1 q (.inl (PyProof.noPylong_of_log2 hc.2))
/-- the greatest common divisor, with the sign of q -/
def gS (p q : Int) : Int := if q < 0 then -((Nat.gcd p.natAbs q.natAbs : Nat) : Int) else ((Nat.gcd p.natAbs q.natAbs : Nat) : Int)
/-- p over q in lowest terms, above and below -/
def lowU (p q : Int) : Int := p.fdiv (gS p q)
def lowL (p q : Int) : Int := q.fdiv (gS p q)
theorem gS_ne {p q : Int} (h : q ≠ 0) : gS p q ≠ 0 := by
  have g : Nat.gcd p.natAbs q.natAbs ≠ 0 := fun e => h (Int.natAbs_eq_zero.mp (Nat.eq_zero_of_gcd_eq_zero_right e))
  unfold gS
  split <;> omega
theorem gS_abs (p q : Int) : (gS p q).natAbs = Nat.gcd p.natAbs q.natAbs := by
  unfold gS
  split <;> omega
theorem gS_le {p q : Int} (h : q ≠ 0) : (gS p q).natAbs ≤ q.natAbs := by
  rw [gS_abs]
  exact Nat.gcd_le_right _ (Nat.pos_of_ne_zero (fun e => h (Int.natAbs_eq_zero.mp e)))
theorem log_le {a b : Nat} (h : a ≤ b) : a.log2 ≤ b.log2 := by
  by_cases e : a = 0
  · subst e
    rw [Nat.log2_zero]
    omega
  · have := Nat.log2_self_le e
    exact (Nat.le_log2 (by omega)).mpr (Nat.le_trans this h)
theorem abs_nat (i : Int) : (if i < 0 then -i else i) = ((i.natAbs : Nat) : Int) := by
  split <;> omega
def spLow : Sp := fun vs H Q _ => ∃ p q : Int, vs = [.int p, .int q] ∧ q ≠ 0 ∧ q.natAbs.log2 < 9000 ∧ ∀ t, H t = none → Q (.ref t) (upd H t (.tup [.int (lowU p q), .int (lowL p q)]))
section
variable {P : Program} {w : World} {K : PySem.W.Frag} {mg : Str → Option Value} {base : Heap} {f : Addr} {fd : FuncData}
end
end Kx
end
section
set_option maxHeartbeats 4000000
namespace Kx
open PySem PySem.Spec PyProof.Rows L2
theorem low_rat {p q : Int} (h : q ≠ 0) : lowU p q = (Rat.divInt p q).num ∧ lowL p q = ((Rat.divInt p q).den : Int) := by
  have g0 : 0 < Nat.gcd p.natAbs q.natAbs := Nat.gcd_pos_of_pos_right _ (Nat.pos_of_ne_zero fun e => h (Int.natAbs_eq_zero.mp e))
  obtain ⟨a, ha⟩ : ((Nat.gcd p.natAbs q.natAbs : Nat) : Int) ∣ p := Int.ofNat_dvd_left.mpr (Nat.gcd_dvd_left _ _)
  obtain ⟨b, hb⟩ : ((Nat.gcd p.natAbs q.natAbs : Nat) : Int) ∣ q := Int.ofNat_dvd_left.mpr (Nat.gcd_dvd_right _ _)
  have gi : (0 : Int) < ((Nat.gcd p.natAbs q.natAbs : Nat) : Int) := by omega
  have gc : Int.gcd q p = Nat.gcd p.natAbs q.natAbs := Nat.gcd_comm _ _
  have key : gS p q = q.sign * ((Nat.gcd p.natAbs q.natAbs : Nat) : Int) ∧ (q.sign = 1 ∨ q.sign = -1) ∧ (q.natAbs : Int) = q.sign * q := by
    unfold gS
    by_cases c : q < 0
    · rw [if_pos c, Int.sign_eq_neg_one_of_neg c]
      omega
    · have c2 : 0 < q := by omega
      rw [if_neg c, Int.sign_eq_one_of_pos c2]
      omega
  obtain ⟨hg, hs, hab⟩ := key
  rw [Rat.num_divInt, Rat.den_divInt, if_neg h, gc]
  unfold lowU lowL
  rw [hg]
  generalize q.sign = s at hs hab ⊢
  generalize ((Nat.gcd p.natAbs q.natAbs : Nat)) = g at *
  have ne : s * (g : Int) ≠ 0 := by rcases hs with rfl | rfl <;> omega
  have dv : ∀ x y : Int, x = (g : Int) * y → x.fdiv (s * g) = s * y := fun x y e => by
    have z : (g : Int) * y = s * (g : Int) * (s * y) := by
      rcases hs with rfl | rfl
      · simp
      · rw [Int.neg_one_mul, Int.neg_one_mul, Int.neg_mul_neg]
    rw [e, z]
    exact Int.mul_fdiv_cancel_left _ ne
  rw [dv p a ha, dv q b hb]
  constructor
  · have e : s * p = (g : Int) * (s * a) := by rw [ha, Int.mul_left_comm]
    rw [e, Int.mul_ediv_cancel_left _ (by omega)]
  · rw [Int.natCast_ediv, hab]
    have e : s * q = (g : Int) * (s * b) := by rw [hb, Int.mul_left_comm]
    rw [e, Int.mul_ediv_cancel_left _ (by omega)]
/-- above and below less than 2 ^ n -/
def Bq (n : Nat) (q : Rat) : Prop := q.num.natAbs < 2 ^ n ∧ q.den < 2 ^ n
theorem Bq.mono {n m : Nat} {q : Rat} (h : Bq n q) (k : n ≤ m) : Bq m q := ⟨Nat.lt_of_lt_of_le h.1 (Nat.pow_le_pow_right (by decide) k), Nat.lt_of_lt_of_le h.2 (Nat.pow_le_pow_right (by decide) k)⟩
theorem div_bd {p q : Int} {n m : Nat} (h : q ≠ 0) (hp : p.natAbs < 2 ^ n) (hq : q.natAbs < 2 ^ m) : (Rat.divInt p q).num.natAbs < 2 ^ n ∧ (Rat.divInt p q).den < 2 ^ m := by
  have g0 : 0 < Int.gcd q p := Int.gcd_pos_of_ne_zero_left _ h
  constructor
  · rw [Rat.num_divInt]
    refine Nat.lt_of_le_of_lt ?_ hp
    have e : (q.sign * p).natAbs = p.natAbs := by
      rw [Int.natAbs_mul, Int.natAbs_sign_of_ne_zero h, Nat.one_mul]
    rw [← e]
    refine Nat.le_trans (Int.natAbs_ediv_le_natAbs _ _) (Nat.le_refl _)
  · rw [Rat.den_divInt, if_neg h]
    exact Nat.lt_of_le_of_lt (Nat.div_le_self _ _) hq
theorem rat_add (a b : Rat) : a + b = Rat.divInt (a.num * b.den + b.num * a.den) (a.den * b.den) := by
  have h1 : (a.den : Int) ≠ 0 := by have := a.den_nz; omega
  have h2 : (b.den : Int) ≠ 0 := by have := b.den_nz; omega
  rw [← Rat.divInt_add_divInt _ _ h1 h2, Rat.num_divInt_den, Rat.num_divInt_den]
theorem rat_mul (a b : Rat) : a * b = Rat.divInt (a.num * b.num) (a.den * b.den) := by
  rw [← Rat.divInt_mul_divInt, Rat.num_divInt_den, Rat.num_divInt_den]
theorem rat_sub (a b : Rat) : a - b = Rat.divInt (a.num * b.den - b.num * a.den) (a.den * b.den) := by
  rw [Rat.sub_eq_add_neg, rat_add, Rat.neg_num, Rat.neg_den, Int.neg_mul, Int.sub_eq_add_neg]
theorem den_ne (a : Rat) : (a.den : Int) ≠ 0 := by have := a.den_nz; omega
theorem lt_add {x y : Int} {n : Nat} (hx : x.natAbs < 2 ^ n) (hy : y.natAbs < 2 ^ n) : (x + y).natAbs < 2 ^ (n + 1) := by
  have := Int.natAbs_add_le x y
  rw [Nat.pow_succ]
  omega
theorem lt_mul {i j : Int} {a b : Nat} (ha : i.natAbs < 2 ^ a) (hb : j.natAbs < 2 ^ b) : (i * j).natAbs < 2 ^ (a + b) := by
  rw [Int.natAbs_mul, Nat.pow_add]
  exact Nat.mul_lt_mul'' ha hb
theorem Bq.dn {n : Nat} {q : Rat} (h : Bq n q) : ((q.den : Int)).natAbs < 2 ^ n := by rw [Int.natAbs_natCast]; exact h.2
theorem Bq.add {n m : Nat} {a b : Rat} (ha : Bq n a) (hb : Bq m b) : Bq (n + m + 1) (a + b) := by
  rw [rat_add]
  have h := div_bd (Int.mul_ne_zero (den_ne a) (den_ne b)) (lt_add (lt_mul ha.1 hb.dn) (by rw [Nat.add_comm]; exact lt_mul hb.1 ha.dn)) (lt_mul ha.dn hb.dn)
  exact ⟨h.1, Nat.lt_of_lt_of_le h.2 (Nat.pow_le_pow_right (by decide) (by omega))⟩
theorem Bq.mul {n m : Nat} {a b : Rat} (ha : Bq n a) (hb : Bq m b) : Bq (n + m) (a * b) := by
  rw [rat_mul]
  exact div_bd (Int.mul_ne_zero (den_ne a) (den_ne b)) (lt_mul ha.1 hb.1) (lt_mul ha.dn hb.dn)
theorem Bq.neg {n : Nat} {a : Rat} (ha : Bq n a) : Bq n (-a) := ⟨by rw [Rat.neg_num, Int.natAbs_neg]; exact ha.1, by rw [Rat.neg_den]; exact ha.2⟩
theorem Bq.sub {n m : Nat} {a b : Rat} (ha : Bq n a) (hb : Bq m b) : Bq (n + m + 1) (a - b) := by
  rw [Rat.sub_eq_add_neg]
  exact ha.add hb.neg
theorem Bq.zero : Bq 1 0 := ⟨by decide, by decide⟩
/-- the sum of the first n products that make the number at the place k -/
def cvT (us ws : List Rat) (k : Nat) : Nat → Rat
  | 0 => 0
  | j + 1 => cvT us ws k j + us.getD j 0 * ws.getD (k - j) 0
def cnv (us ws : List Rat) (k : Nat) : Rat := cvT us ws k (k + 1)
def mulL (us ws : List Rat) : List Rat := (List.range us.length).map (cnv us ws)
def lcmL (l : Nat) : List Rat → Nat
  | [] => l
  | q :: qs => lcmL (Nat.lcm l q.den) qs
theorem lcmL_app (l : Nat) : ∀ (qs rs : List Rat), lcmL l (qs ++ rs) = lcmL (lcmL l qs) rs
  | [], _ => rfl
  | q :: qs, rs => lcmL_app (Nat.lcm l q.den) qs rs
theorem lcmL_dvd : ∀ (qs : List Rat) (l : Nat), l ∣ lcmL l qs ∧ ∀ q ∈ qs, q.den ∣ lcmL l qs
  | [], l => ⟨Nat.dvd_refl _, fun _ h => nomatch h⟩
  | q :: qs, l => by
    have h := lcmL_dvd qs (Nat.lcm l q.den)
    refine ⟨Nat.dvd_trans (Nat.dvd_lcm_left _ _) h.1, fun r hr => ?_⟩
    rcases List.mem_cons.mp hr with rfl | hr
    · exact Nat.dvd_trans (Nat.dvd_lcm_right _ _) h.1
    · exact h.2 r hr
theorem lcmL_pos : ∀ (qs : List Rat) (l : Nat), 0 < l → 0 < lcmL l qs
  | [], _, h => h
  | q :: qs, l, h => lcmL_pos qs _ (Nat.lcm_pos h (Nat.pos_of_ne_zero q.den_nz))
theorem lcmL_bd {n : Nat} : ∀ (qs : List Rat) (l m : Nat), 0 < l → l < 2 ^ m → (∀ q ∈ qs, Bq n q) → lcmL l qs < 2 ^ (m + n * qs.length)
  | [], _, _, _, h, _ => h
  | q :: qs, l, m, h0, h, hb => by
    have hq := (hb q List.mem_cons_self).2
    have e := lcmL_bd qs (Nat.lcm l q.den) (m + n) (Nat.lcm_pos h0 (Nat.pos_of_ne_zero q.den_nz)) (by
      refine Nat.lt_of_le_of_lt (Nat.le_of_dvd (Nat.mul_pos h0 (Nat.pos_of_ne_zero q.den_nz)) (Nat.lcm_dvd_mul _ _)) ?_
      rw [Nat.pow_add]
      exact Nat.mul_lt_mul'' h hq) (fun r hr => hb r (List.mem_cons_of_mem _ hr))
    rw [List.length_cons, Nat.mul_succ]
    rw [show m + (n * qs.length + n) = m + n + n * qs.length by omega]
    exact e
/-- written with one lower part -/
def upL (L : Nat) (qs : List Rat) : List Int := qs.map fun q => q.num * ((L : Int) / (q.den : Int))
theorem up_val {L : Nat} {q : Rat} (h : q.den ∣ L) : ((q.num * ((L : Int) / (q.den : Int)) : Int) : Rat) = q * (L : Rat) := by
  obtain ⟨k, rfl⟩ := h
  have hd : (q.den : Int) ≠ 0 := den_ne q
  have e : (((q.den * k : Nat) : Int) / (q.den : Int)) = (k : Int) := by
    rw [Int.natCast_mul, Int.mul_ediv_cancel_left _ hd]
  have z : q.num = q * q.den := by
    have := Rat.num_divInt_den q
    have h2 : Rat.divInt q.num q.den = (q.num : Rat) / (q.den : Rat) := by rw [Rat.divInt_eq_div]; rfl
    rw [this] at h2
    have h3 : (q.den : Rat) ≠ 0 := by
      intro h0
      have := q.den_nz
      exact this (by exact_mod_cast h0)
    grind
  rw [e, Rat.intCast_mul, z]
  have : (((q.den * k : Nat)) : Rat) = (q.den : Rat) * (k : Rat) := by exact_mod_cast rfl
  rw [this]
  have : ((k : Int) : Rat) = (k : Rat) := rfl
  rw [this]
  grind
theorem getD_up {L : Nat} {qs : List Rat} (h : ∀ q ∈ qs, q.den ∣ L) (j : Nat) : (((upL L qs).getD j 0 : Int) : Rat) = qs.getD j 0 * (L : Rat) := by
  unfold upL
  rw [List.getD_eq_getElem?_getD, List.getElem?_map, List.getD_eq_getElem?_getD]
  cases e : qs[j]? with
  | none => simp
  | some q => exact up_val (h q (List.mem_of_getElem? e))
/-- the products at a place, by whole numbers -/
def pds (xs ys : List Int) (k n : Nat) : List Int := (List.range n).map fun j => xs.getD j 0 * ys.getD (k - j) 0
theorem pds_succ (xs ys : List Int) (k n : Nat) : pds xs ys k (n + 1) = pds xs ys k n ++ [xs.getD n 0 * ys.getD (k - n) 0] := by
  unfold pds
  rw [List.range_succ, List.map_append]
  rfl
theorem pds_val {us ws : List Rat} {L M : Nat} (h : ∀ q ∈ us, q.den ∣ L) (h' : ∀ q ∈ ws, q.den ∣ M) (k : Nat) : ∀ n, (((pds (upL L us) (upL M ws) k n).sum : Int) : Rat) = cvT us ws k n * ((L : Rat) * (M : Rat))
  | 0 => by
    show ((0 : Int) : Rat) = 0 * _
    rw [Rat.zero_mul]
    rfl
  | n + 1 => by
    rw [pds_succ, List.sum_append, Rat.intCast_add, pds_val h h' k n]
    have e : ([(upL L us).getD n 0 * (upL M ws).getD (k - n) 0] : List Int).sum = (upL L us).getD n 0 * (upL M ws).getD (k - n) 0 := by simp
    rw [e, Rat.intCast_mul, getD_up h, getD_up h']
    show _ = (cvT us ws k n + us.getD n 0 * ws.getD (k - n) 0) * _
    grind
theorem cnv_ratio {us ws : List Rat} {L M : Nat} (h : ∀ q ∈ us, q.den ∣ L) (h' : ∀ q ∈ ws, q.den ∣ M) (l0 : 0 < L) (m0 : 0 < M) (k : Nat) :
    Rat.divInt (pds (upL L us) (upL M ws) k (k + 1)).sum ((L : Int) * (M : Int)) = cnv us ws k := by
  rw [Rat.divInt_eq_div, pds_val h h']
  have e : (((L : Int) * (M : Int) : Int) : Rat) = (L : Rat) * (M : Rat) := by rw [Rat.intCast_mul]; rfl
  have lz : (L : Rat) ≠ 0 := by
    intro z
    have : L = 0 := by exact_mod_cast z
    omega
  have mz : (M : Rat) ≠ 0 := by
    intro z
    have : M = 0 := by exact_mod_cast z
    omega
  rw [e]
  unfold cnv
  have : (L : Rat) * (M : Rat) ≠ 0 := by
    intro z
    rcases Rat.mul_eq_zero.mp z with z | z
    · exact lz z
    · exact mz z
  grind
theorem getD_bq {n : Nat} {us : List Rat} (h : ∀ q ∈ us, Bq n q) (n0 : 1 ≤ n) (j : Nat) : Bq n (us.getD j 0) := by
  rw [List.getD_eq_getElem?_getD]
  cases e : us[j]? with
  | none => exact Bq.zero.mono n0
  | some q => exact h q (List.mem_of_getElem? e)
theorem cvT_bd {n m : Nat} {us ws : List Rat} (h : ∀ q ∈ us, Bq n q) (h' : ∀ q ∈ ws, Bq m q) (n0 : 1 ≤ n) (m0 : 1 ≤ m) (k : Nat) : ∀ j, Bq (1 + j * (n + m + 1)) (cvT us ws k j)
  | 0 => by rw [Nat.zero_mul]; exact Bq.zero
  | j + 1 => by
    have := (cvT_bd h h' n0 m0 k j).add ((getD_bq h n0 j).mul (getD_bq h' m0 (k - j)))
    exact this.mono (by rw [Nat.succ_mul]; omega)
/-- the least place, from f on, with a number that is not 0 -/
def hgtN : List Rat → Nat → Option Nat
  | [], _ => none
  | q :: qs, f => if q = 0 then hgtN qs (f + 1) else some f
theorem hgtN_app_zero : ∀ (qs : List Rat) (f : Nat) (rs : List Rat), (∀ q ∈ qs, q = 0) → hgtN (qs ++ rs) f = hgtN rs (f + qs.length)
  | [], f, rs, _ => rfl
  | q :: qs, f, rs, h => by
    show (if q = 0 then hgtN (qs ++ rs) (f + 1) else some f) = _
    rw [if_pos (h q List.mem_cons_self), hgtN_app_zero qs (f + 1) rs (fun r hr => h r (List.mem_cons_of_mem _ hr)), List.length_cons]
    congr 1
    omega
theorem hgtN_shift : ∀ (qs : List Rat) (f : Nat), hgtN qs f = (hgtN qs 0).map (· + f)
  | [], _ => rfl
  | q :: qs, f => by
    show (if q = 0 then hgtN qs (f + 1) else some f) = (if q = 0 then hgtN qs 1 else some 0).map (· + f)
    by_cases h : q = 0
    · rw [if_pos h, if_pos h, hgtN_shift qs (f + 1), hgtN_shift qs 1, Option.map_map]
      congr 1
      funext x
      show x + (f + 1) = x + 1 + f
      omega
    · rw [if_neg h, if_neg h]
      simp
end Kx
end
section
set_option maxHeartbeats 4000000
namespace Kx
/-! ### numbers over a common lower part L, with less than B bits above it -/
def Dq (L B : Nat) (q : Rat) : Prop := ∃ z : Int, q * (L : Rat) = (z : Rat) ∧ z.natAbs < 2 ^ B
def AllD (L B : Nat) (qs : List Rat) : Prop := ∀ q ∈ qs, Dq L B q
/-- such a lower part is small enough for // -/
def SmL (L : Nat) : Prop := 0 < L ∧ L < 2 ^ 4450
/-- a number that + - * may take -/
def Ok (q : Rat) : Prop := q.num.natAbs < 2 ^ 100000 ∧ q.den < 2 ^ 4450
def AllO (qs : List Rat) : Prop := ∀ q ∈ qs, Ok q
theorem natr_ne {L : Nat} (h : 0 < L) : (L : Rat) ≠ 0 := fun z => by
  have : L = 0 := by exact_mod_cast z
  omega
theorem Dq.zero {L B : Nat} : Dq L B 0 := ⟨0, by rw [Rat.zero_mul]; rfl, Nat.pow_pos (by decide)⟩
theorem Dq.neg {L B : Nat} {a : Rat} (h : Dq L B a) : Dq L B (-a) := by
  obtain ⟨z, h, l⟩ := h
  exact ⟨-z, by rw [Rat.neg_mul, h, Rat.intCast_neg], by rw [Int.natAbs_neg]; exact l⟩
theorem Dq.add {L B C D : Nat} {a b : Rat} (ha : Dq L B a) (hb : Dq L C b) (h1 : B < D) (h2 : C < D) : Dq L D (a + b) := by
  obtain ⟨x, hx, lx⟩ := ha
  obtain ⟨y, hy, ly⟩ := hb
  refine ⟨x + y, by rw [Rat.add_mul, hx, hy, Rat.intCast_add], ?_⟩
  obtain ⟨D, rfl⟩ : ∃ d, D = d + 1 := ⟨D - 1, by omega⟩
  have h3 : 2 ^ B ≤ 2 ^ D := Nat.pow_le_pow_right (by decide) (by omega)
  have h4 : 2 ^ C ≤ 2 ^ D := Nat.pow_le_pow_right (by decide) (by omega)
  have := Int.natAbs_add_le x y
  rw [Nat.pow_succ]
  omega
theorem Dq.sub {L B C D : Nat} {a b : Rat} (ha : Dq L B a) (hb : Dq L C b) (h1 : B < D) (h2 : C < D) : Dq L D (a - b) := by
  rw [Rat.sub_eq_add_neg]
  exact ha.add hb.neg h1 h2
theorem Dq.mul {L M B C : Nat} {a b : Rat} (ha : Dq L B a) (hb : Dq M C b) : Dq (L * M) (B + C) (a * b) := by
  obtain ⟨x, hx, lx⟩ := ha
  obtain ⟨y, hy, ly⟩ := hb
  refine ⟨x * y, ?_, lt_mul lx ly⟩
  rw [Rat.intCast_mul, ← hx, ← hy, Rat.natCast_mul]
  grind
theorem Dq.mono {L B C : Nat} {a : Rat} (h : Dq L B a) (l : B ≤ C) : Dq L C a := by
  obtain ⟨z, h, k⟩ := h
  exact ⟨z, h, Nat.lt_of_lt_of_le k (Nat.pow_le_pow_right (by decide) l)⟩
/-- over a greater lower part -/
theorem Dq.up {L M B C : Nat} {a : Rat} (h : Dq L B a) (k : Nat) (e : M = L * k) (l : k ≤ 2 ^ C) : Dq M (B + C) a := by
  subst e
  obtain ⟨z, h, z2⟩ := h
  refine ⟨z * (k : Int), ?_, ?_⟩
  · rw [Rat.intCast_mul, ← h, Rat.natCast_mul]
    have : ((k : Int) : Rat) = (k : Rat) := rfl
    rw [this]
    grind
  · rw [Int.natAbs_mul, Int.natAbs_natCast, Nat.pow_add]
    exact Nat.lt_of_le_of_lt (Nat.mul_le_mul_left _ l) (Nat.mul_lt_mul_of_pos_right z2 (Nat.pow_pos (by decide)))
theorem Dq.one {L B : Nat} (h : L < 2 ^ B) : Dq L B 1 := ⟨(L : Int), by rw [Rat.one_mul]; rfl, by rw [Int.natAbs_natCast]; exact h⟩
theorem Dq.int {L B : Nat} (i : Int) (h : (i * (L : Int)).natAbs < 2 ^ B) : Dq L B (i : Rat) := ⟨i * (L : Int), by rw [Rat.intCast_mul]; rfl, h⟩
theorem Dq.dvd {L B : Nat} {q : Rat} (h : Dq L B q) (l0 : 0 < L) : q.den ∣ L := by
  obtain ⟨z, hz, _⟩ := h
  have i : ((L : Nat) : Int) ≠ 0 := by omega
  have p := natr_ne l0
  have eq : q = Rat.divInt z (L : Int) := by
    rw [Rat.divInt_eq_div, ← hz]
    show q = q * (L : Rat) / (((L : Nat) : Int) : Rat)
    have : (((L : Nat) : Int) : Rat) = (L : Rat) := rfl
    rw [this]
    grind
  rw [eq, Rat.den_divInt, if_neg i, Int.natAbs_natCast]
  exact Nat.div_dvd_of_dvd (Nat.gcd_dvd_left _ _)
/-- over a part of it -/
theorem Dq.part {L M B : Nat} {q : Rat} (h : Dq L B q) (l0 : 0 < L) (l : M ∣ L) {u : Int} (hu : (u : Rat) = q * (M : Rat)) : u.natAbs < 2 ^ B := by
  obtain ⟨z, hz, lz⟩ := h
  obtain ⟨k, rfl⟩ := l
  have k0 : k ≠ 0 := by
    rintro rfl
    rw [Nat.mul_zero] at l0
    omega
  have eq : z = u * (k : Int) := by
    have : ((u * (k : Int) : Int) : Rat) = (z : Rat) := by
      rw [Rat.intCast_mul, hu, ← hz, Rat.natCast_mul]
      have : ((k : Int) : Rat) = (k : Rat) := rfl
      rw [this]
      grind
    exact (by exact_mod_cast this.symm)
  rw [eq, Int.natAbs_mul, Int.natAbs_natCast] at lz
  have h1 : u.natAbs ≤ u.natAbs * k := Nat.le_mul_of_pos_right _ (by omega)
  omega
theorem Dq.num {L B : Nat} {q : Rat} (h : Dq L B q) (l0 : 0 < L) : q.num.natAbs < 2 ^ B := h.part l0 (h.dvd l0) (by
  have := up_val (q := q) (L := q.den) (Nat.dvd_refl _)
  rw [Int.ediv_self (den_ne q), Int.mul_one] at this
  exact this)
theorem Dq.ok {L B : Nat} {q : Rat} (h : Dq L B q) (l : SmL L) (b : B ≤ 100000) : Ok q := ⟨Nat.lt_of_lt_of_le (h.num l.1) (Nat.pow_le_pow_right (by decide) b), Nat.lt_of_le_of_lt (Nat.le_of_dvd l.1 (h.dvd l.1)) l.2⟩
/-- of a number itself -/
theorem Dq.self (q : Rat) {B : Nat} (h : q.num.natAbs < 2 ^ B) : Dq q.den B q := ⟨q.num, by
  have := up_val (q := q) (L := q.den) (Nat.dvd_refl _)
  rw [Int.ediv_self (den_ne q), Int.mul_one] at this
  exact this.symm, h⟩
theorem Ok.dn {q : Rat} (h : Ok q) : ((q.den : Int)).natAbs < 2 ^ 4450 := by rw [Int.natAbs_natCast]; exact h.2
theorem Ok.one : Ok 1 := ⟨Nat.lt_of_lt_of_le (show (1 : Rat).num.natAbs < 2 ^ 1 by decide) (Nat.pow_le_pow_right (by decide) (by decide)), Nat.lt_of_lt_of_le (show (1 : Rat).den < 2 ^ 1 by decide) (Nat.pow_le_pow_right (by decide) (by decide))⟩
theorem Ok.zero : Ok 0 := ⟨Nat.lt_of_lt_of_le (show (0 : Rat).num.natAbs < 2 ^ 1 by decide) (Nat.pow_le_pow_right (by decide) (by decide)), Nat.lt_of_lt_of_le (show (0 : Rat).den < 2 ^ 1 by decide) (Nat.pow_le_pow_right (by decide) (by decide))⟩
theorem AllD.ok {L B : Nat} {qs : List Rat} (h : AllD L B qs) (l : SmL L) (b : B ≤ 100000) : AllO qs := fun q hq => (h q hq).ok l b
theorem AllD.mono {L B C : Nat} {qs : List Rat} (h : AllD L B qs) (l : B ≤ C) : AllD L C qs := fun q hq => (h q hq).mono l
theorem AllD.getD {L B : Nat} {qs : List Rat} (h : AllD L B qs) (j : Nat) : Dq L B (qs.getD j 0) := by
  rw [List.getD_eq_getElem?_getD]
  cases x : qs[j]? with
  | none => exact Dq.zero
  | some q => exact h q (List.mem_of_getElem? x)
theorem AllD.lcm {L B : Nat} (l0 : 0 < L) : ∀ (qs : List Rat) (l : Nat), AllD L B qs → l ∣ L → lcmL l qs ∣ L
  | [], _, _, h => h
  | q :: qs, l, h, d => AllD.lcm l0 qs (Nat.lcm l q.den) (fun r hr => h r (List.mem_cons_of_mem _ hr)) (Nat.lcm_dvd d ((h q List.mem_cons_self).dvd l0))
theorem div_bq {a b : Rat} (h : b ≠ 0) : a / b = Rat.divInt (a.num * b.den) (a.den * b.num) := by
  have h1 := a.den_nz
  have bn : b.num ≠ 0 := fun z => h (Rat.num_eq_zero.mp z)
  rw [Rat.divInt_eq_div, Rat.intCast_mul, Rat.intCast_mul]
  have ha := up_val (q := a) (L := a.den) (Nat.dvd_refl _)
  have hb := up_val (q := b) (L := b.den) (Nat.dvd_refl _)
  rw [Int.ediv_self (den_ne a), Int.mul_one] at ha
  rw [Int.ediv_self (den_ne b), Int.mul_one] at hb
  have e1 : ((b.den : Int) : Rat) = (b.den : Rat) := rfl
  have e2 : ((a.den : Int) : Rat) = (a.den : Rat) := rfl
  have z1 := natr_ne (Nat.pos_of_ne_zero a.den_nz)
  have z2 := natr_ne (Nat.pos_of_ne_zero b.den_nz)
  rw [ha, hb, e1, e2]
  grind
end Kx
end
section
set_option maxHeartbeats 4000000
namespace Kx
open PySem PySem.Spec PyProof.Rows L2
/-! ### numbers -/
structure KP (K : PySem.W.Frag) (a : Addr) (x y : Int) : Prop where
  ex : ∃ (o : Obj) (its : Array Value) (n : Nat), K.lookup a = some o ∧ o.cls = .type "tuple" ∧ o.data = .seq its n ∧ its.size ≤ sizeLine ∧ Vals [.int x, .int y] its.toList
theorem KP.t {K : PySem.W.Frag} {a : Addr} {x y : Int} (k : KP K a x y) (H : Hp) : SqT K H a [.int x, .int y] := .inr k.ex
theorem KP.ty {K : PySem.W.Frag} {a : Addr} {x y : Int} (k : KP K a x y) (H : Hp) : TyX K H (.ref a) (.type "tuple") := by
  obtain ⟨o, its, n, h1, h2, _⟩ := k.ex
  exact .kTuple h1 h2
def rT (r : Rat) : HO := .tup [.int r.num, .int (r.den : Nat)]
/-- the fraction q stands at v, in the heap or in the module -/
def Nq (K : PySem.W.Frag) (H : Hp) (v : V) (q : Rat) : Prop := ∃ a, v = .ref a ∧ (H a = some (rT q) ∨ KP K a q.num (q.den : Nat))
section
variable {K : PySem.W.Frag} {H H' : Hp} {v : V} {q : Rat}
theorem Nq.same (h : Nq K H v q) (s : Same H H') : Nq K H' v q := by
  obtain ⟨a, e, h⟩ := h
  exact ⟨a, e, h.imp (fun h => s _ _ h) id⟩
theorem Nq.sq (h : Nq K H v q) : ∃ a, v = .ref a ∧ SqT K H a [.int q.num, .int (q.den : Nat)] ∧ TyX K H (.ref a) (.type "tuple") := by
  obtain ⟨a, e, h⟩ := h
  rcases h with h | k
  · exact ⟨a, e, SqT.of h, .base (.tup h)⟩
  · exact ⟨a, e, k.t H, k.ty H⟩
theorem Nq.at {t : Addr} (h : H t = some (rT q)) : Nq K H (.ref t) q := ⟨t, rfl, .inl h⟩
theorem Nq.dp (h : Nq K H v q) : Dp K H v (.tuple [.int q.num, .int (q.den : Nat)]) := by
  obtain ⟨a, rfl, s, _⟩ := h.sq
  exact .tup s (.cons (.int _) (.cons (.int _) .nil))
end
/-- a list of numbers -/
def Nl (K : PySem.W.Frag) (H : Hp) (xs : List V) (qs : List Rat) : Prop := xs.length = qs.length ∧ ∀ (i : Nat) (x : V) (q : Rat), xs[i]? = some x → qs[i]? = some q → Nq K H x q
theorem Nl.same {K : PySem.W.Frag} {H H' : Hp} {xs : List V} {qs : List Rat} (h : Nl K H xs qs) (s : Same H H') : Nl K H' xs qs := ⟨h.1, fun i x q h1 h2 => (h.2 i x q h1 h2).same s⟩
theorem Nl.nil {K : PySem.W.Frag} {H : Hp} : Nl K H [] [] := ⟨rfl, fun i x q h => by simp at h⟩
theorem Nl.snoc {K : PySem.W.Frag} {H : Hp} {xs : List V} {qs : List Rat} {x : V} {q : Rat} (h : Nl K H xs qs) (hx : Nq K H x q) : Nl K H (xs ++ [x]) (qs ++ [q]) := by
  refine ⟨by rw [List.length_append, List.length_append, h.1]; rfl, fun i y r h1 h2 => ?_⟩
  by_cases c : i < xs.length
  · rw [List.getElem?_append_left c] at h1
    rw [List.getElem?_append_left (by rw [← h.1]; exact c)] at h2
    exact h.2 i y r h1 h2
  · rw [List.getElem?_append_right (by omega)] at h1
    rw [List.getElem?_append_right (by rw [← h.1]; omega)] at h2
    rw [h.1] at h1
    match hi : i - qs.length, h1, h2 with
    | 0, h1, h2 =>
      rw [← Option.some.inj (show some x = some y from h1), ← Option.some.inj (show some q = some r from h2)]
      exact hx
    | n + 1, h1, _ => simp at h1
theorem Nl.cons {K : PySem.W.Frag} {H : Hp} {xs : List V} {qs : List Rat} {x : V} {q : Rat} (hx : Nq K H x q) (h : Nl K H xs qs) : Nl K H (x :: xs) (q :: qs) := by
  refine ⟨by rw [List.length_cons, List.length_cons, h.1], fun i y r h1 h2 => ?_⟩
  cases i with
  | zero =>
    rw [← Option.some.inj (show some x = some y from h1), ← Option.some.inj (show some q = some r from h2)]
    exact hx
  | succ i => exact h.2 i y r (by simpa using h1) (by simpa using h2)
theorem Nl.tail {K : PySem.W.Frag} {H : Hp} {xs : List V} {qs : List Rat} {x : V} {q : Rat} (h : Nl K H (x :: xs) (q :: qs)) : Nl K H xs qs :=
  ⟨by have := h.1; simp at this; exact this, fun i y r h1 h2 => h.2 (i + 1) y r (by simpa using h1) (by simpa using h2)⟩
theorem Nl.get {K : PySem.W.Frag} {H : Hp} {xs : List V} {qs : List Rat} (h : Nl K H xs qs) {i : Nat} {x : V} (hx : xs[i]? = some x) : ∃ q, qs[i]? = some q ∧ Nq K H x q := by
  have hi : i < xs.length := by
    rcases Nat.lt_or_ge i xs.length with c | c
    · exact c
    · rw [List.getElem?_eq_none c] at hx; cases hx
  have e := List.getElem?_eq_getElem (l := qs) (i := i) (by rw [← h.1]; exact hi)
  exact ⟨_, e, h.2 i x _ hx e⟩
theorem Nl.get' {K : PySem.W.Frag} {H : Hp} {xs : List V} {qs : List Rat} (h : Nl K H xs qs) {i : Nat} (hi : i < qs.length) : ∃ x, xs[i]? = some x ∧ Nq K H x qs[i] := by
  have e := List.getElem?_eq_getElem (l := xs) (i := i) (by rw [h.1]; exact hi)
  exact ⟨_, e, h.2 i _ _ e (List.getElem?_eq_getElem hi)⟩
theorem Nl.app {K : PySem.W.Frag} {H : Hp} {xs ys : List V} {qs rs : List Rat} (h : Nl K H xs qs) (h' : Nl K H ys rs) : Nl K H (xs ++ ys) (qs ++ rs) := by
  refine ⟨by rw [List.length_append, List.length_append, h.1, h'.1], fun i y r h1 h2 => ?_⟩
  by_cases c : i < xs.length
  · rw [List.getElem?_append_left c] at h1
    rw [List.getElem?_append_left (by rw [← h.1]; exact c)] at h2
    exact h.2 i y r h1 h2
  · rw [List.getElem?_append_right (by omega)] at h1
    rw [List.getElem?_append_right (by rw [← h.1]; omega), ← h.1] at h2
    exact h'.2 _ y r h1 h2
theorem Nl.take {K : PySem.W.Frag} {H : Hp} {xs : List V} {qs : List Rat} (h : Nl K H xs qs) (n : Nat) : Nl K H (xs.take n) (qs.take n) := by
  refine ⟨by rw [List.length_take, List.length_take, h.1], fun i y r h1 h2 => ?_⟩
  rw [List.getElem?_take] at h1 h2
  by_cases c : i < n
  · rw [if_pos c] at h1 h2
    exact h.2 i y r h1 h2
  · rw [if_neg c] at h1
    cases h1
theorem Nl.drop {K : PySem.W.Frag} {H : Hp} {xs : List V} {qs : List Rat} (h : Nl K H xs qs) (n : Nat) : Nl K H (xs.drop n) (qs.drop n) := by
  refine ⟨by rw [List.length_drop, List.length_drop, h.1], fun i y r h1 h2 => ?_⟩
  rw [List.getElem?_drop] at h1 h2
  exact h.2 _ y r h1 h2
/-! ### what comes back -/
def GivesQ (H : Hp) (Q : VK) (r : Rat) : Prop := ∀ t H', Same H H' → H t = none → H' t = some (rT r) → Q (.ref t) H'
theorem GivesQ.upd {H : Hp} {Q : VK} {r : Rat} (g : GivesQ H Q r) {t : Addr} (n : H t = none) : Q (.ref t) (upd H t (rT r)) := g t _ (new_same n _) n upd_same
theorem low_HO {p q : Int} (h : q ≠ 0) : HO.tup [.int (lowU p q), .int (lowL p q)] = rT (Rat.divInt p q) := by
  obtain ⟨h1, h2⟩ := low_rat (p := p) h
  rw [h1, h2]
  rfl
theorem div_one (x : Int) : (Rat.divInt x 1).num = x ∧ (Rat.divInt x 1).den = 1 := by
  have e : Rat.divInt x 1 = (x : Rat) := by
    rw [Rat.divInt_eq_div]
    have : ((1 : Int) : Rat) = 1 := rfl
    rw [this]
    grind
  rw [e]
  exact ⟨rfl, rfl⟩
def spLowQ : Sp := fun vs H Q _ => ∃ p q : Int, vs = [.int p, .int q] ∧ q ≠ 0 ∧ q.natAbs.log2 < 9000 ∧ GivesQ H Q (Rat.divInt p q)
theorem log_bd {x : Int} {n : Nat} (h : x.natAbs < 2 ^ n) (h0 : 0 < n) : x.natAbs.log2 < n := PySem.Flt.log2_lt_of h0 h
/-- the law's low -/
abbrev nLow : List Str := ["_law_num_here", "_law_den", "_law_high", "_law_rest"]
def spTwoQ (K : PySem.W.Frag) (op : Rat → Rat → Rat) : Sp := fun vs H Q _ => ∃ (x y : V) (a b : Rat), vs = [x, y] ∧ Nq K H x a ∧ Nq K H y b ∧ Ok a ∧ Ok b ∧ GivesQ H Q (op a b)
def spDivQ (K : PySem.W.Frag) : Sp := fun vs H Q _ => ∃ (x y : V) (a b : Rat), vs = [x, y] ∧ Nq K H x a ∧ Nq K H y b ∧ Ok a ∧ Ok b ∧ b ≠ 0 ∧ b.num.natAbs < 2 ^ 4450 ∧ GivesQ H Q (a / b)
abbrev nPQ : List Str := ["_law_p", "_law_q"]
theorem wide_ok {i j : Int} {a b : Nat} (ha : i.natAbs < 2 ^ a) (hb : j.natAbs < 2 ^ b) (h0 : 0 < a) (h1 : 0 < b) (h : a + b ≤ 1000000) : CMulW i j := wide_mul ha hb h0 h1 h
theorem log_two {i j : Int} (hi : i.natAbs < 2 ^ 4450) (hj : j.natAbs < 2 ^ 4450) : (i * j).natAbs.log2 < 9000 := Nat.lt_trans (log_bd (lt_mul hi hj) (by decide)) (by decide)
section
variable {P : Program} {w : World} {K : PySem.W.Frag} {mg : Str → Option Value} {base : Heap} {f fL : Addr} {fd fdL : FuncData}
theorem scLow : FnScope nLow ["_law_num_here", "_law_den"] (defScope L_low) := ⟨rfl, rfl, rfl, by decide +kernel, rfl, by decide +kernel, by decide +kernel⟩
theorem ok_low (F : Fun K "_law_low" "_law_low" L_low f fd) (ma : mg "abs" = none) (mi : mg "int" = none) : FnOk P w K mg base CX0 1 f fd ["_law_num_here", "_law_den"] spLowQ := by
  refine F.ok scLow (fun vs H Q E h => ?_) (fun cdv A outer s H vs Q E hr h => ?_)
  · obtain ⟨p, q, rfl, _⟩ := h
    rfl
  obtain ⟨p, q, rfl, hq, hl, qq⟩ := h
  refine ⟨_, C8.pss_cut (ps_if (pt_cmpR op_lt (pv 1) pe_int (nomark _)) (pss_one (ps_par (i := 0) (j := 1) rfl scLow.nd rfl rfl (by decide) rfl rfl (pa_cons (pe_un un_neg (pv 0)) (pa_cons (pe_un un_neg (pv 1)) pa_nil)) rfl)) pss_nil)
    (pss_cons (ps_par (i := 2) (j := 3) rfl scLow.nd rfl rfl (by decide) rfl rfl (pa_cons (pe_callB call_abs rfl ma (by decide +kernel) (pa_cons (pv 0) pa_nil)) (pa_cons (pv 1) pa_nil)) rfl)
    (pss_cons (ps_while PassesOwn.never (pt_cmpR op_gt (pv 3) pe_int (nomark _)) (pss_one (ps_par (i := 2) (j := 3) rfl scLow.nd rfl rfl (by decide) rfl rfl (pa_cons (pv 3) (pa_cons (pe_op op_mod (pe_callTy call_int1 rfl mi (by decide +kernel) (pa_cons (pv 2) pa_nil)) (pv 3)) pa_nil)) rfl)))
    (pss_one (ps_ret (pe_tup (pa_cons (pe_op op_fdivA (pv 0) (pv 2)) (pa_cons (pe_op op_fdivA (pv 1) (pv 2)) pa_nil))))))), ?_⟩
  refine ⟨fun σ H' => H' = H ∧ ∃ p' q' : Int, σ = [some (.int p'), some (.int q'), none, none] ∧ 0 < q' ∧ q'.natAbs = q.natAbs ∧ Rat.divInt p' q' = Rat.divInt p q, ?_, ?_⟩
  · refine ⟨_, rfl, q, 0, rfl, rfl, _, rfl, ite2 (fun c => ?_) (fun c => ?_)⟩
    · have c' : q < 0 := of_decide_eq_true c
      exact ⟨_, rfl, p, rfl, _, rfl, q, rfl, _, _, rfl, rfl, -p, -q, rfl, by omega, by omega, Rat.neg_divInt_neg _ _⟩
    · have c' : ¬ q < 0 := of_decide_eq_false (Bool.eq_false_iff.mpr c)
      exact ⟨rfl, p, q, rfl, by omega, rfl, rfl⟩
  rintro σ H' ⟨rfl, p', q', rfl, q0, qa, ed⟩
  rw [← ed] at qq
  rw [← qa] at hl
  clear ed qa hq p q
  refine ⟨_, rfl, p', rfl, _, rfl, _, _, rfl, ?_⟩
  rw [abs_nat]
  refine ⟨fun m σ H2 => H2 = H' ∧ ∃ a b : Nat, σ = [some (.int p'), some (.int q'), some (.int a), some (.int b)] ∧ Nat.gcd a b = Nat.gcd p'.natAbs q'.natAbs ∧ b = m, ⟨q'.natAbs, rfl, p'.natAbs, q'.natAbs, ?_, rfl, rfl⟩, ?_⟩
  · rw [show ((q'.natAbs : Nat) : Int) = q' by omega]
    rfl
  rintro m σ H2 ⟨rfl, a, b, rfl, hg, rfl⟩
  refine ⟨_, rfl, b, 0, rfl, rfl, _, rfl, ite2 (fun c => ?_) (fun c => ?_)⟩
  · have hb : (0 : Int) < (b : Nat) := of_decide_eq_true c
    refine ⟨fun σ' H3 => H3 = H2 ∧ σ' = [some (.int p'), some (.int q'), some (.int b), some (.int ((a % b : Nat) : Int))], ?_, ?_⟩
    · rintro σ' H3 ⟨rfl, rfl⟩
      exact ⟨a % b, Nat.mod_lt _ (by omega), rfl, b, a % b, rfl, by rw [← hg, Nat.gcd_comm a b, Nat.gcd_rec b a, Nat.gcd_comm], rfl⟩
    · exact ⟨_, rfl, _, rfl, .inl ⟨_, rfl, _, rfl, a, b, rfl, rfl, hb, _, _, rfl, rfl, rfl⟩⟩
  · have hb : ¬ (0 : Int) < (b : Nat) := of_decide_eq_false (Bool.eq_false_iff.mpr c)
    obtain rfl : b = 0 := by omega
    rw [Nat.gcd_zero_right] at hg
    subst hg
    have hz : q' ≠ 0 := by omega
    have hgS : ((Nat.gcd p'.natAbs q'.natAbs : Nat) : Int) = gS p' q' := by
      unfold gS
      rw [if_neg (by omega)]
    rw [hgS]
    have n0 := gS_ne (p := p') hz
    have l9 : (gS p' q').natAbs.log2 < 9000 := Nat.lt_of_le_of_lt (log_le (gS_le hz)) hl
    refine ⟨_, rfl, _, rfl, p', _, rfl, rfl, ⟨n0, l9⟩, _, rfl, _, rfl, q', _, rfl, rfl, ⟨n0, l9⟩, (by show 2 ≤ sizeLine; decide), fun t nt => ?_⟩
    show Q _ (upd _ _ (HO.tup [.int (lowU p' q'), .int (lowL p' q')]))
    rw [low_HO hz]
    exact qq.upd nt
theorem scMul : FnScope nPQ ["_law_p", "_law_q"] (defScope L_mul) := ⟨rfl, rfl, rfl, by decide +kernel, rfl, by decide +kernel, by decide +kernel⟩
theorem ok_mulQ (F : Fun K "_law_mul" "_law_mul" L_mul f fd) (G : FnOk P w K mg base CX0 1 fL fdL ["_law_num_here", "_law_den"] spLowQ) (bL : Binds K fdL ["_law_num_here", "_law_den"] []) (kL : PySem.W.keepIn K (.ref fL) = true) (mL : mg "_law_low" = some (.ref fL)) :
    FnOk P w K mg base CX0 2 f fd ["_law_p", "_law_q"] (spTwoQ K (· * ·)) := by
  refine F.ok scMul (fun vs H Q E h => ?_) (fun cdv A outer s H vs Q E hr h => ?_)
  · obtain ⟨x, y, a, b, rfl, _⟩ := h
    rfl
  obtain ⟨x, y, a, b, rfl, hx, hy, ba, bb, q⟩ := h
  obtain ⟨xa, rfl, sx, _⟩ := hx.sq
  obtain ⟨ya, rfl, sy, _⟩ := hy.sq
  refine ⟨_, pss_one (ps_ret (pe_call G hr rfl mL kL bL .nil pass0 (pa_cons (pe_op op_mulW (pe_ix ix_tup (pv 0) pe_int (fun _ _ => rfl)) (pe_ix ix_tup (pv 1) pe_int (fun _ _ => rfl)))
      (pa_cons (pe_op op_mulW (pe_ix ix_tup (pv 0) pe_int (fun _ _ => rfl)) (pe_ix ix_tup (pv 1) pe_int (fun _ _ => rfl))) pa_nil)))), ?_⟩
  exact ⟨_, rfl, xa, _, 0, _, rfl, rfl, sx, rfl, _, rfl, ya, _, 0, _, rfl, rfl, sy, rfl, a.num, b.num, rfl, rfl, wide_mul ba.1 bb.1 (by decide) (by decide) (by decide),
      _, rfl, xa, _, 1, _, rfl, rfl, sx, rfl, _, rfl, ya, _, 1, _, rfl, rfl, sy, rfl, (a.den : Nat), (b.den : Nat), rfl, rfl, wide_mul ba.dn bb.dn (by decide) (by decide) (by decide), _, _, rfl, Int.mul_ne_zero (den_ne a) (den_ne b), log_two ba.dn bb.dn, by rw [← rat_mul]; exact q⟩
theorem num_ne {b : Rat} (h : b ≠ 0) : b.num ≠ 0 := fun z => h (Rat.num_eq_zero.mp z)
end
end Kx
end
section
set_option maxHeartbeats 4000000
namespace Kx
open PySem PySem.Spec PyProof.Rows L2
def revB : List Value → List Value → List Value := fun _ ws => ws.reverse
def revA : List V → List V → List V := fun _ zs => zs.reverse
def appB : List Value → List Value → List Value := fun us ws => us ++ ws
def appA : List V → List V → List V := fun vs zs => vs ++ zs
theorem vals_rev : ∀ {vs : List V} {us : List Value}, Vals vs us → Vals vs.reverse us.reverse
  | _, _, .nil => .nil
  | _, _, .cons r t => by
    rw [List.reverse_cons, List.reverse_cons]
    exact Paired.snoc (vals_rev t) r
theorem vals_app : ∀ {vs : List V} {us : List Value} {zs : List V} {ws : List Value}, Vals vs us → Vals zs ws → Vals (vs ++ zs) (us ++ ws)
  | _, _, _, _, .nil, t => t
  | _, _, _, _, .cons r t, t' => .cons r (vals_app t t')
section
variable {X : Cx} {CX : CXT} {k : Nat} {f : Addr} {fd : FuncData} {ps ks : List Str} {sp : Sp} {E : XK} {x : Str} {p pos : Pos} {kws : List Keyword} {tk : TA}
/-- f(k = v, ..), keywords alone -/
def tCallR (m : Nat) (sp : Sp) (E : XK) (tk : TA) : TE := fun σ H Q => tk σ H fun zs H2 => zs.length = m ∧ sp zs.reverse H2 Q E
theorem pe_callR (F : FnOk X.prog X.w X.K X.mg X.base CX k f fd ps sp) (hr : Room k X.A) (hg : Gl X x) (hm : X.mg x = some (.ref f)) (hk : PySem.W.keepIn X.K (.ref f) = true) (hb : KBn X.K fd ps 0 ks revB revA) (hx : Passes CX X E)
    (hkw : PK X kws tk) (hall : (backToKw pos (keywordEach kws X.env)).all (·.1.isSome) = true := by rfl) (hks : (backToKw pos (keywordEach kws X.env)).filterMap (·.1) = ks := by rfl)
    (hdb : (x == ("__debug__" : Str)) = false := by decide) (hpl : ((backTo pos (starEach [] X.env)).any (·.1) || (backToKw pos (keywordEach kws X.env)).any (·.1.isNone)) = false := by rfl) :
    PE X (.Call (.Name x p) [] kws pos) (tCallR ks.length sp E tk) := by
  refine ⟨fun pins s σ H Q I h => wpAny_Call_Name_kw (ld_glob I hg hm ?_ hdb)⟩
  refine PySem.W.callWith_KW0 (h₀ := X.base) I.ok.mod.kin hk hall ?_ hpl
  refine thn (hkw.run pos pins s σ H _ I h) fun ws s2 ⟨zs, H2, I2, rz, l2, q2⟩ => ⟨I2.kIn, ?_⟩
  rw [hks]
  exact run_fnN (us := []) (vs := []) F hr hb hx I2 .nil rz rfl l2 q2
end
section
variable {K : PySem.W.Frag} {x q : Str} {st : Stmt} {f : Addr} {fd : FuncData}
theorem kb_two {a b : Str} {st : Stmt} (F : Fun K x q st f fd) (h : ∀ (kV doc pm : Value) (an : Option Addr) (cdv ct u v : Value), bindArgs (PySem.W.fnOf x q (defArgs st) (defBody st) (defScope st) .none kV doc pm an cdv ct) ⟨[], [(b, v), (a, u)]⟩ = pure [(a, u), (b, v)]) : KBn K fd [a, b] 0 [b, a] revB revA := by
  obtain ⟨oc, od, kV, doc, pm, an, cdv, ct, osl, rfl, lk, hcd⟩ := F.ex
  refine ⟨fun s us ws _ l1 l2 => ?_, fun _ r => vals_rev r⟩
  match us, ws, l1, l2 with
  | [], [v, u], _, _ => exact .of_eq (h _ _ _ _ _ _ u v)
theorem kb_one {a : Str} {st : Stmt} (F : Fun K x q st f fd) (h : ∀ (kV doc pm : Value) (an : Option Addr) (cdv ct u : Value), bindArgs (PySem.W.fnOf x q (defArgs st) (defBody st) (defScope st) .none kV doc pm an cdv ct) ⟨[], [(a, u)]⟩ = pure [(a, u)]) : KBn K fd [a] 0 [a] revB revA := by
  obtain ⟨oc, od, kV, doc, pm, an, cdv, ct, osl, rfl, lk, hcd⟩ := F.ex
  refine ⟨fun s us ws _ l1 l2 => ?_, fun _ r => vals_rev r⟩
  match us, ws, l1, l2 with
  | [], [u], _, _ => exact .of_eq (h _ _ _ _ _ _ u)
/-- the first by its place, the second by its name -/
theorem kb_mix {a b : Str} {st : Stmt} (F : Fun K x q st f fd) (h : ∀ (kV doc pm : Value) (an : Option Addr) (cdv ct u v : Value), bindArgs (PySem.W.fnOf x q (defArgs st) (defBody st) (defScope st) .none kV doc pm an cdv ct) ⟨[u], [(b, v)]⟩ = pure [(a, u), (b, v)]) : KBn K fd [a, b] 1 [b] appB appA := by
  obtain ⟨oc, od, kV, doc, pm, an, cdv, ct, osl, rfl, lk, hcd⟩ := F.ex
  refine ⟨fun s us ws _ l1 l2 => ?_, fun r1 r2 => vals_app r1 r2⟩
  match us, ws, l1, l2 with
  | [u], [v], _, _ => exact .of_eq (h _ _ _ _ _ _ u v)
end
/-! ### a def as it is used: its promise, its arguments, its name -/
structure Use (P : Program) (w : World) (K : PySem.W.Frag) (mg : Str → Option Value) (base : Heap) (CX : CXT) (k : Nat) (x : Str) (ps : List Str) (sp : Sp) (kws : List (List Str)) : Prop where
  ex : ∃ (f : Addr) (fd : FuncData), FnOk P w K mg base CX k f fd ps sp ∧ Binds K fd ps [] ∧ PySem.W.keepIn K (.ref f) = true ∧ mg x = some (.ref f) ∧ (∀ ks ∈ kws, ks.length = ps.length → KBn K fd ps 0 ks revB revA) ∧ (∀ ks ∈ kws, ks.length = 1 → ps.length = 2 → KBn K fd ps 1 ks appB appA)
section
variable {X : Cx} {CX : CXT} {k : Nat} {ps ks : List Str} {kl : List (List Str)} {sp : Sp} {E : XK} {x : Str} {p pos : Pos} {kws : List Keyword} {tk t : TA} {e : Expr} {es : List Expr}
theorem pe_use (U : Use X.prog X.w X.K X.mg X.base CX k x ps sp kl) (hr : Room k X.A) (hg : Gl X x) (hx : Passes CX X E) (ha : PA X (e :: es) t)
    (hdb : (x == ("__debug__" : Str)) = false := by decide) (he : starEach (e :: es) X.env = (false, eval e X.env) :: starEach es X.env := by rfl) (hpl : (backTo pos (starEach es X.env)).any (·.1) = false := by rfl) :
    PE X (.Call (.Name x p) (e :: es) [] pos) (tCall sp [] E t) := by
  obtain ⟨f, fd, F, b, kp, m, _⟩ := U.ex
  exact pe_call F hr hg m kp b .nil hx ha hdb he hpl
theorem pe_useR (U : Use X.prog X.w X.K X.mg X.base CX k x ps sp kl) (hr : Room k X.A) (hg : Gl X x) (hx : Passes CX X E) (hl : ks.length = ps.length)
    (hkw : PK X kws tk) (hin : ks ∈ kl) (hall : (backToKw pos (keywordEach kws X.env)).all (·.1.isSome) = true := by rfl) (hks : (backToKw pos (keywordEach kws X.env)).filterMap (·.1) = ks := by rfl)
    (hdb : (x == ("__debug__" : Str)) = false := by decide) (hpl : ((backTo pos (starEach [] X.env)).any (·.1) || (backToKw pos (keywordEach kws X.env)).any (·.1.isNone)) = false := by rfl) :
    PE X (.Call (.Name x p) [] kws pos) (tCallR ks.length sp E tk) := by
  obtain ⟨f, fd, F, b, kp, m, h, _⟩ := U.ex
  exact pe_callR F hr hg m kp (h _ hin hl) hx hkw hall hks hdb hpl
theorem pe_useN (U : Use X.prog X.w X.K X.mg X.base CX k x ps sp kl) (hr : Room k X.A) (hg : Gl X x) (hx : Passes CX X E) (hl : ks.length = 1) (hl2 : ps.length = 2)
    (ha : PA X (e :: es) t) (hkw : PK X kws tk) (hin : ks ∈ kl) (hall : (backToKw pos (keywordEach kws X.env)).all (·.1.isSome) = true := by rfl) (hks : (backToKw pos (keywordEach kws X.env)).filterMap (·.1) = ks := by rfl)
    (hdb : (x == ("__debug__" : Str)) = false := by decide) (he : starEach (e :: es) X.env = (false, eval e X.env) :: starEach es X.env := by rfl)
    (hpl : ((backTo pos (starEach (e :: es) X.env)).any (·.1) || (backToKw pos (keywordEach kws X.env)).any (·.1.isNone)) = false := by rfl) :
    PE X (.Call (.Name x p) (e :: es) kws pos) (tCallN 1 ks.length sp appA E t tk) := by
  obtain ⟨f, fd, F, b, kp, m, _, h⟩ := U.ex
  exact pe_callN F hr hg m kp (h _ hin hl hl2) hx ha hkw hall hks hdb he hpl
end
/-! ### a def whose code object's place is known -/
structure FunC (K : PySem.W.Frag) (x qual : Str) (st : Stmt) (f : Addr) (fd : FuncData) (c : Addr) : Prop where
  ex : ∃ (oc : Value) (od : Option Addr) (kV doc pm : Value) (an : Option Addr) (ct : Value) (osl : Array (Option Value)),
    fd = PySem.W.fnOf x qual (defArgs st) (defBody st) (defScope st) .none kV doc pm an (.ref c) ct ∧ K.lookup f = some ⟨oc, od, .func fd, osl⟩ ∧ PySem.W.codeIn K (.ref c) qual = true
  kp : PySem.W.keepIn K (.ref f) = true
section
variable {P : Program} {w : World} {K : PySem.W.Frag} {mg : Str → Option Value} {base : Heap}
theorem FunC.fn {x qual : Str} {st : Stmt} {f c : Addr} {fd : FuncData} (F : FunC K x qual st f fd c) : Fun K x qual st f fd := by
  obtain ⟨oc, od, kV, doc, pm, an, ct, osl, h1, h2, h3⟩ := F.ex
  exact ⟨⟨oc, od, kV, doc, pm, an, _, ct, osl, h1, h2, h3⟩, F.kp⟩
theorem FunC.ok {x qual : Str} {st : Stmt} {f c : Addr} {fd : FuncData} {N ps : List Str} {k : Nat} {sp : Sp} (F : FunC K x qual st f fd c) (S : FnScope N ps (defScope st)) (len : ∀ vs H Q E, sp vs H Q E → vs.length = ps.length)
    (hbody : ∀ (A : Around) (outer : List Env) (s : Shared) (H : Hp) (vs : List V) (Q : VK) (E : XK), Room k (A.deeper (envOfC qual (defScope st) s.heap.objs.size f (.ref c))) → sp vs H Q E →
      ∃ t, PSs (cxOf CX0 P w K mg base N qual (defScope st) f (.ref c) A outer s H E).nox (defBody st) t ∧ t { nx := fun _ H' => Q .non H', rt := Q } (L2.start N vs) H) : FnOk P w K mg base CX0 (k + 1) f fd ps sp := by
  obtain ⟨oc, od, kV, doc, pm, an, ct, osl, rfl, lk, hcd⟩ := F.ex
  refine fn_of lk hcd S len fun A outer s H vs Q E hr hsp => ?_
  obtain ⟨t, h, q⟩ := hbody A outer s H vs Q E hr hsp
  exact ⟨t, h.nox, q⟩
end
end Kx
end
section
set_option maxHeartbeats 4000000
namespace Kx
open PySem PySem.Spec PyProof.Rows L2
/-- a list comprehension that makes something new at each turn: R says of the i-th -/
theorem lc_acc {J : It} {n : Nat} {G : Hp → Prop} {Y : Nat → Hp → V → Hp → Prop} (w : Walk J n G Y) {g : TG} {te : TE} {vs : List Nat} {σ : L2.St} {H1 : Hp} {D : Addr} {Qd : Hp → Prop} (R : Nat → Hp → V → Prop)
    (mono : ∀ i H H' y l, R i H y → H D = some (.lst l) → But D H H' → R i H' y) (nD : H1 D = none) (hn : n ≤ 900) (hG : ∀ H, Same H1 H → G H)
    (hs : ∀ i x H H' (k : V → Hp → Prop), i < n → Same H1 H → Y i H x H' → (∀ y H4, Same H H4 → R i H4 y → k y H4) → g x (wipe σ vs) H' fun σ2 H2 => wipe σ2 vs = wipe σ vs ∧ te σ2 H2 k)
    (hd : ∀ H xs, Same H1 H → H D = some (.lst xs) → xs.length = n → (∀ (i : Nat) y, xs[i]? = some y → R i H y) → Qd H) :
    ∃ W : Nat → Nat → Hp → Prop, (∃ m, W 0 m (upd H1 D (.lst []))) ∧ ∀ i m H, W i m H →
      (J.stop i H ∧ Qd H) ∨ (J.go i H ∧ ∃ Nx : Hp → Prop, (∀ H', Nx H' → ∃ m', m' < m ∧ W (i + 1) m' H') ∧ ∀ x H', J.yld i H x H' → g x (wipe σ vs) H' fun σ2 H2 => wipe σ2 vs = wipe σ vs ∧ tYes σ2 H2 fun b H3 =>
        if b = true then te σ2 H3 fun y H4 => ∃ acc, H4 D = some (.lst acc) ∧ acc.length < sizeLine ∧ Nx (upd H4 D (.lst (acc ++ [y]))) else Nx H3) := by
  refine lc_it w (fun i H => Same H1 H ∧ ∃ xs, H D = some (.lst xs) ∧ xs.length = i ∧ ∀ (j : Nat) y, xs[j]? = some y → R j H y) ⟨new_same nD _, [], upd_same, rfl, fun j y h => by simp at h⟩ (fun i H _ h => hG H h.1) ?_ ?_
  · rintro i x H H' hi ⟨s1, xs, hx, hl, hR⟩ y
    have z := hs i x H H' (fun y H4 => ∃ acc, H4 D = some (.lst acc) ∧ acc.length < sizeLine ∧ (Same H1 (upd H4 D (.lst (acc ++ [y]))) ∧ ∃ xs, (upd H4 D (.lst (acc ++ [y]))) D = some (.lst xs) ∧ xs.length = i + 1 ∧ ∀ (j : Nat) z, xs[j]? = some z → R j (upd H4 D (.lst (acc ++ [y]))) z)) hi s1 y (fun y H4 s4 r4 => ?_)
    · exact z
    · have h4 := s4 _ _ hx
      refine ⟨xs, h4, small1000 (by omega), fun e o h => ?_, xs ++ [y], upd_same, by rw [List.length_append, hl]; rfl, fun j z hz => ?_⟩
      · rw [upd_ne (ne_of_none h nD)]
        exact s4 _ _ (s1 _ _ h)
      · have sm : But D H4 (upd H4 D (.lst (xs ++ [y]))) := fun e o n h => by rw [upd_ne n]; exact h
        by_cases c : j < xs.length
        · rw [List.getElem?_append_left c] at hz
          exact mono j H _ z _ (hR j z hz) hx ((But.same s4).trans sm)
        · rw [List.getElem?_append_right (by omega)] at hz
          match hj : j - xs.length, hz with
          | 0, hz =>
            rw [← Option.some.inj (show some y = some z from hz)]
            obtain rfl : j = i := by omega
            exact mono j H4 _ _ _ r4 h4 sm
          | _ + 1, hz => simp at hz
  · rintro H ⟨s1, xs, hx, hl, hR⟩
    exact hd H xs s1 hx hl hR
theorem Nq.butL {K : PySem.W.Frag} {H H' : Hp} {v : V} {q : Rat} {D : Addr} {l : List V} (h : Nq K H v q) (hD : H D = some (.lst l)) (s : But D H H') : Nq K H' v q := by
  obtain ⟨a, e, h⟩ := h
  refine ⟨a, e, h.imp (fun h => s _ _ (fun z => ?_) h) id⟩
  rw [z, hD] at h
  cases h
/-- .. new numbers -/
theorem lc_nums {K : PySem.W.Frag} {J : It} {n : Nat} {G : Hp → Prop} {Y : Nat → Hp → V → Hp → Prop} (w : Walk J n G Y) {g : TG} {te : TE} {vs : List Nat} {σ : L2.St} {H1 : Hp} {D : Addr} {Qd : Hp → Prop} (qs : List Rat)
    (hl : qs.length = n) (nD : H1 D = none) (hn : n ≤ 900) (hG : ∀ H, Same H1 H → G H)
    (hs : ∀ i q x H H' (k : V → Hp → Prop), qs[i]? = some q → Same H1 H → Y i H x H' → (∀ y H4, Same H H4 → Nq K H4 y q → k y H4) → g x (wipe σ vs) H' fun σ2 H2 => wipe σ2 vs = wipe σ vs ∧ te σ2 H2 k)
    (hd : ∀ H xs, Same H1 H → H D = some (.lst xs) → Nl K H xs qs → Qd H) :
    ∃ W : Nat → Nat → Hp → Prop, (∃ m, W 0 m (upd H1 D (.lst []))) ∧ ∀ i m H, W i m H →
      (J.stop i H ∧ Qd H) ∨ (J.go i H ∧ ∃ Nx : Hp → Prop, (∀ H', Nx H' → ∃ m', m' < m ∧ W (i + 1) m' H') ∧ ∀ x H', J.yld i H x H' → g x (wipe σ vs) H' fun σ2 H2 => wipe σ2 vs = wipe σ vs ∧ tYes σ2 H2 fun b H3 =>
        if b = true then te σ2 H3 fun y H4 => ∃ acc, H4 D = some (.lst acc) ∧ acc.length < sizeLine ∧ Nx (upd H4 D (.lst (acc ++ [y]))) else Nx H3) := by
  refine lc_acc w (fun i H y => ∀ q, qs[i]? = some q → Nq K H y q) (fun i H H' y l h hD s q hq => (h q hq).butL hD s) nD hn hG (fun i x H H' k hi s y hk => ?_) (fun H xs s h l hR => hd H xs s h ⟨by rw [l, hl], fun i x q h1 h2 => hR i x h1 q h2⟩)
  have e := List.getElem?_eq_getElem (l := qs) (i := i) (by omega)
  exact hs i _ x H H' k e s y fun z H4 s4 r4 => hk z H4 s4 fun q hq => by
    rw [e] at hq
    rw [← Option.some.inj hq]
    exact r4
abbrev tupQ (q : Rat) : PyData := .tuple [.int q.num, .int (q.den : Nat)]
theorem eqv_num (a b : Rat) : PyData.eqv (tupQ a) (tupQ b) = decide (a = b) := by
  by_cases h : a = b
  · subst h
    rw [decide_eq_true rfl]
    exact SeqAt.eqv_refl _ rfl
  · rw [decide_eq_false h]
    simp only [tupQ, PyData.eqv, PyData.eqvAll, Bool.and_true]
    rw [Bool.and_eq_false_iff]
    by_cases e : a.num = b.num
    · right
      refine beq_eq_false_iff_ne.mpr fun z => h (Rat.ext e ?_)
      omega
    · left
      exact beq_eq_false_iff_ne.mpr e
end Kx
end
section
set_option maxHeartbeats 4000000
namespace Kx
open PySem PySem.Spec PyProof.Rows L2
/-! ### the program's numbers -/
abbrev nOO : List Str := ["one", "other"]
section
variable {P : Program} {w : World} {K : PySem.W.Frag} {mg : Str → Option Value} {base : Heap} {f fL o0 : Addr} {fd fdL : FuncData}
theorem scRatio : FnScope ["upper", "lower", "shared"] ["upper", "lower"] (defScope F_ratio) := ⟨rfl, rfl, rfl, by decide +kernel, rfl, by decide +kernel, by decide +kernel⟩
theorem ok_ratio (F : Fun K "ratio" "ratio" F_ratio f fd) (mG : mg "gcd" = some (.builtin "math.gcd")) : FnOk P w K mg base CX0 1 f fd ["upper", "lower"] spLowQ := by
  refine F.ok scRatio (fun vs H Q E h => ?_) (fun cdv A outer s H vs Q E hr h => ?_)
  · obtain ⟨p, q, rfl, _⟩ := h
    rfl
  obtain ⟨p, q, rfl, hq, hl, qq⟩ := h
  refine ⟨_, pss_cons (ps_if (pt_cmpR op_eq (pv 1) pe_int (nomark _)) (pss_one ps_never) pss_nil)
    (pss_cons (ps_set (i := 2) scRatio.nd rfl (Or.inl rfl) (pe_callBfun cr_gcd rfl mG (pa_cons (pv 0) (pa_cons (pv 1) pa_nil))))
    (pss_cons (ps_if (pt_cmpR op_lt (pv 1) pe_int (nomark _)) (pss_one (ps_set (i := 2) scRatio.nd rfl (Or.inl rfl) (pe_un un_neg (pv 2)))) pss_nil)
    (pss_one (ps_ret (pe_tup (pa_cons (pe_op op_fdivA (pv 0) (pv 2)) (pa_cons (pe_op op_fdivA (pv 1) (pv 2)) pa_nil))))))), ?_⟩
  have fin : ∀ g : Int, g = gS p q → (∀ t, H t = none → Q (.ref t) (upd H t (.tup [.int (p.fdiv g), .int (q.fdiv g)]))) ∧ g ≠ 0 ∧ g.natAbs.log2 < 9000 := by
    rintro g rfl
    refine ⟨fun t nt => ?_, gS_ne hq, Nat.lt_of_le_of_lt (log_le (gS_le hq)) hl⟩
    have := qq.upd nt
    rw [← low_HO hq] at this
    exact this
  refine ⟨_, rfl, rfl, _, rfl, ?_⟩
  rw [decide_eq_false (fun e => hq (V.int.inj e))]
  refine iteF ⟨_, rfl, _, rfl, p, q, rfl, ?_⟩
  refine ⟨_, rfl, q, 0, rfl, rfl, _, rfl, ite2 (fun c => ?_) (fun c => ?_)⟩
  · obtain ⟨q1, n0, l9⟩ := fin (-((Nat.gcd p.natAbs q.natAbs : Nat) : Int)) (by unfold gS; rw [if_pos (of_decide_eq_true c)])
    exact ⟨_, rfl, _, rfl, _, rfl, _, rfl, p, _, rfl, rfl, ⟨n0, l9⟩, _, rfl, _, rfl, q, _, rfl, rfl, ⟨n0, l9⟩, (by show 2 ≤ sizeLine; decide), q1⟩
  · obtain ⟨q1, n0, l9⟩ := fin ((Nat.gcd p.natAbs q.natAbs : Nat) : Int) (by unfold gS; rw [if_neg (of_decide_eq_false (Bool.eq_false_iff.mpr c))])
    exact ⟨_, rfl, _, rfl, p, _, rfl, rfl, ⟨n0, l9⟩, _, rfl, _, rfl, q, _, rfl, rfl, ⟨n0, l9⟩, (by show 2 ≤ sizeLine; decide), q1⟩
theorem scPro : FnScope nOO ["one", "other"] (defScope F_product_of) := ⟨rfl, rfl, rfl, by decide +kernel, rfl, by decide +kernel, by decide +kernel⟩
theorem ok_product (F : Fun K "product_of" "product_of" F_product_of f fd) (UR : Use P w K mg base CX0 1 "ratio" ["upper", "lower"] spLowQ []) : FnOk P w K mg base CX0 2 f fd ["one", "other"] (spTwoQ K (· * ·)) := by
  refine F.ok scPro (fun vs H Q E h => ?_) (fun cdv A outer s H vs Q E hr h => ?_)
  · obtain ⟨x, y, a, b, rfl, _⟩ := h
    rfl
  obtain ⟨x, y, a, b, rfl, hx, hy, ba, bb, q⟩ := h
  obtain ⟨xa, rfl, sx, _⟩ := hx.sq
  obtain ⟨ya, rfl, sy, _⟩ := hy.sq
  refine ⟨_, pss_one (ps_ret (pe_use UR hr rfl pass0 (pa_cons (pe_op op_mulW (pe_ix ix_tup (pv 0) pe_int (fun _ _ => rfl)) (pe_ix ix_tup (pv 1) pe_int (fun _ _ => rfl)))
      (pa_cons (pe_op op_mulW (pe_ix ix_tup (pv 0) pe_int (fun _ _ => rfl)) (pe_ix ix_tup (pv 1) pe_int (fun _ _ => rfl))) pa_nil)))), ?_⟩
  exact ⟨_, rfl, xa, _, 0, _, rfl, rfl, sx, rfl, _, rfl, ya, _, 0, _, rfl, rfl, sy, rfl, a.num, b.num, rfl, rfl, wide_mul ba.1 bb.1 (by decide) (by decide) (by decide),
      _, rfl, xa, _, 1, _, rfl, rfl, sx, rfl, _, rfl, ya, _, 1, _, rfl, rfl, sy, rfl, (a.den : Nat), (b.den : Nat), rfl, rfl, wide_mul ba.dn bb.dn (by decide) (by decide) (by decide),
      _, _, rfl, Int.mul_ne_zero (den_ne a) (den_ne b), log_two ba.dn bb.dn, by rw [← rat_mul]; exact q⟩
theorem scDif : FnScope nOO ["one", "other"] (defScope F_difference_of) := ⟨rfl, rfl, rfl, by decide +kernel, rfl, by decide +kernel, by decide +kernel⟩
theorem scQuo : FnScope nOO ["one", "other"] (defScope F_quotient_of) := ⟨rfl, rfl, rfl, by decide +kernel, rfl, by decide +kernel, by decide +kernel⟩
theorem ok_difference (F : Fun K "difference_of" "difference_of" F_difference_of f fd) (UR : Use P w K mg base CX0 1 "ratio" ["upper", "lower"] spLowQ []) : FnOk P w K mg base CX0 2 f fd ["one", "other"] (spTwoQ K (· - ·)) := by
  refine F.ok scDif (fun vs H Q E h => ?_) (fun cdv A outer s H vs Q E hr h => ?_)
  · obtain ⟨x, y, a, b, rfl, _⟩ := h
    rfl
  obtain ⟨x, y, a, b, rfl, hx, hy, ba, bb, q⟩ := h
  obtain ⟨xa, rfl, sx, _⟩ := hx.sq
  obtain ⟨ya, rfl, sy, _⟩ := hy.sq
  refine ⟨_, pss_one (ps_ret (pe_use UR hr rfl pass0 (pa_cons (pe_op op_sub (pe_op op_mulW (pe_ix ix_tup (pv 0) pe_int (fun _ _ => rfl)) (pe_ix ix_tup (pv 1) pe_int (fun _ _ => rfl))) (pe_op op_mulW (pe_ix ix_tup (pv 1) pe_int (fun _ _ => rfl)) (pe_ix ix_tup (pv 0) pe_int (fun _ _ => rfl))))
      (pa_cons (pe_op op_mulW (pe_ix ix_tup (pv 0) pe_int (fun _ _ => rfl)) (pe_ix ix_tup (pv 1) pe_int (fun _ _ => rfl))) pa_nil)))), ?_⟩
  exact ⟨_, rfl, xa, _, 0, _, rfl, rfl, sx, rfl, _, rfl, ya, _, 1, _, rfl, rfl, sy, rfl, a.num, (b.den : Nat), rfl, rfl, wide_mul ba.1 bb.dn (by decide) (by decide) (by decide), _, rfl, ya, _, 0, _, rfl, rfl, sy, rfl, _, rfl, xa, _, 1, _, rfl, rfl, sx, rfl, b.num, (a.den : Nat), rfl, rfl, wide_mul bb.1 ba.dn (by decide) (by decide) (by decide), _, _, rfl, rfl,
      _, rfl, xa, _, 1, _, rfl, rfl, sx, rfl, _, rfl, ya, _, 1, _, rfl, rfl, sy, rfl, (a.den : Nat), (b.den : Nat), rfl, rfl, wide_mul ba.dn bb.dn (by decide) (by decide) (by decide), _, _, rfl, Int.mul_ne_zero (den_ne a) (den_ne b), log_two ba.dn bb.dn, by rw [← rat_sub]; exact q⟩
theorem ok_quotient (F : Fun K "quotient_of" "quotient_of" F_quotient_of f fd) (UR : Use P w K mg base CX0 1 "ratio" ["upper", "lower"] spLowQ []) : FnOk P w K mg base CX0 2 f fd ["one", "other"] (spDivQ K) := by
  refine F.ok scQuo (fun vs H Q E h => ?_) (fun cdv A outer s H vs Q E hr h => ?_)
  · obtain ⟨x, y, a, b, rfl, _⟩ := h
    rfl
  obtain ⟨x, y, a, b, rfl, hx, hy, ba, bb, b0, bn, q⟩ := h
  obtain ⟨xa, rfl, sx, _⟩ := hx.sq
  obtain ⟨ya, rfl, sy, _⟩ := hy.sq
  refine ⟨_, pss_one (ps_ret (pe_use UR hr rfl pass0 (pa_cons (pe_op op_mulW (pe_ix ix_tup (pv 0) pe_int (fun _ _ => rfl)) (pe_ix ix_tup (pv 1) pe_int (fun _ _ => rfl)))
      (pa_cons (pe_op op_mulW (pe_ix ix_tup (pv 0) pe_int (fun _ _ => rfl)) (pe_ix ix_tup (pv 1) pe_int (fun _ _ => rfl))) pa_nil)))), ?_⟩
  exact ⟨_, rfl, xa, _, 0, _, rfl, rfl, sx, rfl, _, rfl, ya, _, 1, _, rfl, rfl, sy, rfl, a.num, (b.den : Nat), rfl, rfl, wide_mul ba.1 bb.dn (by decide) (by decide) (by decide),
      _, rfl, xa, _, 1, _, rfl, rfl, sx, rfl, _, rfl, ya, _, 0, _, rfl, rfl, sy, rfl, (a.den : Nat), b.num, rfl, rfl, wide_mul ba.dn bn (by decide) (by decide) (by decide), _, _, rfl, Int.mul_ne_zero (den_ne a) (num_ne b0), log_two ba.dn bn, by rw [← div_bq b0]; exact q⟩
end
/-! ### lists of numbers -/
/-- the list at a, for lists that were passed -/
def Ls (K : PySem.W.Frag) (H : Hp) (v : V) (qs : List Rat) : Prop := ∃ a xs, v = .ref a ∧ H a = some (.lst xs) ∧ Nl K H xs qs
theorem Ls.same {K : PySem.W.Frag} {H H' : Hp} {v : V} {qs : List Rat} (h : Ls K H v qs) (s : Same H H') : Ls K H' v qs := by
  obtain ⟨a, xs, e, h1, h2⟩ := h
  exact ⟨a, xs, e, s _ _ h1, h2.same s⟩
/-- a new list of numbers comes back -/
def GivesL (K : PySem.W.Frag) (H : Hp) (Q : VK) (rs : List Rat) : Prop := ∀ b H' xs, Same H H' → H b = none → H' b = some (.lst xs) → Nl K H' xs rs → Q (.ref b) H'
def AllB (n : Nat) (qs : List Rat) : Prop := ∀ q ∈ qs, Bq n q
def spTwoL (K : PySem.W.Frag) (op : Rat → Rat → Rat) : Sp := fun vs H Q _ => ∃ (x y : V) (qs rs : List Rat), vs = [x, y] ∧ Ls K H x qs ∧ Ls K H y rs ∧ qs.length = rs.length ∧ qs.length ≤ 100 ∧ AllO qs ∧ AllO rs ∧ GivesL K H Q (qs.zipWith op rs)
abbrev nSo : List Str := ["one", "other", "a", "c", "b", "d"]
abbrev nMo : List Str := ["numbers", "t", "number"]
section
variable {P : Program} {w : World} {K : PySem.W.Frag} {mg : Str → Option Value} {base : Heap} {f fL o0 : Addr} {fd fdL : FuncData}
theorem scDo : FnScope nSo ["one", "other"] (defScope F_differences_of) := ⟨rfl, rfl, rfl, by decide +kernel, rfl, by decide +kernel, by decide +kernel⟩
theorem zip_get {op : Rat → Rat → Rat} {qs rs : List Rat} {i : Nat} {q : Rat} (h : (qs.zipWith op rs)[i]? = some q) : ∃ a b, qs[i]? = some a ∧ rs[i]? = some b ∧ q = op a b := by
  rw [List.getElem?_zipWith] at h
  cases e1 : qs[i]? with
  | none => simp [e1] at h
  | some a =>
    cases e2 : rs[i]? with
    | none => simp [e1, e2] at h
    | some b =>
      simp [e1, e2] at h
      exact ⟨a, b, rfl, rfl, h.symm⟩
theorem ok_differences (F : Fun K "differences_of" "differences_of" F_differences_of f fd) (mz : mg "zip" = none) (UR : Use P w K mg base CX0 1 "ratio" ["upper", "lower"] spLowQ []) : FnOk P w K mg base CX0 2 f fd ["one", "other"] (spTwoL K (· - ·)) := by
  refine F.ok scDo (fun vs H Q E h => ?_) (fun cdv A outer s H vs Q E hr h => ?_)
  · obtain ⟨x, y, qs, rs, rfl, _⟩ := h
    rfl
  obtain ⟨x, y, qs, rs, rfl, ⟨xa, xs, rfl, hx, nx⟩, ⟨ya, ys, rfl, hy, ny⟩, le, l1, bq, br, q⟩ := h
  refine ⟨_, pss_one (ps_ret (pe_lc (own := [("a", 2), ("c", 3), ("b", 4), ("d", 5)]) (g := gTup K 2 (gCons (gTup K 2 (gCons (gName 2) (gCons (gName 3) gNil))) (gCons (gTup K 2 (gCons (gName 4) (gCons (gName 5) gNil))) gNil))) (tt := tYes) rfl scDo.nd (pi_zip rfl mz (pa_cons (pv 0) (pa_cons (pv 1) pa_nil))) (blkOk_by (N := nSo) (sc := defScope F_differences_of) (by decide +kernel))
      (fun _ _ _ _ _ => pg_tup rfl (pgs_cons (pg_tup rfl (pgs_cons (pg_name (i := 2) scDo.nd rfl (Or.inl rfl)) (pgs_cons (pg_name (i := 3) scDo.nd rfl (Or.inl rfl)) pgs_nil))) (pgs_cons (pg_tup rfl (pgs_cons (pg_name (i := 4) scDo.nd rfl (Or.inl rfl)) (pgs_cons (pg_name (i := 5) scDo.nd rfl (Or.inl rfl)) pgs_nil))) pgs_nil))) (fun _ _ _ _ _ => pts_nil)
      (fun _ _ _ _ _ => pe_use UR hr rfl pass0 (pa_cons (pe_op op_sub (pe_op op_mulW (pv 2) (pv 5)) (pe_op op_mulW (pv 4) (pv 3))) (pa_cons (pe_op op_mulW (pv 3) (pv 5)) pa_nil))))), ?_⟩
  refine ⟨_, rfl, _, rfl, xa, ya, xs, ys, rfl, SqL.of hx, SqL.of hy, fun D nD => ?_⟩
  have lx : xs.length = qs.length := nx.1
  have ly : ys.length = rs.length := ny.1
  refine lc_nums (K := K) (walk_zip (K := K) (a := xa) (b := ya) (xs := xs) (ys := ys) (n := xs.length) (by omega)) (qs.zipWith (· - ·) rs) (by rw [List.length_zipWith]; omega) nD (by omega) (fun H' s => ⟨SqL.of (s _ _ hx), SqL.of (s _ _ hy)⟩) ?_ (fun H' zs s h n => q D H' zs s nD h n)
  rintro i r x H2 H3 k hq s2 ⟨T, y, z, rfl, hT, rfl, hy2, hz2⟩ hk
  obtain ⟨a, b, ea, eb, rfl⟩ := zip_get hq
  have sT := new_same hT (.tup [y, z])
  obtain ⟨va, rfl, sa, _⟩ := ((nx.2 i y a hy2 ea).same (s2.trans sT)).sq
  obtain ⟨vb, rfl, sb, _⟩ := ((ny.2 i z b hz2 eb).same (s2.trans sT)).sq
  have ba := bq a (List.mem_of_getElem? ea)
  have bb := br b (List.mem_of_getElem? eb)
  refine ⟨T, _, rfl, SqT.of upd_same, rfl, _, _, rfl, va, _, rfl, sa, rfl, _, _, rfl, _, _, rfl, rfl, _, _, rfl, vb, _, rfl, sb, rfl, _, _, rfl, _, _, rfl, rfl, rfl, rfl, ?_⟩
  refine ⟨_, rfl, _, rfl, a.num, (b.den : Nat), rfl, rfl, wide_mul ba.1 bb.dn (by decide) (by decide) (by decide), _, rfl, _, rfl, b.num, (a.den : Nat), rfl, rfl, wide_mul bb.1 ba.dn (by decide) (by decide) (by decide), _, _, rfl, rfl, _, rfl, _, rfl, (a.den : Nat), (b.den : Nat), rfl, rfl, wide_mul ba.dn bb.dn (by decide) (by decide) (by decide), ?_⟩
  exact ⟨_, _, rfl, Int.mul_ne_zero (den_ne a) (den_ne b), log_two ba.dn bb.dn, fun t H4 s4 n4 h4 => hk _ _ (sT.trans s4) (.at (by rw [rat_sub]; exact h4))⟩
end
end Kx
end
section
set_option maxHeartbeats 4000000
namespace Kx
open PySem PySem.Spec PyProof.Rows L2
def rLcm : List V → Hp → VK → Prop := fun vs H Q => ∃ a b : Nat, vs = [.int (a : Nat), .int (b : Nat)] ∧ a < 2 ^ 13400 ∧ b < 2 ^ 13400 ∧ 0 < a ∧ 0 < b ∧ Q (.int ((Nat.lcm a b : Nat) : Int)) H
theorem cr_lcm {X : Cx} : CallR X (.builtin "math.lcm") rLcm := by
  intro pins s σ H vs us Q I r h
  obtain ⟨a, b, rfl, ha, hb, a0, b0, q⟩ := h
  obtain ⟨t, u, rfl⟩ := Vals.int2 r
  have e : ((((Nat.lcm 1 ((a : Nat) : Int).natAbs).lcm ((b : Nat) : Int).natAbs : Nat) : Int)) = ((Nat.lcm a b : Nat) : Int) := by
    rw [Int.natAbs_natCast, Int.natAbs_natCast, Nat.lcm_one_left]
  have l1 : (max 1 ((a : Nat) : Int).natAbs).log2 ≤ 13400 := PySem.W.mg_log (by
    rw [Int.natAbs_natCast, Nat.max_eq_right a0]
    exact Nat.lt_of_lt_of_le ha (Nat.pow_le_pow_right (by decide) (by decide)))
  have l2 : (max ((a : Nat) : Int).natAbs ((b : Nat) : Int).natAbs).log2 ≤ 13400 := PySem.W.mg_log (by
    rw [Int.natAbs_natCast, Int.natAbs_natCast]
    exact Nat.lt_of_lt_of_le (Nat.max_lt.mpr ⟨ha, hb⟩) (Nat.pow_le_pow_right (by decide) (by decide)))
  have l3 : ((((Nat.lcm 1 ((a : Nat) : Int).natAbs).lcm ((b : Nat) : Int).natAbs : Nat) : Int)).natAbs.log2 < bitsLine := by
    rw [e, Int.natAbs_natCast]
    refine Nat.lt_of_le_of_lt (PySem.W.mg_log (k := 26800) ?_) (by decide)
    refine Nat.lt_of_le_of_lt (Nat.le_of_dvd (Nat.mul_pos a0 b0) (Nat.lcm_dvd_mul _ _)) ?_
    refine Nat.lt_of_lt_of_le (Nat.mul_lt_mul'' ha hb) ?_
    rw [← Nat.pow_add]
    exact Nat.pow_le_pow_right (by decide) (by decide)
  refine call_function_meets PySem.W.MGF.kind_lcm PySem.W.MGF.plain_lcm PySem.W.MGF.entry_lcm (PySem.W.MGF.args_lcm _ _) (PySem.W.mg_run_lcm a t b u (by omega) (by omega) l3).meets ?_
  exact ⟨.int _, H, I.tok _, ⟨_, by rw [e]⟩, q⟩
/-- the pair of the upper parts and the lower part -/
def spOol (K : PySem.W.Frag) : Sp := fun vs H Q _ => ∃ (x : V) (qs : List Rat) (L B : Nat), vs = [x] ∧ Ls K H x qs ∧ qs.length ≤ 40 ∧ SmL L ∧ B ≤ 100000 ∧ AllD L B qs ∧
  ∀ b p H', Same H H' → H b = none → H' b = some (.lst ((upL (lcmL 1 qs) qs).map V.int)) → H' p = some (.tup [.ref b, .int (lcmL 1 qs : Nat)]) → Q (.ref p) H'
abbrev nOl : List Str := ["numbers", "lower", "_", "below", "above"]
section
variable {P : Program} {w : World} {K : PySem.W.Frag} {mg : Str → Option Value} {base : Heap} {f fL o0 : Addr} {fd fdL : FuncData}
theorem scOl : FnScope nOl ["numbers"] (defScope F_over_one_lower) := ⟨rfl, rfl, rfl, by decide +kernel, rfl, by decide +kernel, by decide +kernel⟩
theorem ok_ool (F : Fun K "over_one_lower" "over_one_lower" F_over_one_lower f fd) (mLc : mg "lcm" = some (.builtin "math.lcm")) : FnOk P w K mg base CX0 1 f fd ["numbers"] (spOol K) := by
  refine F.ok scOl (fun vs H Q E h => ?_) (fun cdv A outer s H vs Q E hr h => ?_)
  · obtain ⟨x, qs, L, B, rfl, _⟩ := h
    rfl
  obtain ⟨x, qs, L, B, rfl, ⟨xa, xs, rfl, hx, nx⟩, l1, sL, lB, bz, q⟩ := h
  have bq : AllO qs := bz.ok sL lB
  refine ⟨_, pss_cons (ps_set (i := 1) scOl.nd rfl (Or.inr rfl) pe_int)
    (pss_cons (ps_for PassesOwn.never rfl (pi_list (pv 0)) (pg_tup rfl (pgs_cons (pg_name (i := 2) scOl.nd rfl (Or.inl rfl)) (pgs_cons (pg_name (i := 3) scOl.nd rfl (Or.inl rfl)) pgs_nil)))
      (pss_one (ps_set (i := 1) scOl.nd rfl (Or.inr rfl) (pe_callBfun cr_lcm rfl mLc (pa_cons (pv 1) (pa_cons (pv 3) pa_nil))))))
    (pss_one (ps_ret (pe_tup (pa_cons (pe_lc (own := [("above", 4), ("below", 3)]) (g := gTup K 2 (gCons (gName 4) (gCons (gName 3) gNil))) (tt := tYes) rfl scOl.nd (pi_list (pv 0)) (blkOk_by (N := nOl) (sc := defScope F_over_one_lower) (by decide +kernel))
      (fun _ _ _ _ _ => pg_tup rfl (pgs_cons (pg_name (i := 4) scOl.nd rfl (Or.inl rfl)) (pgs_cons (pg_name (i := 3) scOl.nd rfl (Or.inl rfl)) pgs_nil))) (fun _ _ _ _ _ => pts_nil)
      (fun _ _ _ _ _ => pe_op op_mulW (pv 4) (pe_op op_fdivA (pv 1) (pv 3)))) (pa_cons (pv 1) pa_nil)))))), ?_⟩
  have lx : xs.length = qs.length := nx.1
  refine ⟨_, rfl, xa, rfl, ⟨_, SqL.of hx⟩, for_list (K := K) (a := xa) (xs := xs) (fun i σ H' => H' = H ∧ ∃ v2 v3, σ = [some (.ref xa), some (.int (lcmL 1 (qs.take i) : Nat)), v2, v3, none]) ⟨rfl, none, none, rfl⟩ (fun i σ H' _ h => by rw [h.1]; exact SqL.of hx) ?_ ?_⟩
  · rintro i x σ H' hi ⟨rfl, v2, v3, rfl⟩
    obtain ⟨a, ea, na⟩ := nx.get hi
    obtain ⟨va, rfl, sa, _⟩ := na.sq
    have hi40 : i < 40 := by
      rcases Nat.lt_or_ge i xs.length with c | c
      · omega
      · rw [List.getElem?_eq_none c] at hi; cases hi
    have zb : lcmL 1 (qs.take i) < 2 ^ 4450 := Nat.lt_of_le_of_lt (Nat.le_of_dvd sL.1 (AllD.lcm sL.1 (qs.take i) 1 (fun r hr => bz r (List.mem_of_mem_take hr)) (Nat.one_dvd _))) sL.2
    have lt : (qs.take i).length ≤ i := by rw [List.length_take]; omega
    refine ⟨va, _, rfl, sa, rfl, _, _, rfl, _, _, rfl, rfl, _, rfl, _, rfl, lcmL 1 (qs.take i), a.den, rfl, Nat.lt_of_lt_of_le zb (Nat.pow_le_pow_right (by decide) (by decide)), Nat.lt_of_lt_of_le (bq a (List.mem_of_getElem? ea)).2 (Nat.pow_le_pow_right (by decide) (by decide)), lcmL_pos _ 1 (by decide), Nat.pos_of_ne_zero a.den_nz, rfl, some (.int a.num), some (.int (a.den : Nat)), ?_⟩
    rw [List.take_add_one, ea, lcmL_app]
    rfl
  · rintro σ H' ⟨rfl, v2, v3, rfl⟩
    rw [lx, List.take_length]
    refine ⟨_, rfl, xa, rfl, ⟨_, SqL.of hx⟩, fun D nD => ?_⟩
    have e0 := lcmL_pos qs 1 (by decide)
    have dv := (lcmL_dvd qs 1).2
    refine lc_acc (walk_list (K := K) (a := xa) (xs := xs)) (fun i _ y => ∀ a, qs[i]? = some a → y = .int (a.num * ((lcmL 1 qs : Nat) / (a.den : Nat)))) (fun i H H' y l h _ _ => h) nD (by omega) (fun H2 s => SqL.of (s _ _ hx)) ?_ ?_
    · rintro i x H2 H3 k hi s2 ⟨rfl, hx2⟩ hk
      obtain ⟨a, ea, na⟩ := nx.get hx2
      obtain ⟨va, rfl, sa, _⟩ := (na.same s2).sq
      have ba := bq a (List.mem_of_getElem? ea)
      have z : lcmL 1 qs < 2 ^ 4450 := Nat.lt_of_le_of_lt (Nat.le_of_dvd sL.1 (AllD.lcm sL.1 qs 1 bz (Nat.one_dvd _))) sL.2
      have cd : ((lcmL 1 qs : Nat) : Int) / ((a.den : Nat) : Int) = ((lcmL 1 qs / a.den : Nat) : Int) := rfl
      refine ⟨va, _, rfl, sa, rfl, _, _, rfl, _, _, rfl, rfl, rfl, _, rfl, _, rfl, _, rfl, _, _, rfl, rfl, ⟨den_ne a, Nat.lt_trans (log_bd ba.dn (by decide)) (by decide)⟩, _, _, rfl, rfl, ?_, hk _ _ (Same.refl _) fun a' ha' => ?_⟩
      · rw [Int.fdiv_eq_ediv_of_nonneg _ (by omega), cd]
        refine wide_mul ba.1 (b := 4450) ?_ (by decide) (by decide) (by decide)
        rw [Int.natAbs_natCast]
        exact Nat.lt_of_le_of_lt (Nat.div_le_self _ _) z
      · rw [ea] at ha'
        rw [← Option.some.inj ha', Int.fdiv_eq_ediv_of_nonneg _ (by omega)]
    · intro H2 zs s2 hD hl hR
      have ez : zs = (upL (lcmL 1 qs) qs).map V.int := by
        apply List.ext_getElem?
        intro i
        unfold upL
        rw [List.map_map, List.getElem?_map]
        by_cases c : i < qs.length
        · rw [List.getElem?_eq_getElem c]
          have e := List.getElem?_eq_getElem (l := zs) (i := i) (by omega)
          rw [e]
          have := hR i _ e _ (List.getElem?_eq_getElem c)
          rw [this]
          rfl
        · rw [List.getElem?_eq_none (by omega), List.getElem?_eq_none (by omega)]
          rfl
      refine ⟨_, rfl, (by show 2 ≤ sizeLine; decide), fun p np => q D p _ (s2.trans (new_same np _)) nD (new_same np _ _ _ (by rw [hD, ez])) upd_same⟩
end
end Kx
end
section
set_option maxHeartbeats 4000000
namespace Kx
open PySem PySem.Spec PyProof.Rows L2
theorem ixl_at {X : Cx} (K : PySem.W.Frag) (h : X.K = K) : IxR X (rIxL K) := by
  subst h
  exact ix_list
theorem ixt_at {X : Cx} (K : PySem.W.Frag) (h : X.K = K) : IxR X (rIxT K) := by
  subst h
  exact ix_tup
/-- the product of two lists -/
def spMulL (K : PySem.W.Frag) : Sp := fun vs H Q _ => ∃ (x y : V) (qs rs : List Rat) (L B M C : Nat), vs = [x, y] ∧ Ls K H x qs ∧ Ls K H y rs ∧ qs.length = rs.length ∧ qs.length ≤ 30 ∧ SmL L ∧ B ≤ 100000 ∧ SmL M ∧ C ≤ 100000 ∧ AllD L B qs ∧ AllD M C rs ∧ GivesL K H Q (mulL qs rs)
abbrev nMl : List Str := ["one", "other", "ones", "one_lower", "others", "other_lower", "found", "place", "upper", "at"]
theorem upL_len (L : Nat) (qs : List Rat) : (upL L qs).length = qs.length := List.length_map _
theorem upL_at {L : Nat} {qs : List Rat} {i : Nat} (h : i < qs.length) : ((upL L qs).map V.int)[i]? = some (.int ((upL L qs).getD i 0)) := by
  rw [List.getElem?_map, List.getElem?_eq_getElem (by rw [upL_len]; exact h), List.getD_eq_getElem?_getD, List.getElem?_eq_getElem (by rw [upL_len]; exact h)]
  rfl
theorem upL_bd {m : Nat} {L : Nat} {qs : List Rat} (h : AllO qs) (hL : L < 2 ^ m) (i : Nat) : ((upL L qs).getD i 0).natAbs < 2 ^ (100000 + m) := by
  unfold upL
  rw [List.getD_eq_getElem?_getD, List.getElem?_map]
  cases e : qs[i]? with
  | none => exact Nat.pow_pos (by decide)
  | some q =>
    refine lt_mul (h q (List.mem_of_getElem? e)).1 ?_
    have : ((L : Nat) : Int) / ((q.den : Nat) : Int) = ((L / q.den : Nat) : Int) := rfl
    rw [this, Int.natAbs_natCast]
    exact Nat.lt_of_le_of_lt (Nat.div_le_self _ _) hL
section
variable {P : Program} {w : World} {K : PySem.W.Frag} {mg : Str → Option Value} {base : Heap} {f fL o0 : Addr} {fd fdL : FuncData}
theorem scMl : FnScope nMl ["one", "other"] (defScope F_multiplied) := ⟨rfl, rfl, rfl, by decide +kernel, rfl, by decide +kernel, by decide +kernel⟩
theorem ok_multiplied (F : Fun K "multiplied" "multiplied" F_multiplied f fd) (mn : mg "len" = none) (mr : mg "range" = none) (ms : mg "sum" = none) (UO : Use P w K mg base CX0 1 "over_one_lower" ["numbers"] (spOol K) []) (UR : Use P w K mg base CX0 1 "ratio" ["upper", "lower"] spLowQ []) : FnOk P w K mg base CX0 2 f fd ["one", "other"] (spMulL K) := by
  refine F.ok scMl (fun vs H Q E h => ?_) (fun cdv A outer s H vs Q E hr h => ?_)
  · obtain ⟨x, y, qs, rs, L, B, M, C, rfl, _⟩ := h
    rfl
  obtain ⟨x, y, qs, rs, L0, B0, M0, C0, rfl, lx, ly, le, l1, sL, lB, sM, lC, bz, cz, q⟩ := h
  have bq : AllO qs := bz.ok sL lB
  have br : AllO rs := cz.ok sM lC
  refine ⟨_, pss_cons (ps_asg (pe_use UO hr rfl pass0 (pa_cons (pv 0) pa_nil)) (pg_tup rfl (pgs_cons (pg_name (i := 2) scMl.nd rfl (Or.inr rfl)) (pgs_cons (pg_name (i := 3) scMl.nd rfl (Or.inl rfl)) pgs_nil))))
    (pss_cons (ps_asg (pe_use UO hr rfl pass0 (pa_cons (pv 1) pa_nil)) (pg_tup rfl (pgs_cons (pg_name (i := 4) scMl.nd rfl (Or.inr rfl)) (pgs_cons (pg_name (i := 5) scMl.nd rfl (Or.inl rfl)) pgs_nil))))
    (pss_cons (ps_set (i := 6) scMl.nd rfl (Or.inl rfl) (pe_lst pa_nil))
    (pss_cons (ps_for PassesOwn.never rfl (pi_range1 rfl mr (pa_cons (pe_callB call_len_seq rfl mn PySem.boot_len (pa_cons (pv 0) pa_nil)) pa_nil)) (pg_name (i := 7) scMl.nd rfl (Or.inr rfl))
      (pss_cons (ps_set (i := 8) scMl.nd rfl (Or.inl rfl) (pe_callB (cr_sum rfl) rfl ms (by decide +kernel) (pa_cons (pe_lc (own := [("at", 9)]) (g := gName 9) (tt := tYes) rfl scMl.nd (pi_range1 rfl mr (pa_cons (pe_op op_add (pv 7) pe_int) pa_nil)) (blkOk_by (N := nMl) (sc := defScope F_multiplied) (by decide +kernel))
          (fun _ _ _ _ _ => pg_name (i := 9) scMl.nd rfl (Or.inl rfl)) (fun _ _ _ _ _ => pts_nil)
          (fun _ _ _ _ _ => pe_op op_mulW (pe_ix (ixl_at K rfl) (pv 2) (pv 9) (fun _ _ => rfl)) (pe_ix (ixl_at K rfl) (pv 4) (pe_op op_sub (pv 7) (pv 9)) (fun _ _ => rfl)))) pa_nil)))
      (pss_one (ps_expr (pe_bm PySem.F.plainAttrs_list PySem.F.slot_list_append PySem.F.type_list_append mt_append (pv 6) (pa_cons (pe_use UR hr rfl pass0 (pa_cons (pv 8) (pa_cons (pe_op op_mulW (pv 3) (pv 5)) pa_nil))) pa_nil))))))
    (pss_one (ps_ret (pv 6)))))), ?_⟩
  refine ⟨_, rfl, x, qs, L0, B0, rfl, lx, by omega, sL, lB, bz, fun b1 p1 H1 s1 n1 e1 t1 => ?_⟩
  refine ⟨p1, _, rfl, SqT.of t1, rfl, _, _, rfl, _, _, rfl, rfl, ?_⟩
  refine ⟨_, rfl, y, rs, M0, C0, rfl, ly.same s1, by omega, sM, lC, cz, fun b2 p2 H2 s2 n2 e2 t2 => ?_⟩
  refine ⟨p2, _, rfl, SqT.of t2, rfl, _, _, rfl, _, _, rfl, rfl, ?_⟩
  have lx2 := (lx.same s1).same s2
  obtain ⟨xa, xs, rfl, hx, nx⟩ := lx2
  have hl : xs.length = qs.length := nx.1
  have f1 := s2 _ _ e1
  have s12 := s1.trans s2
  clear s1 s2 t1 t2 e1 n1 n2 lx ly nx
  refine ⟨(by show 0 ≤ sizeLine; decide), fun fb nf => ?_⟩
  have sf := new_same nf (HO.lst [])
  have Lp := lcmL_pos qs 1 (by decide)
  have Mp := lcmL_pos rs 1 (by decide)
  have Lb : lcmL 1 qs < 2 ^ 4450 := Nat.lt_of_le_of_lt (Nat.le_of_dvd sL.1 (AllD.lcm sL.1 qs 1 bz (Nat.one_dvd _))) sL.2
  have Mb : lcmL 1 rs < 2 ^ 4450 := Nat.lt_of_le_of_lt (Nat.le_of_dvd sM.1 (AllD.lcm sM.1 rs 1 cz (Nat.one_dvd _))) sM.2
  have dL := (lcmL_dvd qs 1).2
  have dM := (lcmL_dvd rs 1).2
  generalize lcmL 1 qs = L at *
  generalize lcmL 1 rs = M at *
  refine ⟨_, rfl, xa, xs, rfl, .inl (SqL.of (sf _ _ hx)), ?_⟩
  refine ⟨_, rfl, by omega, by omega, for_range (lo := 0) (n := (((xs.length : Nat) : Int)).toNat) (fun i σ H' => Same H2 H' ∧ (∃ v7 v8, σ = [some (.ref xa), some y, some (.ref b1), some (.int (L : Nat)), some (.ref b2), some (.int (M : Nat)), some (.ref fb), v7, v8, none]) ∧ ∃ zs, H' fb = some (.lst zs) ∧ Nl K H' zs ((List.range i).map (cnv qs rs))) ⟨sf, ⟨none, none, rfl⟩, [], upd_same, Nl.nil⟩ ?_ ?_⟩
  · rintro i σ H3 hi ⟨s3, ⟨v7, v8, rfl⟩, zs, hz, nz⟩
    rw [Int.toNat_natCast] at hi
    have g1 := s3 _ _ f1
    have g2 := s3 _ _ e2
    have zl : zs.length = i := by rw [nz.1, List.length_map, List.length_range]
    refine ⟨_, rfl, (0 + (i : Int)), 1, rfl, rfl, _, rfl, by omega, by omega, fun D nD => ?_⟩
    refine lc_acc (walk_range (lo := 0) (n := (0 + (i : Int) + 1).toNat)) (fun j _ v => v = .int ((upL L qs).getD j 0 * (upL M rs).getD (i - j) 0)) (fun j H H' v l h _ _ => h) nD (by omega) (fun _ _ => trivial) ?_ ?_
    · rintro j v H4 H5 k hj s4 ⟨rfl, rfl⟩ hk
      have hj' : j < i + 1 := by omega
      refine ⟨rfl, _, rfl, _, rfl, b1, _, (0 + (j : Int)), _, rfl, rfl, SqL.of (s4 _ _ g1), at_of (j := j) (by omega) (upL_at (by omega)), _, rfl, _, rfl, _, rfl, (0 + (i : Int)), (0 + (j : Int)), rfl, rfl, b2, _, _, _, rfl, rfl, SqL.of (s4 _ _ g2), at_of (j := i - j) (by omega) (upL_at (by omega)), _, _, rfl, rfl, ?_, hk _ _ (Same.refl _) rfl⟩
      exact wide_mul (upL_bd bq Lb j) (upL_bd br Mb (i - j)) (by decide) (by decide) (by decide)
    · intro H4 ys s4 hD hyl hR
      have ey : ys = (pds (upL L qs) (upL M rs) i (i + 1)).map V.int := by
        apply List.ext_getElem?
        intro j
        unfold pds
        rw [List.map_map, List.getElem?_map]
        by_cases c : j < i + 1
        · rw [List.getElem?_range c]
          have e := List.getElem?_eq_getElem (l := ys) (i := j) (by omega)
          rw [e, hR j _ e]
          rfl
        · rw [List.getElem?_eq_none (by omega), List.getElem?_eq_none (by rw [List.length_range]; omega)]
          rfl
      refine ⟨D, _, rfl, SqL.of (by rw [hD, ey]), ?_⟩
      refine ⟨_, rfl, .inl ⟨rfl, _, SqL.of (s4 _ _ hz)⟩, _, rfl, _, rfl, _, rfl, (L : Nat), (M : Nat), rfl, rfl, ?_, ?_⟩
      · exact wide_mul (a := 4450) (b := 4450) (by rw [Int.natAbs_natCast]; exact Lb) (by rw [Int.natAbs_natCast]; exact Mb) (by decide) (by decide) (by decide)
      · refine ⟨_, _, rfl, Int.mul_ne_zero (by omega) (by omega), log_two (by rw [Int.natAbs_natCast]; exact Lb) (by rw [Int.natAbs_natCast]; exact Mb), fun t H5 s5 n5 e5 => ?_⟩
        rw [cnv_ratio dL dM Lp Mp] at e5
        have hz5 := s5 _ _ (s4 _ _ hz)
        refine ⟨fb, zs, _, rfl, rfl, hz5, small1000 (by omega), ?_, ⟨_, _, rfl⟩, zs ++ [.ref t], upd_same, ?_⟩
        · intro b o hb
          have nb : b ≠ fb := fun z => by rw [z, nf] at hb; cases hb
          rw [upd_ne nb]
          exact s5 _ _ (s4 _ _ (s3 _ _ hb))
        · have nz5 := (nz.same s4).same s5
          have nb : Nl K H5 (zs ++ [.ref t]) ((List.range (i + 1)).map (cnv qs rs)) := by
            rw [List.range_succ, List.map_append]
            exact nz5.snoc (.at e5)
          exact ⟨nb.1, fun j x r h1 h2 => (nb.2 j x r h1 h2).butL hz5 (fun b o n h => by rw [upd_ne n]; exact h)⟩
  · rintro σ H3 ⟨s3, ⟨v7, v8, rfl⟩, zs, hz, nz⟩
    rw [Int.toNat_natCast, hl] at nz
    exact ⟨_, rfl, q fb H3 zs (s12.trans s3) (s12.free nf) hz nz⟩
end
end Kx
end
section
set_option maxHeartbeats 4000000
namespace PySem
namespace Xv
open PySem.W PySem.Calls PyProof.Rows PySem.HandSPX
section
variable {prog : Program} {w : World} {A : Around} {E : Value → Shared → Prop} {R : Result → Shared → Prop} {h : Heap} {g : Array GenState} {d : Drawn} {t : Nat} {os : OsState}
variable {nm q : Str} {C N : Addr} {bs bm mb : List Value} {hdct : Bool} {sn : List Str} {sub : List Value} {ab : Bool} {col : Option Bool} {dd : Option Addr} {k0 k1 k2 k3 k5 : Option Value} {B newId initId : String}
variable {kw : List (Str × Value)} {rest : List Value}

theorem chkNew {M : Model} (F : ExcBaseFacts B newId initId mb) (hT : ∀ Z : String, bm.contains (.type Z) = mb.contains (.type Z)) {Q : Unit → Shared → Prop}
    (hC : h.get? C = some (excClassObj nm q C N bs bm hdct sn sub ab col dd k0 k1 k2 k3 k5 newId)) (z : Q () ⟨h, g, d, t, os⟩) :
    wpAny M A (checkBuiltinCall newId ⟨.ref C :: rest, kw⟩) Q E ⟨h, g, d, t, os⟩ := by
  have h1 : (Value.ref C :: bm).contains (.type B) = true := by rw [List.contains_cons, hT, F.hasB]; simp
  have h2 := F.noStar
  simp only [checkBuiltinCall, F.newKind, F.newSplit, F.newRow]
  repeat (first | refine wpAny_loadPart_at hC ?_ | (refine wpAny_isSubtype_exc hC ?_; rw [h1]) | refine wpAny_staticBase_exc hC ?_ | refine wpAny_madeBy_exc hC ?_ | simp only [bne_self_eq_false, Bool.false_eq_true, if_false] | wp_step)
  exact z
theorem newAt (F : ExcBaseFacts B newId initId mb) (hT : ∀ Z : String, bm.contains (.type Z) = mb.contains (.type Z))
    (hC : h.get? C = some (excClassObj nm q C N bs bm hdct sn sub ab col dd k0 k1 k2 k3 k5 newId)) (hl : rest.length ≤ sizeLine)
    (z : R (.ok (.ret (.ref (h.objs.size + 1)))) ⟨(h.push (W.kdv_tup rest)).push (excO C h.objs.size), g, d, t, os⟩) :
    codeAny (model prog w) A (.builtin newId ⟨.ref C :: rest, kw⟩) R ⟨h, g, d, t, os⟩ := by
  have e0 := F.ends
  have e1 : (Value.ref C :: bm).contains (.type B) = true := by rw [List.contains_cons, hT, F.hasB]; simp
  have e2 : (Value.ref C :: bm).contains (.type "AttributeError") = false := by rw [List.contains_cons, hT, F.noAttr]; exact rfl
  have e3 : (Value.ref C :: bm).contains (.type "NameError") = false := by rw [List.contains_cons, hT, F.noName]; exact rfl
  refine codeAny_builtinAt F.entry ?_
  unfold Builtin.«BaseException.__new__»
  refine wpAt_bind ?_
  show wpAt _ _ _ (stack >>= _) _ _ _
  refine wpAt_bind (wpAt_stack fun p below => wpAt_of_wpAny ?_)
  wp_walk
  refine wpAt_of_wpAny ?_
  rw [F.owner]
  repeat (first | (with_reducible refine wpAny_isSubtype_exc hC ?_; first | rw [e1] | rw [e2] | rw [e3]) | with_reducible refine wpAny_madeHere_exc F.canon hC ?_ | with_reducible refine wpAny_loadPart_at hC ?_ | wp_step)
  show R _ _
  rw [Heap.size_push]
  exact z
theorem callAt (F : ExcBaseFacts B newId initId mb) (hT : ∀ Z : String, bm.contains (.type Z) = mb.contains (.type Z)) {fI : Addr} {Q : Fin → Shared → Prop}
    (hC : h.get? C = some (excClassObj nm q C N bs bm hdct sn sub ab col dd k0 k1 k2 k3 k5 newId))
    (hi : W.Looks (model prog w) h (typeLookup (.ref C) "__init__") (some (.ref fI))) (hb : ∀ self, W.Looks (model prog w) h (bindSpecial (.ref fI) self) (.ref fI, [self])) (hl : rest.length ≤ sizeLine)
    (z : codeAny (model prog w) A (.call (.ref fI) ⟨.ref (h.objs.size + 1) :: rest, kw⟩)
      (fun r s' => match r with | .ok (.ret v) => v = .none ∧ Q (.done (.ret (.ref (h.objs.size + 1)))) s' | .ok _ => False | .error e => E e s')
      ⟨(h.push (W.kdv_tup rest)).push (excO C h.objs.size), g, d, t, os⟩) :
    wpAny (model prog w) A (Builtin.«type.__call__» ⟨.ref C :: rest, kw⟩) Q E ⟨h, g, d, t, os⟩ := by
  repeat (first | with_reducible refine wpAny_madeBy_exc hC ?_ | with_reducible refine wpAny_loadPart_at hC ?_ | wp_step)
  refine codeAny_call_builtin_code (Code.quiet_builtin _ F.quiet) (chkNew F hT hC (newAt F hT hC hl ?_))
  show wpAny _ _ _ _ _ _
  have k : ∀ b o, h.get? b = some o → ((h.push (W.kdv_tup rest)).push (excO C h.objs.size)).get? b = some o := fun b o y => Heap.get?_push_of_some _ (Heap.get?_push_of_some _ y)
  have hC' := k _ _ hC
  have hg : ((h.push (W.kdv_tup rest)).push (excO C h.objs.size)).get? (h.objs.size + 1) = some (excO C h.objs.size) := by heap_get
  have cc : (Value.ref C :: bm).contains (.ref C) = true := by simp
  have i1 := hi.keeps k
  have b1 := (hb (.ref (h.objs.size + 1))).keeps k
  unfold isInstance
  repeat (first | (with_reducible refine wpAny_isSubtype_exc hC' ?_; rw [cc]) | with_reducible refine wpAny_loadPart_at hg ?_ | wp_step)
  show wpAny _ _ (typeLookup (.ref C) _) _ _ _
  refine i1.at (wpAny_holding (wpAny_bind (b1.at ?_)))
  refine wpAny_bind (wpAny_call (codeAny_mono z fun r s' y => ?_))
  rcases r with e | (v | _ | _ | _) <;> first | exact y | exact y.elim | skip
  obtain ⟨rfl, y⟩ := y
  first
    | exact wpAny_pure (wpAny_pure y)
    | (wp_walk; exact y)
theorem chkCall {M : Model} {Q : Unit → Shared → Prop} (hC : h.get? C = some (excClassObj nm q C N bs bm hdct sn sub ab col dd k0 k1 k2 k3 k5 newId))
    (z : Q () ⟨h, g, d, t, os⟩) : wpAny M A (checkBuiltinCall "type.__call__" ⟨.ref C :: rest, kw⟩) Q E ⟨h, g, d, t, os⟩ := by
  have f3 := tc_sub
  have hty : (⟨h, g, d, t, os⟩ : Shared).TypeIs (.ref C) "type" := ⟨_, hC, rfl⟩
  simp only [checkBuiltinCall, tc_kind, tc_split]
  repeat (any_goals (first | assumption | with_reducible refine wpAny_onRaise ?_ | with_reducible refine wpAny_loadPart_at hC ?_ | with_reducible refine wpAny_map ?_ | wp_step))
/-- an own exception class with its own __init__ is called, with keywords or without -/
theorem callK (F : ExcBaseFacts B newId initId mb) (hT : ∀ Z : String, bm.contains (.type Z) = mb.contains (.type Z)) {fI : Addr}
    (hC : h.get? C = some (excClassObj nm q C N bs bm hdct sn sub ab col dd k0 k1 k2 k3 k5 newId))
    (hi : W.Looks (model prog w) h (typeLookup (.ref C) "__init__") (some (.ref fI))) (hb : ∀ self, W.Looks (model prog w) h (bindSpecial (.ref fI) self) (.ref fI, [self])) (hl : rest.length ≤ sizeLine)
    (z : codeAny (model prog w) (A.under (.builtin "type.__call__" ⟨.ref C :: rest, kw⟩)) (.call (.ref fI) ⟨.ref (h.objs.size + 1) :: rest, kw⟩) (W.InitBack (h.objs.size + 1) R)
      ⟨(h.push (W.kdv_tup rest)).push (excO C h.objs.size), g, d, t, os⟩) :
    codeAny (model prog w) A (.call (.ref C) ⟨rest, kw⟩) R ⟨h, g, d, t, os⟩ := by
  have f1 := tc_lookup
  have f2 := tc_bind (.ref C)
  have hty : (⟨h, g, d, t, os⟩ : Shared).TypeIs (.ref C) "type" := ⟨_, hC, rfl⟩
  refine codeAny_of_tree ?_
  show wpAny _ _ (callAny (.ref C) _) _ _ _
  repeat (any_goals (first | assumption | with_reducible refine wpAny_loadPart_at hC ?_ | wp_step))
  refine ⟨rfl, ?_⟩
  refine codeAny_call_builtin_at (Code.quiet_builtin _ (by decide +kernel)) entry_typeCall (chkCall hC (callAt F hT hC hi hb hl ?_))
  refine codeAny_mono z fun r s' y => ?_
  rcases r with e | (v | _ | _ | _) <;> exact y
end
end Xv
end PySem
end
section
set_option maxHeartbeats 4000000
namespace L2
open PySem PySem.Spec PyProof.Rows Builtin.ObjectAttr
/-- what the written part says of an own exception class at C, so that its objects may be made, filled, read and asked -/
structure XC (K : PySem.W.Frag) (C : Addr) : Prop where
  base : ∃ B newId initId mb, ExcBaseFacts B newId initId mb ∧ StoreFacts B mb "object.__setattr__" "object" ∧ PySem.W.excInitIn K C mb newId = true ∧ PySem.W.excOver K C mb = true
  cl : (PySem.W.clsIn K C).isSome = true
  hd : PySem.W.hasDictIn K C = true
  sa : PySem.W.findIn K (.ref C) "__setattr__" = some (some (.builtin "object.__setattr__"))
  ga : PySem.W.findIn K (.ref C) "__getattribute__" = some (some (.builtin "BaseException.__getattribute__"))
  gg : PySem.W.findIn K (.ref C) "__getattr__" = some none
  ex : PySem.W.subIn K (.ref C) (.type "BaseException") = some true
  ha : PySem.W.findIn K (.ref C) "__class__" = some (some (.builtin "object.__class__"))
  hn : PySem.W.specialIn K (.builtin "object.__class__") "__get__" = some (some (.builtin "getset_descriptor.__get__"))
  ht : PySem.W.takesIn K (.builtin "object.__class__") = some true
  hm : PySem.W.mroIn K C (.type "object") = some true
  kC : PySem.W.keepIn K (.ref C) = true
def free3 (H H' : Hp) (a d : Addr) : Prop := ∀ b, b ≠ a → b ≠ d → H' b = H b
section
variable {X : Cx} {pins : List (Addr × Obj)} {σ : St} {H : Hp} {s : Shared} {a C dx : Addr} {f : Str} {y : V} {u : Value} {fs : List (Str × V)} {Q : Unit → Shared → Prop} {E : Value → Shared → Prop} {A : Around}
theorem taker_none {K : PySem.W.Frag} (h : PySem.W.findIn K (.ref C) f = some none) : PySem.W.takerIn K C f = some none := by
  unfold PySem.W.takerIn
  rw [h]
  rfl
theorem xst_new (T : XC X.K C) (I : Inv X pins σ H s) (e : H a = some (exo a C none)) (hno : PySem.W.findIn X.K (.ref C) f = some none) (ry : RelV y u)
    (h : ∀ d s' H', d ≠ a → H d = none → H' a = some (exo a C (some d)) → H' d = some (exd d [(f, y)]) → free3 H H' a d → Inv X pins σ H' s' → Q () s') : wpAny (model X.prog X.w) A (setAttr (.ref a) f u) Q E s := by
  obtain ⟨B, nid, iid, mb, FB, SF, q1, q2⟩ := T.base
  obtain ⟨t1, ho⟩ := exo_at I.hok e
  obtain ⟨cd, hc, hd'⟩ := PySem.W.any_some T.hd
  obtain ⟨hp, g, dr, t, os⟩ := s
  refine PySem.W.set_plain I.kIn (od := none) ⟨ho, rfl, rfl, trivial⟩ T.sa (PySem.W.osa_openX (od := none) SF I.kIn ⟨ho, rfl, rfl, trivial⟩ q2 (taker_none hno) fun b => ?_)
  have na : a ≠ hp.objs.size := Nat.ne_of_lt (Heap.lt_size ho)
  refine wpAny_bind (wpAny_pure (wpAny_bind (PySem.W.instanceDict_exc (c2 := .none) (t := t1) ho (PySem.W.looks_clsIn I.kIn hc) hd' ?_)))
  have hfr : H hp.objs.size = none := I.hok.fresh (Nat.le_refl _)
  have hget : (hp.push (PySem.W.dictOf [] 0)).get? hp.objs.size = some (PySem.W.dictOf [] 0) := Heap.get?_push_size _ rfl
  have en : (hp.push (PySem.W.dictOf [] 0)).Ns1 hp.objs.size (fun _ => none) := Heap.Ns1.of_empty ⟨_, #[], _, hget, rfl, fun e he => absurd he (by simp), fun _ => rfl⟩
  have I1 : Inv X pins σ (upd H hp.objs.size (exd hp.objs.size [])) ⟨hp.push (PySem.W.dictOf [] 0), g, dr, t, os⟩ := I.laid (a := hp.objs.size) (o := exd hp.objs.size []) (h' := hp.push (PySem.W.dictOf [] 0)) (t' := t) (fun b o z => Heap.get?_push_of_some _ z) (Nat.le_refl _) (exd_ok en fun _ => True.intro)
  have hxa : ((hp.push (PySem.W.dictOf [] 0)).update a fun o => { o with dict := some hp.objs.size }).get? a = some ({ cls := .ref C, dict := some hp.objs.size, data := .fields #[.ref t1, .none, .none, .none, .bool false, .none] } : Obj) :=
    Heap.get?_update_self _ (Heap.get?_push_of_some _ ho) rfl
  have I2 : Inv X pins σ (upd (upd H hp.objs.size (exd hp.objs.size [])) a (exo a C (some hp.objs.size))) ⟨(hp.push (PySem.W.dictOf [] 0)).update a fun o => { o with dict := some hp.objs.size }, g, dr, t, os⟩ :=
    I1.write (x := a) (e := a) (o := exo a C (some hp.objs.size)) (t' := t) (h' := (hp.push (PySem.W.dictOf [] 0)).update a fun o => { o with dict := some hp.objs.size }) (by rw [upd_ne na, e]; exact True.intro) (.inl rfl)
      (fun b o hb z => (Heap.get?_update_ne _ _ _ _ hb).trans z) ⟨_, hxa⟩ (exo_ok hxa)
  have ed : (upd (upd H hp.objs.size (exd hp.objs.size [])) a (exo a C (some hp.objs.size))) hp.objs.size = some (exd hp.objs.size []) := by rw [upd_ne (Ne.symm na), upd_same]
  obtain ⟨mA, hns, rel⟩ := exd_at I2.hok ed
  show wpAny _ _ (storeInDict hp.objs.size (.str f _) f u) _ _ _
  refine PySem.OEX.store_in_old hns (within_of rel) (by simp) fun h' tk' hn' hs => ?_
  have I3 := I2.write (x := hp.objs.size) (e := hp.objs.size) (o := exd hp.objs.size [(f, y)]) (t' := tk') (h' := h') (by rw [ed]; exact True.intro) (.inl rfl) (fun b o hb z => (hs.2 b hb).trans z)
    (by obtain ⟨o, _, _, z, _⟩ := hn'; exact ⟨o, z⟩) (exd_ok hn' (relO_put ry rel))
  exact h hp.objs.size _ _ (Ne.symm na) hfr (by rw [upd_ne na, upd_same]) upd_same (fun b h1 h2 => by rw [upd_ne h2, upd_ne h1, upd_ne h2]) I3
theorem xst_old (T : XC X.K C) (I : Inv X pins σ H s) (e : H a = some (exo a C (some dx))) (ed : H dx = some (exd dx fs)) (hl : fs.length ≤ 900) (hno : PySem.W.findIn X.K (.ref C) f = some none) (ry : RelV y u)
    (h : ∀ s', Inv X pins σ (upd H dx (exd dx ((f, y) :: fs))) s' → Q () s') : wpAny (model X.prog X.w) A (setAttr (.ref a) f u) Q E s := by
  obtain ⟨B, nid, iid, mb, FB, SF, q1, q2⟩ := T.base
  obtain ⟨t1, ho⟩ := exo_at I.hok e
  obtain ⟨mA, hns, rel⟩ := exd_at I.hok ed
  have hw := within_of rel
  obtain ⟨cd, hc, hd'⟩ := PySem.W.any_some T.hd
  obtain ⟨hp, g, dr, t, os⟩ := s
  obtain ⟨oD, esD, epD, hoD, hdD, _⟩ := hns.count hw
  refine PySem.W.set_plain I.kIn (od := some oD) ⟨ho, rfl, rfl, hoD⟩ T.sa (PySem.W.osa_openX (od := some oD) SF I.kIn ⟨ho, rfl, rfl, hoD⟩ q2 (taker_none hno) fun b => ?_)
  refine wpAny_bind (wpAny_pure (wpAny_bind (wpAny_bind (wpAny_loadPart ho (wpAny_bind (PySem.W.Looks.at (M := model X.prog X.w) (PySem.W.looks_clsIn I.kIn hc) ?_))))))
  rw [hd']
  refine wpAny_pure (a := some dx) ?_
  show wpAny _ _ (storeInDict dx (.str f _) f u) _ _ _
  refine PySem.OEX.store_in_old hns hw (by rw [List.length_map]; omega) fun h' tk' hn' hs => ?_
  exact h _ (I.write (x := dx) (e := dx) (o := exd dx ((f, y) :: fs)) (t' := tk') (h' := h') (by rw [ed]; exact True.intro) (.inl rfl) (fun b o hb z => (hs.2 b hb).trans z)
    (by obtain ⟨o, _, _, z, _⟩ := hn'; exact ⟨o, z⟩) (exd_ok hn' (relO_put ry rel)))
end
end L2
namespace L2
open PySem PySem.Spec PyProof.Rows Builtin.ObjectAttr
/-- self.f = e, self an exception that is being made -/
def tXst (K : PySem.W.Frag) (f : Str) (to te : TE) : TS := fun D σ H => te σ H fun y H1 => to σ H1 fun x H2 => ∃ a C : Addr, x = .ref a ∧ XC K C ∧ PySem.W.findIn K (.ref C) f = some none ∧
  ((H2 a = some (exo a C none) ∧ ∀ d H3, d ≠ a → H2 d = none → H3 a = some (exo a C (some d)) → H3 d = some (exd d [(f, y)]) → free3 H2 H3 a d → D.nx σ H3) ∨
    ∃ (d : Addr) (fs : List (Str × V)), H2 a = some (exo a C (some d)) ∧ H2 d = some (exd d fs) ∧ fs.length ≤ 900 ∧ D.nx σ (upd H2 d (exd d ((f, y) :: fs))))
section
variable {X : Cx} {o e : Expr} {to te : TE} {f : Str} {p' pos : Pos}
theorem ps_xst (ho : PE X o to) (he : PE X e te) (hs : swapsWith e (some (.Attribute o f p')) pos.line X.env = pure false := by rfl) : PS X (.Assign [.Attribute o f p'] e pos) (tXst X.K f to te) := by
  refine ⟨fun pins s σ H D I h => ?_⟩
  refine plainObj_wpAny_Assign_Attribute (thn (he.run pins s σ H _ I h) fun v s1 hv => ?_) hs
  obtain ⟨y, H1, I1, r1, q1⟩ := hv
  refine thn (ho.run pins s1 σ H1 _ I1 q1) fun u s2 hu => ?_
  obtain ⟨x, H2, I2, r2, a, C, ex, T, hno, q⟩ := hu
  subst ex
  obtain rfl : u = Value.ref a := r2
  rcases q with ⟨ea, q⟩ | ⟨d, fs, ea, ed, hl, q⟩
  · exact xst_new T I2 ea hno r1 fun d s' H' n1 n2 z1 z2 z3 J => ⟨σ, H', J, q d H' n1 n2 z1 z2 z3⟩
  · exact xst_old T I2 ea ed hl hno r1 fun s' J => ⟨σ, _, J, q⟩
end
/-- C(e, .., k = v, ..) as a value; sp is what C's own __init__ promises -/
def tXmk (C : Addr) (n m : Nat) (sp : Sp) (gV : List V → List V → List V) (t tk : TA) : TE := fun σ H Q => t σ H fun vs H1 => tk σ H1 fun zs H2 => vs.length = n ∧ zs.length = m ∧
  ∀ a, H2 a = none → sp (gV (.ref a :: vs) zs) (upd H2 a (exo a C none)) (fun v H3 => v = .non ∧ Q (.ref a) H3) (fun _ _ _ => False)
section
variable {X : Cx} {CX : CXT} {k n : Nat} {C fI : Addr} {fd : FuncData} {ps ks : List Str} {sp : Sp} {x : Str} {p pos : Pos} {e : Expr} {es : List Expr} {kws : List Keyword} {t tk : TA} {g : List Value → List Value → List Value} {gV : List V → List V → List V}
theorem run_xmk {pins : List (Addr × Obj)} {σ : St} {H : Hp} {s : Shared} {Q : VK} {us ws : List Value} {vs zs : List V} (T : XC X.K C) (iC : PySem.W.findIn X.K (.ref C) "__init__" = some (some (.ref fI))) (tI : PySem.W.isFn X.K (.ref fI) = true)
    (F : FnOk X.prog X.w X.K X.mg X.base CX k fI fd ps sp) (hr : Room (k + 1) X.A) (hb : KBn X.K fd ps (n + 1) ks g gV) (hx : Passes CX X (fun _ _ _ => False)) (I : Inv X pins σ H s) (r : Vals vs us) (rz : Vals zs ws) (l1 : vs.length = n) (l2 : zs.length = ks.length) (l3 : n ≤ 1000)
    (h : ∀ a, H a = none → sp (gV (.ref a :: vs) zs) (upd H a (exo a C none)) (fun v H3 => v = .non ∧ Q (.ref a) H3) (fun _ _ _ => False)) :
    wpAny (model X.prog X.w) X.A (call (.ref C) us (ks.zip ws)) (EP X pins σ Q) X.xe s := by
  obtain ⟨B, nid, iid, mb, FB, SF, q1, q2⟩ := T.base
  obtain ⟨nm, N, qn, bs, bm, hdct, sn, sub, ab, col, dd, k0, k1, k2, k3, k5, hC, hT⟩ := PySem.W.excInit_of I.kIn q1
  obtain ⟨oI, hoI, hcI⟩ : ∃ oI, s.heap.get? fI = some oI ∧ oI.cls = .type "function" := by
    obtain ⟨o, ho, hc⟩ := Option.map_eq_some_iff.mp (show (X.K.lookup fI).map (·.cls) = some (.type "function") from beq_iff_eq.mp tI)
    exact ⟨o, I.kIn _ _ ho, hc⟩
  obtain ⟨hp, gn, dr, tc, os⟩ := s
  have hsz : hp.objs.size ≤ hp.objs.size + 1 := Nat.le_succ _
  have hn : H (hp.objs.size + 1) = none := I.hok.fresh hsz
  have hq := h (hp.objs.size + 1) hn
  have kk : ∀ b o, hp.get? b = some o → ((hp.push (PySem.W.kdv_tup us)).push (PySem.HandSPX.excO C hp.objs.size)).get? b = some o := fun b o z => Heap.get?_push_of_some _ (Heap.get?_push_of_some _ z)
  have hget : ((hp.push (PySem.W.kdv_tup us)).push (PySem.HandSPX.excO C hp.objs.size)).get? (hp.objs.size + 1) = some (PySem.HandSPX.excO C hp.objs.size) := by heap_get
  have I2 : Inv X pins σ (upd H (hp.objs.size + 1) (exo (hp.objs.size + 1) C none)) ⟨(hp.push (PySem.W.kdv_tup us)).push (PySem.HandSPX.excO C hp.objs.size), gn, dr, tc, os⟩ :=
    I.laid (t' := tc) (a := hp.objs.size + 1) (o := exo (hp.objs.size + 1) C none) (h' := (hp.push (PySem.W.kdv_tup us)).push (PySem.HandSPX.excO C hp.objs.size)) kk hsz (exo_ok hget)
  have r1 : Vals (V.ref (hp.objs.size + 1) :: vs) (Value.ref (hp.objs.size + 1) :: us) := .cons rfl r
  have e1 : (Value.ref (hp.objs.size + 1) :: us).length = n + 1 := r1.length.symm.trans (congrArg Nat.succ l1)
  have e2 : ws.length = ks.length := rz.length.symm.trans l2
  have hus : us.length ≤ sizeLine := by
    rw [← r.length, sizeLine_eq]
    omega
  refine wpAny_call (PySem.Xv.callK FB hT hC (PySem.W.looks_findIn I.kIn iC) (fun self => PySem.W.exc_bind hoI hcI self) hus
    (codeAny_mono (F.run _ X.stack _ _ ⟨Value.ref (hp.objs.size + 1) :: us, ks.zip ws⟩ (g (Value.ref (hp.objs.size + 1) :: us) ws) _ _ (fun _ _ _ => False) (hr.make C us (ks.zip ws)) (I2.env0.make C us (ks.zip ws)) (hb.to _ (Value.ref (hp.objs.size + 1) :: us) ws I2.kIn e1 e2) (hb.rel r1 rz) hq) fun r s' hq' => ?_))
  cases r with
  | error er => exact hx pins σ _ _ er s' I2 hq'
  | ok fl =>
    cases fl with
    | ret u =>
      obtain ⟨v, H', I3, rv, ev, q3⟩ := I2.after hq'
      subst ev
      exact ⟨rv, V.ref (hp.objs.size + 1), H', I3, rfl, q3⟩
    | next => exact hq'.elim
    | brk => exact hq'.elim
    | cont => exact hq'.elim
/-- positional values (one or more), keywords -/
theorem pe_xmk (T : XC X.K C) (iC : PySem.W.findIn X.K (.ref C) "__init__" = some (some (.ref fI))) (tI : PySem.W.isFn X.K (.ref fI) = true) (F : FnOk X.prog X.w X.K X.mg X.base CX k fI fd ps sp) (hr : Room (k + 1) X.A) (hg : Gl X x) (hm : X.mg x = some (.ref C)) (hb : KBn X.K fd ps (n + 1) ks g gV) (hx : Passes CX X (fun _ _ _ => False)) (l3 : n ≤ 1000)
    (ha : PA X (e :: es) t) (hkw : PK X kws tk) (hall : (backToKw pos (keywordEach kws X.env)).all (·.1.isSome) = true := by rfl) (hks : (backToKw pos (keywordEach kws X.env)).filterMap (·.1) = ks := by rfl)
    (hdb : (x == ("__debug__" : Str)) = false := by decide) (he : starEach (e :: es) X.env = (false, eval e X.env) :: starEach es X.env := by rfl)
    (hpl : ((backTo pos (starEach (e :: es) X.env)).any (·.1) || (backToKw pos (keywordEach kws X.env)).any (·.1.isNone)) = false := by rfl) :
    PE X (.Call (.Name x p) (e :: es) kws pos) (tXmk C n ks.length sp gV t tk) := by
  refine ⟨fun pins s σ H Q I h => wpAny_Call_Name_kw (ld_glob I hg hm ?_ hdb)⟩
  refine PySem.W.callWith_KW (h₀ := X.base) I.ok.mod.kin T.kC hall (thn (ha.run pos pins s σ H _ I h) fun us s1 hu => ?_) hpl he
  obtain ⟨vs, H1, I1, r, q⟩ := hu
  refine thn (hkw.run pos pins s1 σ H1 _ I1 q) fun ws s2 hw => ?_
  obtain ⟨zs, H2, I2, rz, l1, l2, q2⟩ := hw
  refine ⟨I2.kIn, ?_⟩
  rw [hks]
  exact run_xmk T iC tI F hr hb hx I2 r rz l1 l2 l3 q2
/-- keywords alone -/
theorem pe_xmkK (T : XC X.K C) (iC : PySem.W.findIn X.K (.ref C) "__init__" = some (some (.ref fI))) (tI : PySem.W.isFn X.K (.ref fI) = true) (F : FnOk X.prog X.w X.K X.mg X.base CX k fI fd ps sp) (hr : Room (k + 1) X.A) (hg : Gl X x) (hm : X.mg x = some (.ref C)) (hb : KBn X.K fd ps 1 ks g gV) (hx : Passes CX X (fun _ _ _ => False))
    (hkw : PK X kws tk) (hall : (backToKw pos (keywordEach kws X.env)).all (·.1.isSome) = true := by rfl) (hks : (backToKw pos (keywordEach kws X.env)).filterMap (·.1) = ks := by rfl)
    (hdb : (x == ("__debug__" : Str)) = false := by decide) (hpl : ((backTo pos (starEach [] X.env)).any (·.1) || (backToKw pos (keywordEach kws X.env)).any (·.1.isNone)) = false := by rfl) :
    PE X (.Call (.Name x p) [] kws pos) (tXmk C 0 ks.length sp gV tNil tk) := by
  refine ⟨fun pins s σ H Q I h => wpAny_Call_Name_kw (ld_glob I hg hm ?_ hdb)⟩
  refine PySem.W.callWith_KW0 (h₀ := X.base) I.ok.mod.kin T.kC hall ?_ hpl
  refine thn (hkw.run pos pins s σ H _ I h) fun ws s2 hw => ?_
  obtain ⟨zs, H2, I2, rz, l1, l2, q2⟩ := hw
  refine ⟨I2.kIn, ?_⟩
  rw [hks]
  exact run_xmk (us := []) T iC tI F hr hb hx I2 .nil rz rfl l2 (by decide) q2
/-- one value or more, no keyword -/
theorem pe_xmkP (T : XC X.K C) (iC : PySem.W.findIn X.K (.ref C) "__init__" = some (some (.ref fI))) (tI : PySem.W.isFn X.K (.ref fI) = true) (F : FnOk X.prog X.w X.K X.mg X.base CX k fI fd ps sp) (hr : Room (k + 1) X.A) (hg : Gl X x) (hm : X.mg x = some (.ref C)) (hb : KBn X.K fd ps (n + 1) [] g gV) (hx : Passes CX X (fun _ _ _ => False)) (l3 : n ≤ 1000)
    (ha : PA X (e :: es) t) (hdb : (x == ("__debug__" : Str)) = false := by decide) (he : starEach (e :: es) X.env = (false, eval e X.env) :: starEach es X.env := by rfl) (hpl : (backTo pos (starEach es X.env)).any (·.1) = false := by rfl) :
    PE X (.Call (.Name x p) (e :: es) [] pos) (tXmk C n 0 sp gV t tNil) := by
  refine ⟨fun pins s σ H Q I h => wpAny_Call_Name_kw (ld_glob I hg hm ?_ hdb)⟩
  refine PySem.W.callWith_K (h₀ := X.base) I.ok.mod.kin T.kC (thn (ha.run pos pins s σ H _ I h) fun us s1 hu => ?_) he hpl
  obtain ⟨vs, H1, I1, r, l1, l2, q2⟩ := hu
  exact ⟨I1.kIn, run_xmk (ws := []) (zs := []) T iC tI F hr hb hx I1 r .nil l1 rfl l3 q2⟩
/-- no value -/
theorem pe_xmk0 (T : XC X.K C) (iC : PySem.W.findIn X.K (.ref C) "__init__" = some (some (.ref fI))) (tI : PySem.W.isFn X.K (.ref fI) = true) (F : FnOk X.prog X.w X.K X.mg X.base CX k fI fd ps sp) (hr : Room (k + 1) X.A) (hg : Gl X x) (hm : X.mg x = some (.ref C)) (hb : KBn X.K fd ps 1 [] g gV) (hx : Passes CX X (fun _ _ _ => False))
    (hdb : (x == ("__debug__" : Str)) = false := by decide) : PE X (.Call (.Name x p) [] [] pos) (tXmk C 0 0 sp gV tNil tNil) := by
  refine ⟨fun pins s σ H Q I h => wpAny_Call_Name_kw (ld_glob I hg hm ?_ hdb)⟩
  obtain ⟨_, _, q2⟩ := h
  exact PySem.W.callWith_K0 I.kIn T.kC (run_xmk (us := []) (ws := []) (zs := []) T iC tI F hr hb hx I .nil .nil rfl rfl (by decide) q2)
end
/-- e.f, e such an exception -/
def tXat (K : PySem.W.Frag) (f : Str) (te : TE) : TE := fun σ H Q => te σ H fun x H1 => ∃ (a C d : Addr) (fs : List (Str × V)) (v : V), x = .ref a ∧ XC K C ∧ PySem.W.findIn K (.ref C) f = some none ∧ H1 a = some (exo a C (some d)) ∧ H1 d = some (exd d fs) ∧ fs.lookup f = some v ∧ Q v H1
theorem inst_exo {X : Cx} {pins : List (Addr × Obj)} {σ : St} {H : Hp} {s : Shared} {a C d : Addr} {fs : List (Str × V)} (I : Inv X pins σ H s) (ea : H a = some (exo a C (some d))) (ed : H d = some (exd d fs)) :
    ∃ (ox od : Obj) (mA : Str → Option Value), PySem.W.InstAt s.heap a ox C (some od) ∧ (∀ f, RelO (fs.lookup f) (mA f)) ∧ ∀ f, PySem.W.lookIn f od = some (mA f) := by
  obtain ⟨t1, ho⟩ := exo_at I.hok ea
  obtain ⟨mA, hns, hr⟩ := exd_at I.hok ed
  obtain ⟨od, hod, hl⟩ := lookIn_ns hns
  exact ⟨_, od, mA, ⟨ho, rfl, rfl, hod⟩, hr, hl⟩
theorem pe_xat {X : Cx} {e : Expr} {te : TE} {pos : Pos} {f : Str} (he : PE X e te) (hb : attributeBase e f X.env (eval e X.env) = eval e X.env := by rfl) : PE X (.Attribute e f pos) (tXat X.K f te) := by
  refine ⟨fun pins s σ H Q I h => attr_of hb (thn (he.run pins s σ H _ I h) fun u s1 hh => ?_)⟩
  obtain ⟨x, H1, I1, rx, a, C, d, fs, v, ex, T, hno, ea, ed, l, q⟩ := hh
  subst ex
  obtain rfl : u = Value.ref a := rx
  obtain ⟨ox, od, mA, J, hr, hl⟩ := inst_exo I1 ea ed
  obtain ⟨u, hu, ru⟩ := RelO.some_of (v := v) (o := mA f) (by rw [← l]; exact hr f)
  exact HandSPX.exc_get I1.kIn J T.ga T.gg T.ex (PySem.W.findObj_own T.hd hno rfl (by rw [hl, hu])) (handed_of ru) ⟨v, H1, I1.tok _, ru, q⟩
/-- isinstance(e, c), e such an exception -/
def rXis (K : PySem.W.Frag) : List V → Hp → VK → Prop := fun xs H Q => ∃ (a C d : Addr) (fs : List (Str × V)) (c : V) (cv : Value) (b : Bool), xs = [.ref a, c] ∧ XC K C ∧ H a = some (exo a C (some d)) ∧ H d = some (exd d fs) ∧ ClsV c cv ∧ PySem.W.kitOne K (.ref C) cv = some b ∧ Q (.bl b) H
theorem call_xis {X : Cx} : CallR X (.builtin "isinstance") (rXis X.K) := by
  intro pins s σ H xs us Q I r h
  obtain ⟨a, C, d, fs, c, cv, b, rfl, T, ea, ed, hc, e, q⟩ := h
  obtain ⟨u1, u2, rfl, r1, r2⟩ := vals2 r
  obtain rfl := hc.eq r2
  obtain rfl : u1 = Value.ref a := r1
  obtain ⟨ox, od, mA, J, _, _⟩ := inst_exo I ea ed
  exact PySem.W.kia_one (PySem.W.kitx_exc T.cl T.ga T.gg T.ex T.ha T.hn T.ht T.hm) I.kIn J e (fun z => nomatch z) fun tk => ⟨.bl b, H, I.tok tk, rfl, q⟩
end L2
end
section
set_option maxHeartbeats 4000000
namespace L2
open PySem PySem.Spec PyProof.Rows Builtin.ObjectAttr
section
variable {X : Cx} {CX : CXT} {k : Nat} {C fI : Addr} {fd : FuncData} {ps : List Str} {sp : Sp} {x : Str} {p pos : Pos} {e : Expr} {es : List Expr} {ta : TA}
/-- raise C(..), C an own exception class with its own __init__, over any built-in base -/
theorem run_pmk {pins : List (Addr × Obj)} {σ : St} {H1 : Hp} {s1 : Shared} {Q : XK} {us : List Value} {vs : List V} (T : XC X.K C) (tyC : PySem.W.typeIn X.K (.ref C) = some (.type "type")) (iC : PySem.W.findIn X.K (.ref C) "__init__" = some (some (.ref fI))) (tI : PySem.W.isFn X.K (.ref fI) = true)
    (F1 : FnOk X.prog X.w X.K X.mg X.base CX k fI fd ps sp) (hr : Room (k + 1) X.A) (hb : Binds X.K fd ps []) (hx : Passes CX X (fun _ _ _ => False)) (I1 : Inv X pins σ H1 s1) (r1 : Vals vs us) (hz : vs.length ≤ 1000)
    (q1 : ∀ a, H1 a = none → sp (.ref a :: vs) (upd H1 a (exo a C none)) (fun v H2 => v = .non ∧ ∃ (d : Addr) (fs : List (Str × V)), H2 a = some (exo a C (some d)) ∧ H2 d = some (exd d fs) ∧ H1 d = none ∧ Q (.ref C) (some d) (upd (del H2 a) d (.xd fs))) (fun _ _ _ => False)) :
    wpAny (model X.prog X.w) X.A (call (.ref C) us []) (MkP X pins σ Q) X.xe s1 := by
  obtain ⟨B, nid, iid, mb, FB, SF, qa, qb⟩ := T.base
  obtain ⟨nm, N, qn, bs, bm, hdct, sn, sub, ab, col, dd, k0, k1, k2, k3, k5, hC, hT⟩ := PySem.W.excInit_of I1.kIn qa
  obtain ⟨oI, hoI, hcI⟩ : ∃ oI, s1.heap.get? fI = some oI ∧ oI.cls = .type "function" := by
    obtain ⟨o, ho, hc⟩ := Option.map_eq_some_iff.mp (show (X.K.lookup fI).map (·.cls) = some (.type "function") from beq_iff_eq.mp tI)
    exact ⟨o, I1.kIn _ _ ho, hc⟩
  obtain ⟨hp, g, dr, tk, os⟩ := s1
  have hsz : hp.objs.size ≤ hp.objs.size + 1 := Nat.le_succ _
  have hn : H1 (hp.objs.size + 1) = none := I1.hok.fresh hsz
  have hq := q1 (hp.objs.size + 1) hn
  have kk : ∀ b o, hp.get? b = some o → ((hp.push (PySem.W.kdv_tup us)).push (PySem.HandSPX.excO C hp.objs.size)).get? b = some o := fun b o z => Heap.get?_push_of_some _ (Heap.get?_push_of_some _ z)
  have hget : ((hp.push (PySem.W.kdv_tup us)).push (PySem.HandSPX.excO C hp.objs.size)).get? (hp.objs.size + 1) = some (PySem.HandSPX.excO C hp.objs.size) := by heap_get
  have I2 : Inv X pins σ (upd H1 (hp.objs.size + 1) (exo (hp.objs.size + 1) C none)) ⟨(hp.push (PySem.W.kdv_tup us)).push (PySem.HandSPX.excO C hp.objs.size), g, dr, tk, os⟩ :=
    I1.laid (t' := tk) (a := hp.objs.size + 1) (o := exo (hp.objs.size + 1) C none) (h' := (hp.push (PySem.W.kdv_tup us)).push (PySem.HandSPX.excO C hp.objs.size)) kk hsz (exo_ok hget)
  have r2 : Vals (V.ref (hp.objs.size + 1) :: vs) (Value.ref (hp.objs.size + 1) :: us) := .cons rfl r1
  have hl : (Value.ref (hp.objs.size + 1) :: us).length = ps.length := by
    have z := r2.length
    rw [F1.len _ _ _ _ hq] at z
    exact z.symm
  have hus : us.length ≤ sizeLine := by
    rw [← Paired.length r1, sizeLine_eq]
    omega
  have hb2 := hb ⟨(hp.push (PySem.W.kdv_tup us)).push (PySem.HandSPX.excO C hp.objs.size), g, dr, tk, os⟩ (Value.ref (hp.objs.size + 1) :: us) I2.kIn (by rw [List.append_nil]; exact hl)
  rw [List.append_nil] at hb2
  refine wpAny_call (PySem.Xv.callK (kw := []) FB hT hC (PySem.W.looks_findIn I1.kIn iC) (fun self => PySem.W.exc_bind hoI hcI self) hus
    (codeAny_mono (F1.run _ X.stack _ _ ⟨Value.ref (hp.objs.size + 1) :: us, []⟩ (Value.ref (hp.objs.size + 1) :: us) _ _ (fun _ _ _ => False) (hr.make C us []) (I2.env0.make C us []) hb2 r2 hq) fun r s' hq' => ?_))
  cases r with
  | error er => exact hx pins σ _ _ er s' I2 hq'
  | ok fl =>
    cases fl with
    | ret u =>
      obtain ⟨v, H2, os2, bare2, un2, hok2, rv, ev, d, fs, ea, ed, hd1, q2⟩ := hq'
      subst ev
      obtain ⟨h2, g2, d2, t2, os'⟩ := s'
      exact ⟨rv, mk_end (raises_own T.ex tyC) I1 hsz kk un2 hok2 os2 bare2 ea ed hd1 q2⟩
    | next => exact False.elim hq'
    | brk => exact False.elim hq'
    | cont => exact False.elim hq'
theorem pmk_xo (T : XC X.K C) (tyC : PySem.W.typeIn X.K (.ref C) = some (.type "type")) (iC : PySem.W.findIn X.K (.ref C) "__init__" = some (some (.ref fI))) (tI : PySem.W.isFn X.K (.ref fI) = true)
    (F1 : FnOk X.prog X.w X.K X.mg X.base CX k fI fd ps sp) (hr : Room (k + 1) X.A) (hb : Binds X.K fd ps []) (hx : Passes CX X (fun _ _ _ => False)) (hg : Gl X x) (hm : X.mg x = some (.ref C)) (ha : PA X (e :: es) ta)
    (hdb : (x == ("__debug__" : Str)) = false := by decide) (he : starEach (e :: es) X.env = (false, eval e X.env) :: starEach es X.env := by rfl) (hpl : (backTo pos (starEach es X.env)).any (·.1) = false := by rfl) :
    PMk X (.Call (.Name x p) (e :: es) [] pos) (tMkO C sp [] ta) := by
  intro pins s σ H Q I h
  refine wpAny_Call_Name_kw (ld_glob I hg hm ?_ hdb)
  refine PySem.W.callWith_K (h₀ := X.base) I.ok.mod.kin T.kC (thn (ha.run pos pins s σ H _ I h) fun us s1 ⟨vs, H1, I1, r1, hz, q1⟩ => ⟨I1.kIn, ?_⟩) he hpl
  exact run_pmk T tyC iC tI F1 hr hb hx I1 r1 hz (fun a na => by have z := q1 a na; rwa [List.append_nil] at z)
theorem pmk_xo0 (T : XC X.K C) (tyC : PySem.W.typeIn X.K (.ref C) = some (.type "type")) (iC : PySem.W.findIn X.K (.ref C) "__init__" = some (some (.ref fI))) (tI : PySem.W.isFn X.K (.ref fI) = true)
    (F1 : FnOk X.prog X.w X.K X.mg X.base CX k fI fd ps sp) (hr : Room (k + 1) X.A) (hb : Binds X.K fd ps []) (hx : Passes CX X (fun _ _ _ => False)) (hg : Gl X x) (hm : X.mg x = some (.ref C))
    (hdb : (x == ("__debug__" : Str)) = false := by decide) : PMk X (.Call (.Name x p) [] [] pos) (tMkO C sp [] tNil) := by
  intro pins s σ H Q I h
  refine wpAny_Call_Name_kw (ld_glob I hg hm ?_ hdb)
  obtain ⟨_, q1⟩ := h
  exact PySem.W.callWith_K0 I.kIn T.kC (run_pmk (us := []) (vs := []) T tyC iC tI F1 hr hb hx I .nil (by decide) q1)
end
end L2
end
section
set_option maxHeartbeats 4000000
namespace L2
open PySem PySem.Spec PyProof.Rows
/-! ### the caught exception, read where it is pinned -/
section
variable {X : Cx} {a C : Addr} {oe : Obj} {cls : Value} {d : Option Addr} {e : Expr} {te : TE} {pos : Pos} {n : Str}
theorem pe_xfP (hp : (a, oe) ∈ X.pn) (T : XC X.K C) (hno : PySem.W.findIn X.K (.ref C) n = some none) (hz : Zc cls d oe) (hf : ∃ vs, oe.data = .fields vs) (he : PE X e te) (hb : attributeBase e n X.env (eval e X.env) = eval e X.env := by rfl) :
    PE X (.Attribute e n pos) (tXf a cls d C n te) := by
  refine ⟨fun pins s σ H Q I h => ?_⟩
  refine attr_of hb (thn (he.run pins s σ H _ I h) fun u s1 hh => ?_)
  obtain ⟨x, H1, I1, rx, ex, ec, dd, fs, v, ed, ea, l, q⟩ := hh
  subst ex
  obtain rfl : u = Value.ref a := rx
  subst ec
  subst ed
  obtain ⟨ha, _⟩ := I1.pin (a, oe) (List.mem_append_left _ hp)
  obtain ⟨vs, hd⟩ := hf
  have hx : ObjOk X.prog X.w H1 s1.heap dd (.xd fs) := I1.hok dd _ ea
  obtain ⟨mA, hns, hr⟩ := hx
  obtain ⟨od, ho, hl⟩ := lookIn_ns hns
  obtain ⟨u, hu, ru⟩ := RelO.some_of (v := v) (o := mA n) (by rw [← l]; exact hr n)
  have J : PySem.W.InstAt s1.heap a oe C (some od) := ⟨ha, hz.1, by unfold PySem.W.notCls; rw [hd] <;> rfl, by rw [hz.2]; exact ho⟩
  exact HandSPX.exc_get I1.kIn J T.ga T.gg T.ex (PySem.W.findObj_own T.hd hno rfl (by rw [hl, hu])) (handed_of ru) ⟨v, H1, I1.tok _, ru, q⟩
/-- isinstance(e, c), e the exception pinned at a, with its dict -/
def rIsP (K : PySem.W.Frag) (D a dd : Addr) : List V → Hp → VK → Prop := fun xs H Q => ∃ (c : V) (cv : Value) (b : Bool) (fs : List (Str × V)), xs = [.ref a, c] ∧ H dd = some (.xd fs) ∧ (∀ u, RelV c u → u = cv) ∧ PySem.W.kitOne K (.ref D) cv = some b ∧ Q (.bl b) H
theorem call_isP {D dd : Addr} (hp : (a, oe) ∈ X.pn) (T : XC X.K D) (hz : Zc (.ref D) (some dd) oe) (hf : ∃ vs, oe.data = .fields vs) : CallR X (.builtin "isinstance") (rIsP X.K D a dd) := by
  intro pins s σ H xs us Q I r h
  obtain ⟨c, cv, b, fs, rfl, ea, hcv, e, q⟩ := h
  cases r with
  | cons rx rr =>
    cases rr with
    | cons rt rr =>
      cases rr
      cases rx
      have ec := hcv _ rt
      subst ec
      obtain ⟨hget, _⟩ := I.pin (a, oe) (List.mem_append.mpr (.inl hp))
      obtain ⟨vs, hv⟩ := hf
      have hx : ObjOk X.prog X.w H s.heap dd (.xd fs) := I.hok dd _ ea
      obtain ⟨mA, hns, hr⟩ := hx
      obtain ⟨od, ho, hl⟩ := lookIn_ns hns
      have J : PySem.W.InstAt s.heap a oe D (some od) := ⟨hget, hz.1, by unfold PySem.W.notCls; rw [hv] <;> rfl, by rw [hz.2]; exact ho⟩
      exact PySem.W.kia_one (PySem.W.kitx_exc T.cl T.ga T.gg T.ex T.ha T.hn T.ht T.hm) I.kIn J e (fun z => nomatch z) fun tk => ⟨.bl b, H, I.tok tk, rfl, q⟩
end
/-! ### a def that is handed the caught exception, called in the suite -/
structure FnP (P : Program) (w : World) (K : PySem.W.Frag) (mg : Str → Option Value) (base : Heap) (CX : CXT) (k : Nat) (f : Addr) (fd : FuncData) (ps : List Str) (sp : Addr → Value → Option Addr → Sp) : Prop where
  len : ∀ a cls d vs H Q E, sp a cls d vs H Q E → vs.length = ps.length
  run : ∀ (A : Around) (outer : List Env) (s : Shared) (H : Hp) (args : Args) (us : List Value) (vs : List V) (Q : VK) (E : XK) (a : Addr) (oe : Obj) (cls : Value) (d : Option Addr), L2H.RoomH k A → Zc cls d oe → (∃ vs, oe.data = .fields vs) → L2H.PinOk outer H s (a, oe) → Env0 P w K mg base A outer s H → BindsTo s fd args (ps.zip us) → Vals vs us → sp a cls d vs H Q E →
    codeAny (model P w) A (.call (.ref f) args) (CR CX outer P w H s Q E) s
/-- .. by its body -/
theorem fn_ofP {CX : CXT} {P : Program} {w : World} {K : PySem.W.Frag} {mg : Str → Option Value} {base : Heap} {k : Nat} {x q : Str} {st : Stmt} {f : Addr} {fd : FuncData} {N ps : List Str} {sp : Addr → Value → Option Addr → Sp} (F : Fun K x q st f fd) (S : FnScope N ps (defScope st))
    (len : ∀ a cls d vs H Q E, sp a cls d vs H Q E → vs.length = ps.length)
    (hbody : ∀ (cdv : Value) (A : Around) (outer : List Env) (s : Shared) (H : Hp) (vs : List V) (Q : VK) (E : XK) (a : Addr) (oe : Obj) (cls : Value) (d : Option Addr), Zc cls d oe → (∃ vs, oe.data = .fields vs) → L2H.RoomH k (A.deeper (envOfC q (defScope st) s.heap.objs.size f cdv)) → sp a cls d vs H Q E →
      ∃ t, PSs (L2H.cxH CX P w K mg base N q (defScope st) f cdv A outer s H E (a, oe)) (defBody st) t ∧ t { nx := fun _ H' => Q .non H', rt := Q } (L2.start N vs) H) :
    FnP P w K mg base CX (k + 1) f fd ps sp := by
  obtain ⟨oc, od, kV, doc, pm, an, cdv, ct, osl, rfl, lk, hcd⟩ := F.ex
  refine ⟨len, fun A outer s H args us vs Q E a oe cls d hr hz hf hpin e0 hb r hsp => ?_⟩
  have hl := len _ _ _ _ _ _ _ hsp
  have KX : K.In s.heap := e0.mod.kin.keeps fun b o e => (e0.bs b o e).1
  have lim : s.heap.NoLimit := e0.mod.nolimit.keeps fun b o e => (e0.bs b o e).1
  have hkind : ∀ y ∈ ps.zip us, (defScope st).names.lookup y.1 = some .local ∨ ((defScope st).names.lookup y.1 = some .cell ∧ ((cellsFrom (s.heap.objs.size + 1) (defScope st).names []).lookup y.1).isSome = true) := fun ⟨n, v⟩ hy => by
    rcases S.par n (List.of_mem_zip hy).1 with q | q
    · exact .inl q
    · exact .inr ⟨q, PySem.W.cellsFrom_some _ _ _ (.inl q)⟩
  refine codeAny_call_function hr.depth (KX _ _ lk) rfl S.co S.gen rfl (PySem.W.codeRec_of KX hcd) (hb _ _ _ _ ?_)
  refine wpAny_newFunctionEnv_cells S.kind hkind fun env he s1 x => ?_
  subst he
  refine ⟨lim.keeps x.toInCall.keep, codeAny_func ?_⟩
  obtain ⟨t, ht, hq⟩ := hbody cdv A outer s H vs Q E a oe cls d hz hf (hr.deeper _) hsp
  have I : Inv (L2H.cxH CX P w K mg base N q (defScope st) f cdv A outer s H E (a, oe)) [] (L2.start N vs) H s1 := L2H.inv_startH S hpin e0 hl r x
  refine wpAny_mono (ht.run [] s1 (L2.start N vs) H _ I hq) (fun fl s' hs => ?_) fun e s' hs => hs
  have fin : ∀ {σ' : St} {H' : Hp} {v : V} {u : Value}, Inv (L2H.cxH CX P w K mg base N q (defScope st) f cdv A outer s H E (a, oe)) [] σ' H' s' → RelV v u → Q v H' → CE outer P w H s Q u s' :=
    fun {σ' H' v u} J rv q => ⟨v, H', J.os, J.bare, J.base, J.hok, rv, q⟩
  cases fl with
  | ret u =>
    obtain ⟨v, σ', H', J, rv, q⟩ := hs
    exact fin J rv q
  | next =>
    obtain ⟨σ', H', J, q⟩ := hs
    exact fin (v := V.non) (u := Value.none) J rfl q
  | brk =>
    obtain ⟨_, _, _, q⟩ := hs
    exact False.elim q
  | cont =>
    obtain ⟨_, _, _, q⟩ := hs
    exact False.elim q
/-- f(e, ..) in the suite -/
def tCallP (a : Addr) (cls : Value) (d : Option Addr) (sp : Addr → Value → Option Addr → Sp) (t : TA) : TE := fun σ H Q => t σ H fun vs H1 => sp a cls d vs H1 Q (fun _ _ _ => False)
section
variable {X : Cx} {k : Nat} {f : Addr} {fd : FuncData} {ps : List Str} {sp : Addr → Value → Option Addr → Sp} {x : Str} {q pos : Pos} {e : Expr} {es : List Expr} {t : TA} {a : Addr} {oe : Obj} {cls : Value} {d : Option Addr}
theorem pe_callP (hp : (a, oe) ∈ X.pn) (hz : Zc cls d oe) (hf : ∃ vs, oe.data = .fields vs) (F : FnP X.prog X.w X.K X.mg X.base C8.CX0 k f fd ps sp) (hr : L2H.RoomH k X.A) (hg : Gl X x) (hm : X.mg x = some (.ref f)) (hk : PySem.W.keepIn X.K (.ref f) = true) (hb : Binds X.K fd ps [])
    (ha : PA X (e :: es) t) (hdb : (x == ("__debug__" : Str)) = false := by decide) (he : starEach (e :: es) X.env = (false, eval e X.env) :: starEach es X.env := by rfl) (hpl : (backTo pos (starEach es X.env)).any (·.1) = false := by rfl) :
    PE X (.Call (.Name x q) (e :: es) [] pos) (tCallP a cls d sp t) := by
  refine ⟨fun pins s σ H Q I h => ?_⟩
  refine wpAny_Call_Name_kw (ld_glob I hg hm ?_ hdb)
  refine PySem.W.callWith_K (h₀ := X.base) I.ok.mod.kin hk (thn (ha.run pos pins s σ H _ I h) fun us s1 ⟨vs, H1, I1, r, q⟩ => ⟨I1.kIn, ?_⟩) he hpl
  have hl : us.length = ps.length := by rw [← r.length]; exact F.len _ _ _ _ _ _ _ q
  have b := hb s1 us I1.kIn (by rw [List.append_nil]; exact hl)
  rw [List.append_nil] at b
  have P1 := I1.pin (a, oe) (List.mem_append_left _ hp)
  have hpin : L2H.PinOk X.stack H1 s1 (a, oe) := ⟨P1.1, P1.2.1, fun hm => (List.mem_cons.mp (I1.stkSub a hm)).elim P1.2.2.1 P1.2.2.2.1, P1.2.2.2.2⟩
  refine wpAny_call (codeAny_mono (F.run X.A X.stack s1 H1 ⟨us, []⟩ us vs Q _ a oe cls d hr hz hf hpin I1.env0 b r q) fun r s' hq => ?_)
  cases r with
  | error e => exact hq.elim
  | ok fl =>
    cases fl with
    | ret u => exact I1.after hq
    | next => exact False.elim hq
    | brk => exact False.elim hq
    | cont => exact False.elim hq
end
end L2
end
section
set_option maxHeartbeats 4000000
namespace L2
open PySem PySem.Spec PyProof.Rows
/-! ### several clauses «except C as n» -/
abbrev Hd3 : Type := Value × Nat × (Addr → Value → Option Addr → TS)
def wManyAs (K : PySem.W.Frag) (Wout : WX) (D : Ends) : List Hd3 → WX
  | [] => Wout
  | (c, i, ts) :: r => fun cls d σ H => ∃ b, PySem.W.exmOne K cls c = some b ∧ (b = true → ∀ a, H a = none → ts a cls d { nx := fun σ' H' => D.nx (σ'.set i none) H', rt := D.rt, bk := fun σ' H' => D.bk (σ'.set i none) H', ct := fun σ' H' => D.ct (σ'.set i none) H' } (σ.set i (some (.ref a))) H) ∧
      (b = false → wManyAs K Wout D r cls d σ H)
inductive HdsAs (X : Cx) : List ExceptHandler → List Hd3 → Prop
  | nil : HdsAs X [] []
  | cons {x n : Str} {c : Value} {i : Nat} {ts : Addr → Value → Option Addr → TS} {b₀ : Stmt} {suite : List Stmt} {np pos' : Pos} {hds : List ExceptHandler} {l : List Hd3} (hi : X.N[i]? = some n) (hln : X.env.kindOf n = some .local) (hc : Names X x c)
      (hsu : ∀ (a : Addr) (oe : Obj) (cls : Value) (d : Option Addr) (pn : List (Addr × Obj)), Zc cls d oe → (∃ vs, oe.data = .fields vs) → PSs (X.suite a ((a, oe) :: pn)) (b₀ :: suite) (ts a cls d)) (r : HdsAs X hds l) :
      HdsAs X (.ExceptHandler (some (.Name x np)) (some n) (b₀ :: suite) pos' :: hds) ((c, i, ts) :: l)
section
variable {X : Cx} {body : List Stmt} {h₀ : ExceptHandler} {hds : List ExceptHandler} {l : List Hd3} {pos : Pos} {tb : WX → TS} {Wout : WX}
theorem ps_try_manyAs (hs : X.stack = X.env :: X.outer) (hf : X.env.frame = some X.env.locals) (hN : X.N.Nodup) (tk : Takes X Wout)
    (hb : ∀ (W : WX) (pn : List (Addr × Obj)) (xe : Value → Shared → Prop), Takes (X.tr pn xe) W → PassesOwn (model X.prog X.w) X.A X.env xe → PSs (X.tr pn xe) body (tb W))
    (hh : HdsAs X (h₀ :: hds) l) : PS X (.Try body (h₀ :: hds) [] [] pos) (fun D σ H => tb (wManyAs X.K Wout D l) D σ H) := by
  refine ⟨fun pins s σ H D I h => ?_⟩
  have ok := I.ok
  have hfr : X.A.frames = some (X.env :: X.outer) := by rw [ok.frames, hs]
  refine wpAny_Try_except ?_
  refine wpAny_mono ((hb (wManyAs X.K Wout D l) (X.pn ++ pins) (fun e s₁ => wpAny (model X.prog X.w) X.A (noteFrame e X.env) (fun _ s₂ => wpAny (model X.prog X.w) X.A (setFlight e none) (fun _ s₃ =>
    wpAny (model X.prog X.w) X.A (handleBy e X.env (h₀ :: hds)) (SP X pins D) X.xe s₃) X.xe s₂) X.xe s₁) (fun u s' xx => ?_) PassesOwn.looking).run [] s σ H D (I.toTry _) h) (fun f s1 hsp => ?_) (fun e s1 he => he)
  · -- the catch
    obtain ⟨a, B, sI, pins', σ', H', cls, d, rfl, J', nb, up, sky, na, os, ag, w⟩ := xx
    have J : Inv X pins σ' H' sI := J'.ofTry ok
    have sky' : Sky B (X.env :: X.outer) a (Zc cls d) X.env.locals s'.heap := by rw [← hs]; exact sky
    show wpAny (model X.prog X.w) X.A (noteFrame (.ref a) X.env) _ _ _
    refine Sky.land Zc.steady hfr hf sky' fun h3 fl3 up3 => ?_
    have J3 : Inv X pins σ' H' { s' with heap := h3 } := J.landed nb fl3.1 (up.trans up3) os ag
    obtain ⟨oe3, vs3, he3, hz3, hd3⟩ := fl3.there
    have notFr : ∀ {h : Heap} {o : Obj} {vs : Array Value}, h.FunFrames B (X.env :: X.outer) → h.get? a = some o → o.data = .fields vs → a ∉ frs (X.env :: X.outer) := fun {h o vs} ff e dd hm => by
      obtain ⟨_, o', e', hnf⟩ := ff.mem hm
      rw [e] at e'; cases e'
      exact hnf _ dd
    have nfr := notFr fl3.2.2.1 he3 hd3
    have nL : a ≠ X.env.locals := fun z => nfr (List.mem_filterMap.mpr ⟨X.env, List.mem_cons_self, by rw [hf, z]⟩)
    have nF : a ∉ X.fs := fun hm => by
      obtain ⟨e, he, q⟩ := List.mem_filterMap.mp hm
      exact nfr (List.mem_filterMap.mpr ⟨e, List.mem_cons_of_mem _ he, q⟩)
    have S3 := J3.suite he3 hd3 na nL nF
    have go : ∀ {hds' : List ExceptHandler} {l' : List Hd3}, HdsAs X hds' l' → wManyAs X.K Wout D l' cls d σ' H' →
        wpAny (model X.prog X.w) X.A (handleBy (.ref a) X.env hds') (SP X pins D) X.xe { s' with heap := h3 } := by
      intro hds' l' hk
      induction hk with
      | nil =>
        intro w
        refine wpAny_handleBy_nil ?_
        obtain ⟨k1, k2, k3, oe, vs, T, oT, ts', he, hz, hd, h1, hr⟩ := id fl3
        unfold PySem.passOn
        refine wpAny_bind (wpAny_field he hd h1 ?_)
        rw [if_neg (show ¬ ((Value.ref T == Value.none) = true) from by simp)]
        have fin : wpAny (model X.prog X.w) X.A (setFlight (.ref a) X.env.frame) (fun _ s4 => wpAny (model X.prog X.w) X.A (throw (.ref a) : Sem Flow) (SP X pins D) X.xe s4) X.xe { s' with heap := h3 } := by
          rw [hf]
          refine HandSPX.setFlight_upZ fl3 fun h4 hh4 up4 => wpAny_throw (tk _ _ ?_)
          exact ⟨a, B, sI, pins, σ', H', cls, d, rfl, J, nb, (up.trans up3).trans up4, .inr (.inr (by rw [hs]; exact hh4)), na, os, ag, w⟩
        first
          | exact wpAny_bind (wpAny_pure (wpAny_bind fin))
          | exact wpAny_bind fin
      | @cons x n c i ts b₀ suite np pos' hds2 l2 hi hln hc hsu r ih =>
        intro w
        obtain ⟨b, hb1, hyes, hno⟩ := w
        have hloc : Loc X.env.scope n := .inl hln
        refine wpAny_handleBy_cons (codeAny_handlers_test ?_) (by intro q; cases q)
        have LT : PySem.W.Looks (model X.prog X.w) h3 (typeOf (.ref a)) cls := fun A Q E s k q => wpAny_typeOf_ref (k _ _ he3) (by rw [hz3.1]; exact q)
        have LM := PySem.W.exm_one (M := model X.prog X.w) (J3.kIn) LT hb1
        have test : ∀ {Q : Value → Shared → Prop} {E : Value → Shared → Prop}, Q c { s' with heap := h3 } → wpAny (model X.prog X.w) (X.A.mark (some (.ref a))) (eval (.Name x np) X.env) Q E { s' with heap := h3 } := fun {Q E} q => by
          obtain ⟨hg, hdbg, hm | ⟨hm, hv, hnn⟩⟩ := hc
          · exact ld_glob (X := X.suite a ((a, oe3) :: (X.pn ++ pins))) S3 hg hm q hdbg
          · exact ld_blt (X := X.suite a ((a, oe3) :: (X.pn ++ pins))) S3 hg hm hv q hnn hdbg
        refine test (LM.here ?_)
        cases b with
        | true =>
          refine codeAny_handlers_suite_as ?_
          refine HandSPX.lands_againZ fl3 fun h4 fl4 up4 => ?_
          have J4 : Inv X pins σ' H' { s' with heap := h4 } := J.landed nb fl4.1 ((up.trans up3).trans up4) os ag
          obtain ⟨oe4, vs4, he4, hz4, hd4⟩ := fl4.there
          have S4 := J4.suite he4 hd4 na nL nF
          refine store_ok (X := X.suite a ((a, oe4) :: (X.pn ++ pins))) (v := .ref a) S4 hN hi hloc rfl (fun s5 S5 => ?_) (.inr hln)
          refine wpAny_mono ((hsu a oe4 cls d (X.pn ++ pins) hz4 ⟨_, hd4⟩).run [] s5 _ H' _ S5 (hyes rfl a na)) (fun f s6 hsp => ?_) (fun _ _ z => False.elim z)
          have end_ : ∀ {σ6 : St} {H6 : Hp} {Q : Shared → Prop}, Inv (X.suite a ((a, oe4) :: (X.pn ++ pins))) [] σ6 H6 s6 → (∀ s7, Inv X pins (σ6.set i none) H6 s7 → Q s7) →
              wpAny (model X.prog X.w) X.A (do bindName X.env n .none; unbindBehindTheSuite X.env n pos') (fun _ s7 => Q s7) X.xe s6 := fun {σ6 H6 Q} S6 hq => gone_ok (S6.unsuite ok) hN hi hln hq
          cases f with
          | next =>
            obtain ⟨σ6, H6, S6, q6⟩ := hsp
            exact end_ S6 fun s7 J7 => ⟨_, _, J7, q6⟩
          | brk =>
            obtain ⟨σ6, H6, S6, q6⟩ := hsp
            exact end_ S6 fun s7 J7 => ⟨_, _, J7, q6⟩
          | cont =>
            obtain ⟨σ6, H6, S6, q6⟩ := hsp
            exact end_ S6 fun s7 J7 => ⟨_, _, J7, q6⟩
          | ret u =>
            obtain ⟨v6, σ6, H6, S6, r6, q6⟩ := hsp
            exact end_ S6 fun s7 J7 => ⟨_, _, _, J7, r6, q6⟩
        | false =>
          show wpAny _ X.A (handleBy (.ref a) X.env hds2) _ _ _
          exact ih (hno rfl)
    exact go hh w
  · cases f with
    | next =>
      obtain ⟨σ', H', J', q⟩ := hsp
      exact wpAny_execs_nil ⟨σ', H', J'.ofTry ok, q⟩
    | brk =>
      obtain ⟨σ', H', J', q⟩ := hsp
      exact ⟨σ', H', J'.ofTry ok, q⟩
    | cont =>
      obtain ⟨σ', H', J', q⟩ := hsp
      exact ⟨σ', H', J'.ofTry ok, q⟩
    | ret u =>
      obtain ⟨v, σ', H', J', r, q⟩ := hsp
      exact ⟨v, σ', H', J'.ofTry ok, r, q⟩
end
end L2
end
section
set_option maxHeartbeats 4000000
namespace PySem.W
open PySem PySem.Spec PySem.Calls PyProof.Rows
abbrev kld_fn (name qual : Str) (params : Arguments) (body : Expr) (scope : Scope) (cl : List (Str × Addr)) (dV pm cdv ct : Value) : FuncData :=
  { name, qualname := qual, params, body := .expr body, scope, globals := mainGlobals, closure := cl, defaults := dV, kwdefaults := .none, doc := .none, pyModule := pm, annotations := none, code := cdv, closureTuple := ct, builtins := builtinsNs }
abbrev kld_obj (name qual : Str) (params : Arguments) (body : Expr) (scope : Scope) (clos : List (Str × Addr)) (dV pm : Value) (c' : Addr) (ctv : Value) : Obj :=
  { cls := .type "function", data := .func (kld_fn name qual params body scope clos dV pm (.ref c') ctv) }
section
variable {M : Model} {A : Around} {E : Value → Shared → Prop} {s : Shared} {name qual : Str} {params : Arguments} {body : Expr} {scope : Scope} {env : Env} {c P : Addr} {ps : Array Value} {pos : Pos} {firstLine : Nat} {mg : Str → Option Value}
  {clos : List (Str × Addr)} {dV : Value} {Q : Value → Shared → Prop}
theorem kld_makeTail (hcl : closureFor scope env = pure clos) (hge0 : env.globals = mainGlobals) (hg : s.heap.Ns mainGlobals mg) (hcode : env.code = .ref c) (C : CodeHd s.heap c P) (hP : s.heap.get? P = some (tabObj ps)) (ht : TriplesOk ps.toList)
    (hnf : codeAmong pos ps.toList = none) (hgP : mainGlobals ≠ P) (hb : s.heap.BuiltinsAt mg P)
    (h : ∀ c' ctv h' tk, Heap.ExtBut P s.heap h' → s.heap.objs.size ≤ c' → c' < h'.objs.size → h'.CodeRec (.ref c') qual → h'.get? P = some (tabObj (ps ++ #[rawInt pos.line, rawInt pos.col, .ref c'])) →
      Q (.ref h'.objs.size) { s with heap := h'.push (kld_obj name qual params body scope clos dV ((mg "__name__").getD .none) c' ctv), toks := tk }) :
    wpAny M A (makeTail name qual params (.expr body) scope env dV .none none pos firstLine) Q E s := by
  obtain ⟨bm, ob, hbm, hne0, _, hneP, hbo, hcls, hdict, hdata⟩ := hb
  unfold makeTail
  rw [hcl, hge0]
  refine wpAny_bind (wpAny_pure ?_)
  cases clos with
  | nil =>
    simp only [List.isEmpty_nil, if_true]
    refine wpAny_bind (wpAny_pure ?_)
    refine wpAny_bind (wpAny_functionCodeX hcode (C.code hP ht) (C.tab hP) hnf fun c' h' tk hx hge hlt _ hrec htb _ => ?_)
    have hg' := hg.extBut hx hgP
    refine wpAny_bind (wpAny_builtinsFor hg' hbm hne0 (hx _ _ hneP hbo) hcls hdict hdata ?_)
    refine wpAny_bind (wpAny_nsGet hg' ?_)
    exact wpAny_bind (wpAny_pure (wpAny_newObj_type (h c' .none h' tk hx hge hlt hrec htb.2) (by size_fits)))
  | cons q r =>
    simp only [List.isEmpty_cons, Bool.false_eq_true, if_false]
    refine wpAny_bind (wpAny_newTextTuple ?_)
    refine wpAny_bind (wpAny_functionCodeX hcode ((C.keeps fun b o e => Heap.get?_push_of_some _ e).code (Heap.get?_push_of_some _ hP) ht) ((C.keeps fun b o e => Heap.get?_push_of_some _ e).tab (Heap.get?_push_of_some _ hP)) hnf fun c' h' tk hx hge hlt _ hrec htb _ => ?_)
    have hg' := (hg.push _).extBut hx hgP
    have hx' : Heap.ExtBut P s.heap h' := fun b o hb' e => hx b o hb' (Heap.get?_push_of_some _ e)
    have hge' : s.heap.objs.size ≤ c' := Nat.le_trans (by rw [Heap.size_push]; omega) hge
    refine wpAny_bind (wpAny_builtinsFor hg' hbm hne0 (hx' _ _ hneP hbo) hcls hdict hdata ?_)
    refine wpAny_bind (wpAny_nsGet hg' ?_)
    exact wpAny_bind (wpAny_pure (wpAny_newObj_type (h c' _ h' tk hx' hge' hlt hrec htb.2) (by size_fits)))
theorem kld_makeTailHit {cv : Value} (hcl : closureFor scope env = pure clos) (hge0 : env.globals = mainGlobals) (hg : s.heap.Ns mainGlobals mg) (hcode : env.code = .ref c) (C : CodeHd s.heap c P) (hP : s.heap.get? P = some (tabObj ps)) (ht : TriplesOk ps.toList)
    (hf : codeAmong pos ps.toList = some cv) (hb : s.heap.BuiltinsAt mg P)
    (h : ∀ (ctv : Value) (h' : Heap) (tk : Tok), (∀ b o, s.heap.get? b = some o → h'.get? b = some o) → s.heap.objs.size ≤ h'.objs.size →
      Q (.ref h'.objs.size) { s with heap := h'.push { cls := .type "function", data := .func (kld_fn name qual params body scope clos dV ((mg "__name__").getD .none) cv ctv) }, toks := tk }) :
    wpAny M A (makeTail name qual params (.expr body) scope env dV .none none pos firstLine) Q E s := by
  obtain ⟨bm, ob, hbm, hne0, _, hneP, hbo, hcls, hdict, hdata⟩ := hb
  unfold makeTail
  rw [hcl, hge0]
  refine wpAny_bind (wpAny_pure ?_)
  cases clos with
  | nil =>
    simp only [List.isEmpty_nil, if_true]
    refine wpAny_bind (wpAny_pure ?_)
    refine wpAny_bind (wpAny_functionCode_hit hcode (C.code hP ht) hf ?_)
    refine wpAny_bind (wpAny_builtinsFor hg hbm hne0 hbo hcls hdict hdata ?_)
    refine wpAny_bind (wpAny_nsGet hg ?_)
    exact wpAny_bind (wpAny_pure (wpAny_newObj_type (h .none s.heap s.toks (fun _ _ e => e) (Nat.le_refl _)) (by size_fits)))
  | cons q r =>
    simp only [List.isEmpty_cons, Bool.false_eq_true, if_false]
    refine wpAny_bind (wpAny_newTextTuple ?_)
    refine wpAny_bind (wpAny_functionCode_hit hcode ((C.keeps fun b o e => Heap.get?_push_of_some _ e).code (Heap.get?_push_of_some _ hP) ht) hf ?_)
    refine wpAny_bind (wpAny_builtinsFor (hg.push _) hbm hne0 (Heap.get?_push_of_some _ hbo) hcls hdict hdata ?_)
    refine wpAny_bind (wpAny_nsGet (hg.push _) ?_)
    have hsz : ∀ oT : Obj, s.heap.objs.size ≤ (s.heap.push oT).objs.size := fun oT => by rw [Heap.size_push]; omega
    exact wpAny_bind (wpAny_pure (wpAny_newObj_type (h _ _ s.toks (fun b o e => Heap.get?_push_of_some _ e) (hsz _)) (by size_fits)))
end
end PySem.W
namespace LamX
open PySem PySem.Spec PyProof.Rows L2
section
variable {X : Cx} {pins : List (Addr × Obj)} {σ : L2.St} {H : Hp} {s : Shared}
/-- the lambda's object is made, its defaults at dV -/
theorem lam_tail {T : List (Addr × Str)} {c P : Addr} {params : Arguments} {body : Expr} {scope : Scope} {pos : Pos} {dV : Value} {E : Value → Shared → Prop} {Q : Value → Shared → Prop} (I : Inv X pins σ H s) (TB : TabB X.base X.mg c P) (hcode : X.env.code = .ref c)
    (hm : (P, X.env.qual ++ "<lambda>") ∈ T) (hu : ∀ p ∈ T, p.1 = P → p.2 = X.env.qual ++ "<lambda>") (hT : Tabs T H) (hfree : ∀ y ∈ scope.names, y.2 = .free → ∃ c, X.env.cells.lookup y.1 = some c)
    (h : ∀ (f c' : Addr) (pm ctv : Value) (H1 : Hp) (s' : Shared), Inv X pins σ H1 s' → ExtN H H1 → Tabs T H1 →
      s'.heap.get? f = some (PySem.W.kld_obj "<lambda>" (X.env.qual ++ "<lambda>") params body scope (cloFrom X.env.cells scope.names []) dV pm c' ctv) → H1 f = none → f ∉ frs X.stack → H1 c' = some (CodeO c' (X.env.qual ++ "<lambda>")) → Q (.ref f) s') :
    wpAny (model X.prog X.w) X.A (makeTail "<lambda>" (X.env.qual ++ "<lambda>") params (.expr body) scope X.env dV .none none pos pos.line) Q E s := by
  obtain ⟨ps, hP, ht, ha⟩ := hT _ hm
  have bP : s.heap.BuiltinsAt X.mg P := TB.bm.keeps I.bk
  have hP' : s.heap.get? P = some { cls := .none, data := .fields ps } := I.hok P _ hP
  have nofr : ∀ f, s.heap.objs.size ≤ f → f ∉ frs X.stack := fun f hf z => by
    rcases List.mem_cons.mp (I.stkSub _ z) with e | e
    · have h1 := I.lt
      rw [← e] at h1
      exact Nat.lt_irrefl _ (Nat.lt_of_lt_of_le h1 hf)
    · exact I.nofs hf e
  cases hc : codeAmong pos ps.toList with
  | none =>
    refine PySem.W.kld_makeTail (mg := X.mg) (c := c) (P := P) (ps := ps) (closure_ok hfree) I.ok.glob (I.mod.glob.keeps I.bk) hcode (TB.code.keeps I.bk) hP' ht hc TB.gP bP fun c' ctv h' tk hx hge hlt hrec htb => ?_
    obtain ⟨c2, oc, vs, t, e2, hoc, hd, hv⟩ := hrec
    cases e2
    have hsz : s.heap.objs.size ≤ h'.objs.size := Nat.le_trans hge (Nat.le_of_lt hlt)
    have nC : H c' = none := I.hok.fresh hge
    have I1 := inv_table (t' := tk) (more := #[rawInt pos.line, rawInt pos.col, .ref c']) (h' := h'.push (PySem.W.kld_obj "<lambda>" (X.env.qual ++ "<lambda>") params body scope (cloFrom X.env.cells scope.names []) dV ((X.mg "__name__").getD .none) c' ctv)) I hP
      (fun b o hb e => Heap.get?_push_of_some _ (hx b o hb e)) (Heap.get?_push_of_some _ htb) hge ⟨oc, vs, t, Heap.get?_push_of_some _ hoc, hd, hv⟩
    have hE : ExtN H (upd (upd H P (.tbl (ps ++ #[rawInt pos.line, rawInt pos.col, .ref c']))) c' (CodeO c' (X.env.qual ++ "<lambda>"))) := fun b o e n => by
      rw [upd_ne (ne_of_none e nC), upd_ne (fun z => n ps (Option.some.inj (e.symm.trans (by rw [z]; exact hP))))]
      exact e
    have eL : (ps ++ #[rawInt pos.line, rawInt pos.col, .ref c']).toList = ps.toList ++ [rawInt pos.line, rawInt pos.col, .ref c'] := by simp
    refine h h'.objs.size c' ((X.mg "__name__").getD .none) ctv _ _ I1 hE (fun p hp => ?_) (Heap.get?_push_size _ rfl) ?_ (nofr _ hsz) upd_same
    · by_cases hb : p.1 = P
      · rw [hu p hp hb, hb]
        refine ⟨_, by rw [upd_ne (ne_of_none hP nC), upd_same], by rw [eL]; exact PySem.TriplesOk_snoc _ _ _ _ ht, fun p' cv hcv => ?_⟩
        rw [eL] at hcv
        rcases among_app _ ht hcv with z | z
        · obtain ⟨c0, e1, e2⟩ := ha p' cv z
          exact ⟨c0, e1, hE _ _ e2 codeO_ne⟩
        · exact ⟨c', z, upd_same⟩
      · obtain ⟨ps', a1, a2, a3⟩ := hT p hp
        refine ⟨ps', by rw [upd_ne (ne_of_none a1 nC), upd_ne hb]; exact a1, a2, fun p' cv hcv => ?_⟩
        obtain ⟨c0, e1, e2⟩ := a3 p' cv hcv
        exact ⟨c0, e1, hE _ _ e2 codeO_ne⟩
    · have n1 : h'.objs.size ≠ c' := Nat.ne_of_gt hlt
      have n2 : h'.objs.size ≠ P := Nat.ne_of_gt (Nat.lt_of_lt_of_le (Heap.lt_size hP') hsz)
      rw [upd_ne n1, upd_ne n2]
      exact I.hok.fresh hsz
  | some cv =>
    obtain ⟨c', e, hco⟩ := ha pos cv hc
    subst e
    refine PySem.W.kld_makeTailHit (mg := X.mg) (c := c) (P := P) (ps := ps) (closure_ok hfree) I.ok.glob (I.mod.glob.keeps I.bk) hcode (TB.code.keeps I.bk) hP' ht hc bP fun ctv h' tk hx hsz => ?_
    have I1 : Inv X pins σ H { s with heap := h'.push (PySem.W.kld_obj "<lambda>" (X.env.qual ++ "<lambda>") params body scope (cloFrom X.env.cells scope.names []) dV ((X.mg "__name__").getD .none) c' ctv), toks := tk } := I.kept fun b o e => Heap.get?_push_of_some _ (hx b o e)
    exact h h'.objs.size c' ((X.mg "__name__").getD .none) ctv H _ I1 (ExtN.refl H) hT (Heap.get?_push_size _ rfl) (I.hok.fresh hsz) (nofr _ hsz) hco
/-- lambda x=k: body -/
theorem lam_makeD {T : List (Addr × Str)} {c P : Addr} {params : Arguments} {body : Expr} {scope : Scope} {pos cp : Pos} {k : Int} {j : Nat} {E : Value → Shared → Prop} {Q : Value → Shared → Prop} (I : Inv X pins σ H s) (TB : TabB X.base X.mg c P) (hcode : X.env.code = .ref c)
    (hm : (P, X.env.qual ++ "<lambda>") ∈ T) (hu : ∀ p ∈ T, p.1 = P → p.2 = X.env.qual ++ "<lambda>") (hT : Tabs T H) (hdef : defaultsOf params X.env = ([eval (.Constant (.int k) j cp) X.env], [])) (hfree : ∀ y ∈ scope.names, y.2 = .free → ∃ c, X.env.cells.lookup y.1 = some c)
    (h : ∀ (f c' tu : Addr) (pm ctv : Value) (H1 : Hp) (s' : Shared), Inv X pins σ H1 s' → ExtN H H1 → Tabs T H1 → H1 tu = some (.tup [.int k]) →
      s'.heap.get? f = some (PySem.W.kld_obj "<lambda>" (X.env.qual ++ "<lambda>") params body scope (cloFrom X.env.cells scope.names []) (.ref tu) pm c' ctv) → H1 f = none → f ∉ frs X.stack → H1 c' = some (CodeO c' (X.env.qual ++ "<lambda>")) → Q (.ref f) s') :
    wpAny (model X.prog X.w) X.A (eval (.Lambda params body scope pos) X.env) Q E s := by
  rw [arm_eval_Lambda, hdef]
  show wpAny _ _ (do let dv ← evalAll [eval (.Constant (.int k) j cp) X.env]; let kdv ← holding dv (evalAllOpt []); makeFunction "<lambda>" (X.env.qual ++ "<lambda>") params (.expr body) scope X.env dv kdv [] pos pos.line) Q E s
  refine wpAny_bind (wpAny_evalAll_cons (thn ((pe_int (X := X) (i := k) (j := j) (pos := cp)).run pins s σ H (fun v H' => v = .int k ∧ H' = H) I ⟨rfl, rfl⟩) fun u s1 ⟨v, H1, I1, r1, e1, e2⟩ => wpAny_evalAll_nil ?_))
  subst e1
  rw [e2] at I1
  refine wpAny_bind (wpAny_holding (wpAny_pure ?_))
  rw [makeFunction_eq]
  simp only [List.zip_nil_right, List.filterMap_nil, List.isEmpty_nil, List.isEmpty_cons, if_true, pure_bind, Bool.false_eq_true, if_false]
  refine wpAny_bind (wpAny_newTextTuple ?_)
  have nt : H s1.heap.objs.size = none := I1.hok.fresh (Nat.le_refl _)
  have I2 : Inv X pins σ (upd H s1.heap.objs.size (.tup [.int k])) { s1 with heap := s1.heap.push { cls := .type "tuple", data := .seq [u].toArray } } :=
    I1.laid (t' := s1.toks) (a := s1.heap.objs.size) (o := .tup [.int k]) (fun b u q => Heap.get?_push_of_some _ q) (Nat.le_refl _) ⟨by show 1 ≤ sizeLine; decide, [u], .cons r1 .nil, _, Heap.get?_push_size _ rfl, rfl, _, rfl⟩
  have eH : ∀ b o, H b = some o → upd H s1.heap.objs.size (.tup [.int k]) b = some o := fun b o e => by rw [upd_ne (ne_of_none e nt)]; exact e
  refine lam_tail I2 TB hcode hm hu (hT.ext eH) hfree fun f c' pm ctv H3 s3 I3 hE hT3 ho hn hfr hc => ?_
  have ht : H3 s1.heap.objs.size = some (.tup [.int k]) := hE _ _ upd_same fun ps z => by cases z
  exact h f c' s1.heap.objs.size pm ctv H3 s3 I3 ((ExtN.of eH).trans hE) hT3 ht ho hn hfr hc
end
end LamX
end
section
set_option maxHeartbeats 4000000
namespace LamX
open PySem PySem.Spec PyProof.Rows L2
/-- one parameter with a default, no further name of its own -/
structure LamD (N : List Str) (sc scope : Scope) (px : Str) : Prop where
  kind : scope.kind = .function
  co : scope.isCoroutine = false
  gen : scope.isGenerator = false
  own : ∀ y ∈ scope.names, y.2 ≠ .cell ∧ (y.2 = .local → y.1 ∉ N)
  par : scope.names.lookup px = some .local
  free : ∀ y ∈ scope.names, y.2 = .free → sc.names.lookup y.1 = some .cell ∨ sc.names.lookup y.1 = some .free
def lamDB (N : List Str) (sc scope : Scope) (px : Str) : Bool :=
  decide (scope.kind = .function) && (!scope.isCoroutine && (!scope.isGenerator && (decide (scope.names.lookup px = some .local) &&
    scope.names.all fun y => !decide (y.2 = .cell) && ((!decide (y.2 = .local) || !N.contains y.1) && (!decide (y.2 = .free) || decide (sc.names.lookup y.1 = some .cell) || decide (sc.names.lookup y.1 = some .free))))))
theorem lamD_by {N : List Str} {sc scope : Scope} {px : Str} (h : lamDB N sc scope px = true) : LamD N sc scope px := by
  unfold lamDB at h
  simp only [Bool.and_eq_true, Bool.or_eq_true, Bool.not_eq_true', decide_eq_true_eq, decide_eq_false_iff_not, List.all_eq_true] at h
  obtain ⟨h1, h2, h3, h4, h5⟩ := h
  refine ⟨h1, h2, h3, fun y hy => ⟨(h5 y hy).1, fun e => ?_⟩, h4, fun y hy e => ?_⟩
  · rcases (h5 y hy).2.1 with z | z
    · exact absurd e z
    · intro m
      rw [List.contains_iff_mem.mpr m] at z
      cases z
  · rcases (h5 y hy).2.2 with (z | z) | z
    · exact absurd e z
    · exact .inl z
    · exact .inr z
theorem LamD.has {X : Cx} {scope : Scope} {px : Str} (L : LamD X.N X.env.scope scope px) (ok : X.Ok) : ∀ y ∈ scope.names, y.2 = .free → ∃ c, X.env.cells.lookup y.1 = some c := fun y hy e => by
  rcases L.free y hy e with k | k
  · exact ok.has _ (.inl k)
  · exact ok.has _ (.inr k)
section
variable {X : Cx} {pins : List (Addr × Obj)} {σ : L2.St} {H HZ : Hp} {s s1 : Shared}
theorem lam_startD {A : Around} {outer : List Env} {E : XK} {scope : Scope} {px : Str} {u : Value} {f c' : Addr} {h₁ : Heap} {tk : Nat} (I : Inv X pins σ H s) (L : LamD X.N X.env.scope scope px) (e0 : Env0 X.prog X.w X.K X.mg X.base A outer s1 HZ) (hd : A.handled = none)
    (un : Un (frs X.stack) [] H HZ s.heap s1.heap) (hns : h₁.Ns s1.heap.objs.size fun y => ([(px, u)] : List (Str × Value)).reverse.lookup y) (kp : ∀ b o, s1.heap.get? b = some o → h₁.get? b = some o) :
    Inv (lamCx X A outer s1 HZ E scope f c') [] σ HZ { s1 with heap := h₁, toks := tk } := by
  have hfree := L.has I.ok
  have cm : ∀ {y c}, (cloFrom X.env.cells scope.names []).lookup y = some c → X.env.cells.lookup y = some c := fun {y c} e => by
    rcases cloFrom_mem (PySem.mem_of_lookup e) with hm | ⟨h1, h2⟩
    · cases hm
    · obtain ⟨c1, hc⟩ := hfree _ h1 rfl
      have hc : X.env.cells.lookup y = some c1 := hc
      have e2 : c = c1 := by
        rw [h2, hc] <;> rfl
      rw [e2]
      exact hc
  have look : ∀ {y}, scope.names.lookup y = some .free → ∃ c, (cloFrom X.env.cells scope.names []).lookup y = some c := fun {y} hl => by
    have hy : (y, NameKind.free) ∈ scope.names := PySem.mem_of_lookup hl
    exact mem_lookup (cloFrom_has (cells := X.env.cells) (acc := []) hy)
  have cellK : ∀ {c : Addr} {v : Option Value}, H c = none → s.heap.IsCell c v → h₁.IsCell c v := fun {c v} n ⟨o, ho, hd⟩ => by
    obtain ⟨sl, q⟩ := un.any ho n (by simp)
    exact ⟨_, kp _ _ q, hd⟩
  have noA : ∀ b : Addr, b ∉ (lamCx X A outer s1 HZ E scope f c').ex := fun b z => absurd (show b ∈ ([] : List Addr) from z) (by simp)
  refine ⟨⟨e0.mod, L.kind, rfl, rfl, Nat.le_refl _, fun y z c e1 e2 => I.ok.inj y z c (cm e1) (cm e2), fun y hy => ?_, fun y c z _ => ?_, fun _ => hd, Around.frames_deeper e0.frames, .inr ⟨rfl, rfl⟩, fun b z => absurd z (noA b), e0.bs, e0.bsz, fun b _ _ => noA b,
      fun b z => absurd z (noA b), e0.funs, e0.frf⟩,
    rfl, e0.bare, Un.kept kp, ⟨_, hns, fun i y v e1 e2 e3 => ?_⟩, fun y c e => ?_, e0.hok.fresh (Nat.le_refl _), fun y c e => ?_, fun q hq => absurd (show q ∈ ([] : List (Addr × Obj)) ++ [] from hq) (by simp), e0.hok.kept kp, I.len⟩
  · have hy : scope.names.lookup y = some .cell ∨ scope.names.lookup y = some .free := hy
    rcases hy with hy | hy
    · exact absurd rfl (L.own _ (PySem.mem_of_lookup hy)).1
    · exact look hy
  · have z : false = true := z
    cases z
  · have e3 : Vis scope y := e3
    rcases e3 with k | k | k
    · exact absurd (List.mem_of_getElem? (show X.N[i]? = some y from e1)) ((L.own _ (PySem.mem_of_lookup k)).2 rfl)
    · exact absurd rfl (L.own _ (PySem.mem_of_lookup k)).1
    · obtain ⟨m, hn, hl⟩ := I.loc
      have hvis : Vis X.env.scope y := (L.free _ (PySem.mem_of_lookup k) rfl).elim (fun k => .inr (.inl k)) (fun k => .inr (.inr k))
      obtain ⟨w', r, q⟩ := hl i y v e1 e2 hvis
      obtain ⟨c2, h2⟩ := look k
      refine ⟨w', r, .inr ⟨.inr k, c2, h2, ?_⟩⟩
      have c1 := cm h2
      rcases q with ⟨k', _⟩ | ⟨_, c3, e', z⟩
      · have k' : X.env.scope.names.lookup y = some .local := k'
        rcases L.free _ (PySem.mem_of_lookup k) rfl with k2 | k2 <;> rw [show X.env.scope.names.lookup y = _ from k2] at k' <;> cases k'
      · rw [c1] at e'
        cases e'
        exact cellK (I.freeC y _ c1) z
  · obtain ⟨w', z⟩ := I.cell y c (cm e)
    exact ⟨w', cellK (I.freeC y c (cm e)) z⟩
  · obtain ⟨v, o, ho, hd⟩ := I.cell y c (cm e)
    exact un.free c o ho (I.freeC y c (cm e)) (by simp)
/-- x(), in the def that got the lambda -/
theorem pe_actD {CXg : CXT} {Eg : XK} {Ng : List Str} {qg : Str} {sg : Scope} {g f c' tu : Addr} {px : Str} {kd : Int} {cdg pm ctv : Value} {params : Arguments} {body : Expr} {scope : Scope} {k i : Nat} {a : Str} {pn : List (Addr × Obj)} {xe : Value → Shared → Prop} {W : WX} {E : XK} {tb : TE} {p1 p2 : Pos}
    (I : Inv X pins σ H s) (L : LamD X.N X.env.scope scope px) (hf : s.heap.get? f = some (PySem.W.kld_obj "<lambda>" (X.env.qual ++ "<lambda>") params body scope (cloFrom X.env.cells scope.names []) (.ref tu) pm c' ctv)) (hfn : H f = none) (hfr : f ∉ frs X.stack)
    (hbind : ∀ u : Value, ∃ kf, bindArgs (PySem.W.kld_fn "<lambda>" (X.env.qual ++ "<lambda>") params body scope (cloFrom X.env.cells scope.names []) (.ref tu) pm (.ref c') ctv) ⟨[], []⟩ = seqItems? (.ref tu) >>= kf ∧ kf (some #[u]) = pure [(px, u)])
    (tk : Takes ((cxOf CXg X.prog X.w X.K X.mg X.base Ng qg sg g cdg X.A X.stack s H Eg).tr pn xe) W) (hW : ∀ cls d σ' H', E cls d H' → W cls d σ' H') (hr : Room (k + 1) (X.A.deeper (envOfC qg sg s.heap.objs.size g cdg)))
    (hbody : ∀ (A : Around) (outer : List Env) (s : Shared) (H : Hp), Room k (A.deeper (lamEnv X scope s.heap.objs.size f c')) → PE (lamCx X A outer s H E scope f c') body tb)
    (hN : Ng[i]? = some a) (hv : Vis sg a) (hd : (a == ("__debug__" : Str)) = false := by decide) (hcd : (a == ("__classdict__" : Str)) = false := by decide) :
    PE ((cxOf CXg X.prog X.w X.K X.mg X.base Ng qg sg g cdg X.A X.stack s H Eg).tr pn xe) (.Call (.Name a p1) [] [] p2)
      (fun σZ HZ Q => σZ[i]? = some (some (.ref f)) ∧ HZ c' = some (CodeO c' (X.env.qual ++ "<lambda>")) ∧ (HZ tu = some (.tup [.int kd]) ∧ tb σ HZ Q)) := by
  refine ⟨fun pinsZ sZ σZ HZ Q IZ h => ?_⟩
  obtain ⟨hs, hc, htu, ht⟩ := h
  refine wpAny_Call_Name_kw (thn ((pe_var (pos := p1) (i := i) hN hv hd hcd).run pinsZ sZ σZ HZ (fun v H1 => v = .ref f ∧ H1 = HZ) IZ ⟨.ref f, hs, rfl, rfl⟩) fun u s1 ⟨v, H1, I1, r1, q1⟩ => ?_)
  obtain ⟨ev, eH⟩ := q1
  subst ev
  rw [eH] at I1
  obtain rfl : u = Value.ref f := r1
  have of1 : s1.heap.get? f = some (PySem.W.kld_obj "<lambda>" (X.env.qual ++ "<lambda>") params body scope (cloFrom X.env.cells scope.names []) (.ref tu) pm c' ctv) := I1.base.keep f _ hf hfn hfr (fun z => nomatch (show f ∈ ([] : List Addr) from z))
  refine PySem.W.callWith_F0 ⟨_, _, _, _, of1⟩ ?_
  have un : Un (frs X.stack) [] H HZ s.heap s1.heap := I1.base
  obtain ⟨⟨oc, vs, t, hoc, hdc, hvc⟩, _, _⟩ := I1.hok c' _ hc
  have rc : codeAny (model X.prog X.w) (X.A.deeper (envOfC qg sg s.heap.objs.size g cdg)) (.call (.ref f) ⟨[], []⟩) (CR (L2.CX X.prog X.w) (envOfC qg sg s.heap.objs.size g cdg :: X.stack) X.prog X.w HZ s1 Q E) s1 := by
    refine PySem.W.kla_callFunE hr.depth of1 rfl L.co L.gen rfl ⟨c', oc, vs, t, rfl, hoc, hdc, hvc⟩ ?_
    obtain ⟨its, rv, hT, hz⟩ := I1.tuple (SqT.of htu)
    obtain ⟨ot, hot, _, n, hdt⟩ := hT
    cases rv with
    | @cons _ u _ us ru rn =>
      cases rn
      obtain ⟨kf, hb1, hb2⟩ := hbind u
      refine BindsTo.of_defaults (fd := PySem.W.kld_fn "<lambda>" (X.env.qual ++ "<lambda>") params body scope (cloFrom X.env.cells scope.names []) (.ref tu) pm (.ref c') ctv) (args := ⟨[], []⟩) (o := ot) (items := #[u]) rfl hot hdt hb1 hb2 _ _ _ _ ?_
      refine wpAny_newFunctionEnv (fun y hy => (L.own y hy).1) (fun y hy => ?_) (fun h₁ hns hsb => ⟨I1.nolimit.fresh _ hsb, ?_⟩) L.kind
      · rw [List.mem_singleton.mp hy]
        exact L.par
      show codeAny _ _ (.expr body (lamEnv X scope s1.heap.objs.size f c')) _ _
      have kp : ∀ b o, s1.heap.get? b = some o → h₁.get? b = some o := fun b o e => hsb.extBut b o (Nat.ne_of_lt (Heap.lt_size e)) (Heap.get?_push_of_some _ e)
      have J : Inv (lamCx X (X.A.deeper (envOfC qg sg s.heap.objs.size g cdg)) (envOfC qg sg s.heap.objs.size g cdg :: X.stack) s1 HZ E scope f c') [] σ HZ { s1 with heap := h₁, toks := s1.toks + ([(px, u)] : List (Str × Value)).length } :=
        lam_startD I L I1.env0 hr.hd un hns kp
      refine PySem.W.kla_codeExpr (wpAny_mono ((hbody _ _ s1 HZ (hr.deeper _)).run [] _ _ HZ Q J ht) (fun v s' hq => ?_) fun e s' hq => hq)
      obtain ⟨w', H', J', rv, q⟩ := hq
      exact ⟨w', H', J'.os, J'.bare, J'.base, J'.hok, rv, q⟩
  have hx : Passes (L2.CX X.prog X.w) ((cxOf CXg X.prog X.w X.K X.mg X.base Ng qg sg g cdg X.A X.stack s H Eg).tr pn xe) E := passes_call tk hW
  refine wpAny_call (codeAny_mono rc fun r s' hq => ?_)
  cases r with
  | error e => exact hx pinsZ σZ HZ s1 e s' I1 hq
  | ok fl =>
    cases fl with
    | ret u => exact I1.after hq
    | next => exact False.elim hq
    | brk => exact False.elim hq
    | cont => exact False.elim hq
end
/-- x(lambda y=k: body): T's tables, the tuple of the default -/
def tLamD (T : List (Addr × Str)) (kd : Int) (TT : (XK → Hp → VK → Prop) → Hp → VK → Prop) (t : XK → TE) : TE := fun σ H Q => Tabs T H ∧ ∀ H1 tu, ExtN H H1 → Tabs T H1 → H1 tu = some (.tup [.int kd]) → TT (fun E H' Q' => H' tu = some (.tup [.int kd]) ∧ t E σ H' Q') H1 Q
section
variable {X : Cx}
theorem pe_lamcallD {T : List (Addr × Str)} {TT : (XK → Hp → VK → Prop) → Hp → VK → Prop} {x a px : Str} {g c P : Addr} {k j : Nat} {kd : Int} {pg : Arguments} {bg : List Stmt} {sg : Scope} {dV kV doc pm cdv ct oc : Value} {an od : Option Addr} {osl : Array (Option Value)} {Ng : List Str}
    {params : Arguments} {body : Expr} {scope : Scope} {t : XK → TE} {p lpos cp pos : Pos} (hg : Gl X x) (hm : X.mg x = some (.ref g)) (hk : PySem.W.keepIn X.K (.ref g) = true)
    (lk : X.K.lookup g = some ⟨oc, od, .func (PySem.W.fnOf x x pg bg sg dV kV doc pm an cdv ct), osl⟩) (hcg : PySem.W.codeIn X.K cdv x = true) (hb : L2.Binds X.K (PySem.W.fnOf x x pg bg sg dV kV doc pm an cdv ct) [a] []) (Sg : FnScope Ng [a] sg) (hNg : Ng[0]? = some a) (hva : Vis sg a)
    (hG : GivesTo X Ng x sg g cdv bg a (X.env.qual ++ "<lambda>") TT)
    (TB : TabB X.base X.mg c P) (hcode : X.env.code = .ref c) (hmT : (P, X.env.qual ++ "<lambda>") ∈ T) (hu : ∀ p ∈ T, p.1 = P → p.2 = X.env.qual ++ "<lambda>") (hr : Room (k + 2) X.A) (L : LamD X.N X.env.scope scope px) (hdef : defaultsOf params X.env = ([eval (.Constant (.int kd) j cp) X.env], []))
    (hbind : ∀ (q : Str) (cl : List (Str × Addr)) (tu : Addr) (pm cv ctv u : Value), ∃ kf, bindArgs (PySem.W.kld_fn "<lambda>" q params body scope cl (.ref tu) pm cv ctv) ⟨[], []⟩ = seqItems? (.ref tu) >>= kf ∧ kf (some #[u]) = pure [(px, u)])
    (hbody : ∀ (A : Around) (outer : List Env) (s : Shared) (H : Hp) (E : XK) (f c' : Addr), Room k (A.deeper (lamEnv X scope s.heap.objs.size f c')) → PE (lamCx X A outer s H E scope f c') body (t E))
    (hdb : (x == ("__debug__" : Str)) = false := by decide) (hd : (a == ("__debug__" : Str)) = false := by decide) (hcd : (a == ("__classdict__" : Str)) = false := by decide) :
    PE X (.Call (.Name x p) [.Lambda params body scope lpos] [] pos) (tLamD T kd TT t) := by
  refine ⟨fun pins s σ H Q I h => ?_⟩
  obtain ⟨hT, h⟩ := h
  refine wpAny_Call_Name_kw (ld_glob I hg hm ?_ hdb)
  refine PySem.W.callWith_K (h₀ := X.base) I.ok.mod.kin hk ?_ (by rfl) (by rfl)
  show wpAny _ _ (spliced ((false, eval (.Lambda params body scope lpos) X.env) :: backTo pos (starEach [] X.env))) _ _ s
  refine Calls.spliced_cons (lam_makeD I TB hcode hmT hu hT hdef (L.has I.ok) fun f c' tu pm' ctv H1 s' I1 eN T1 htu hf hfn hfr hco => ?_)
  refine Calls.spliced_nil ⟨I1.kIn, ?_⟩
  have rc : codeAny (model X.prog X.w) X.A (.call (.ref g) ⟨[.ref f], []⟩) (CR C8.CX0 X.stack X.prog X.w H1 s' Q C8.E0) s' := by
    refine run_ofS (N := Ng) (ps := [a]) (us := [.ref f]) (vs := [.ref f]) lk hcg Sg hr I1.env0 (hb s' [.ref f] I1.kIn rfl) (.cons rfl .nil) rfl fun hr' => ?_
    obtain ⟨t', ht', hq'⟩ := hG f c' s' H1 Q (fun E H' Q' => H' tu = some (.tup [.int kd]) ∧ t E σ H' Q') (fun W pn xe E p1 p2 tk hW => pe_actD (i := 0) I1 L hf hfn hfr (fun u => hbind _ _ _ _ _ _ u) tk hW hr' (fun A outer s H hr2 => hbody A outer s H E f c' hr2) hNg hva hd hcd) hco (h H1 tu eN T1 htu)
    exact ⟨t', ht'.nox, hq'⟩
  refine wpAny_call (codeAny_mono rc fun r s2 hq => ?_)
  cases r with
  | error e => exact (show False from hq).elim
  | ok fl =>
    cases fl with
    | ret u => exact I1.after hq
    | next => exact False.elim hq
    | brk => exact False.elim hq
    | cont => exact False.elim hq
end
end LamX
end
section
set_option maxHeartbeats 4000000
namespace Kx
open PySem PySem.Spec PyProof.Rows L2
/-! ### the errors -/
/-- what an own __init__ of n parameters leaves: fs of the values -/
def spIn (C : Addr) (n : Nat) (fs : List V → List (Str × V)) : Sp := fun vs H Q _ => ∃ (a : Addr) (ws : List V), vs = .ref a :: ws ∧ ws.length = n ∧ H a = some (exo a C none) ∧
  ∀ e H', e ≠ a → H e = none → H' a = some (exo a C (some e)) → H' e = some (exd e (fs ws)) → free3 H H' a e → Q .non H'
/-- one value -/
def fs1 (nm at_ : Str) (ws : List V) : List (Str × V) := match ws with
  | [v] => [(at_, v), ("code", .str nm)]
  | _ => []
/-- two values -/
def fs2 (nm at1 at2 : Str) (ws : List V) : List (Str × V) := match ws with
  | [v, u] => [(at2, u), (at1, v), ("code", .str nm)]
  | _ => []
/-- what stands of such a class: it may be made, its __init__ keeps its promise -/
structure ErrC (P : Program) (w : World) (K : PySem.W.Frag) (mg : Str → Option Value) (base : Heap) (nm : Str) (n : Nat) (fs : List V → List (Str × V)) (C : Addr) : Prop where
  T : XC K C
  ty : PySem.W.typeIn K (.ref C) = some (.type "type")
  m : mg nm = some (.ref C)
  i : ∃ (fI : Addr) (fd : FuncData) (ps : List Str), PySem.W.findIn K (.ref C) "__init__" = some (some (.ref fI)) ∧ PySem.W.isFn K (.ref fI) = true ∧ FnOk P w K mg base CX0 1 fI fd ps (spIn C n fs) ∧ Binds K fd ps []
/-- such an error is in the air -/
def Air (H : Hp) (C : Addr) (fs : List (Str × V)) (E : XK) : Prop := ∀ d H', Same H H' → H d = none → H' d = some (.xd fs) → E (.ref C) (some d) H'
theorem Air.same {H H' : Hp} {C : Addr} {fs : List (Str × V)} {E : XK} (h : Air H C fs E) (s : Same H H') : Air H' C fs E := fun d H2 s2 n e => h d H2 (s.trans s2) (s.free n) e
/-- one is made: from the promise of its __init__ -/
theorem air_of {H : Hp} {a C : Addr} {n : Nat} {fs : List V → List (Str × V)} {ws : List V} {E : XK} (hn : H a = none) (l : ws.length = n) (h : Air H C (fs ws) E) :
    spIn C n fs (.ref a :: (ws ++ [])) (upd H a (exo a C none)) (fun v H2 => v = .non ∧ ∃ (d : Addr) (gs : List (Str × V)), H2 a = some (exo a C (some d)) ∧ H2 d = some (exd d gs) ∧ H d = none ∧ E (.ref C) (some d) (upd (del H2 a) d (.xd gs))) (fun _ _ _ => False) := by
  refine ⟨a, ws, by rw [List.append_nil], l, upd_same, fun e H' ne he h1 h2 h3 => ⟨rfl, e, _, h1, h2, ?_, ?_⟩⟩
  · rw [upd_ne ne] at he
    exact he
  · have he' : H e = none := by rw [upd_ne ne] at he; exact he
    refine h e _ (fun b o hb => ?_) he' upd_same
    have b1 : b ≠ a := fun z => by rw [z, hn] at hb; cases hb
    have b2 : b ≠ e := fun z => by rw [z, he'] at hb; cases hb
    rw [upd_ne b2, del_ne b1, h3 b b1 b2, upd_ne b1]
    exact hb
section
variable {P : Program} {w : World} {K : PySem.W.Frag} {mg : Str → Option Value} {base : Heap} {f C : Addr} {fd : FuncData}
theorem scI2 : FnScope ["self", "at"] ["self", "at"] (defScope C_InvalidFraction_init) := ⟨rfl, rfl, rfl, by decide +kernel, rfl, by decide +kernel, by decide +kernel⟩
theorem scI3 : FnScope ["self", "value"] ["self", "value"] (defScope C_InvalidOrder_init) := ⟨rfl, rfl, rfl, by decide +kernel, rfl, by decide +kernel, by decide +kernel⟩
theorem scI5 : FnScope ["self", "one", "other"] ["self", "one", "other"] (defScope C_UnlikeOrders_init) := ⟨rfl, rfl, rfl, by decide +kernel, rfl, by decide +kernel, by decide +kernel⟩
theorem scI6 : FnScope ["self", "value"] ["self", "value"] (defScope C_InvalidPlace_init) := ⟨rfl, rfl, rfl, by decide +kernel, rfl, by decide +kernel, by decide +kernel⟩
theorem init_2 (F : Fun K "__init__" "InvalidFraction.__init__" C_InvalidFraction_init f fd) (T : XC K C) (n0 : PySem.W.findIn K (.ref C) "code" = some none) (n1 : PySem.W.findIn K (.ref C) "at" = some none) : FnOk P w K mg base CX0 1 f fd ["self", "at"] (spIn C 1 (fs1 "InvalidFraction" "at")) := by
  refine F.ok scI2 (fun vs H Q E h => ?_) (fun cdv A outer s H vs Q E hr h => ?_)
  · obtain ⟨a, ws, rfl, l, _⟩ := h
    exact congrArg Nat.succ l
  obtain ⟨a, ws, rfl, l, ha, q⟩ := h
  obtain ⟨v, rfl⟩ : ∃ v, ws = [v] := by match ws, l with | [v], _ => exact ⟨v, rfl⟩
  refine ⟨_, pss_cons (ps_xst (pv 0) pe_str) (pss_one (ps_xst (pv 0) (pv 1))), ?_⟩
  refine ⟨_, rfl, a, _, rfl, T, n0, .inl ⟨ha, fun e H1 ne he h1 h2 h3 => ?_⟩⟩
  refine ⟨_, rfl, _, rfl, a, _, rfl, T, n1, .inr ⟨e, _, h1, h2, (by show 1 ≤ 900; decide), ?_⟩⟩
  exact q e _ ne he (by rw [upd_ne (Ne.symm ne)]; exact h1) (by rw [upd_same]; rfl) (fun b b1 b2 => by rw [upd_ne b2]; exact h3 b b1 b2)
theorem init_3 (F : Fun K "__init__" "InvalidOrder.__init__" C_InvalidOrder_init f fd) (T : XC K C) (n0 : PySem.W.findIn K (.ref C) "code" = some none) (n1 : PySem.W.findIn K (.ref C) "value" = some none) : FnOk P w K mg base CX0 1 f fd ["self", "value"] (spIn C 1 (fs1 "InvalidOrder" "value")) := by
  refine F.ok scI3 (fun vs H Q E h => ?_) (fun cdv A outer s H vs Q E hr h => ?_)
  · obtain ⟨a, ws, rfl, l, _⟩ := h
    exact congrArg Nat.succ l
  obtain ⟨a, ws, rfl, l, ha, q⟩ := h
  obtain ⟨v, rfl⟩ : ∃ v, ws = [v] := by match ws, l with | [v], _ => exact ⟨v, rfl⟩
  refine ⟨_, pss_cons (ps_xst (pv 0) pe_str) (pss_one (ps_xst (pv 0) (pv 1))), ?_⟩
  refine ⟨_, rfl, a, _, rfl, T, n0, .inl ⟨ha, fun e H1 ne he h1 h2 h3 => ?_⟩⟩
  refine ⟨_, rfl, _, rfl, a, _, rfl, T, n1, .inr ⟨e, _, h1, h2, (by show 1 ≤ 900; decide), ?_⟩⟩
  exact q e _ ne he (by rw [upd_ne (Ne.symm ne)]; exact h1) (by rw [upd_same]; rfl) (fun b b1 b2 => by rw [upd_ne b2]; exact h3 b b1 b2)
theorem init_6 (F : Fun K "__init__" "InvalidPlace.__init__" C_InvalidPlace_init f fd) (T : XC K C) (n0 : PySem.W.findIn K (.ref C) "code" = some none) (n1 : PySem.W.findIn K (.ref C) "value" = some none) : FnOk P w K mg base CX0 1 f fd ["self", "value"] (spIn C 1 (fs1 "InvalidPlace" "value")) := by
  refine F.ok scI6 (fun vs H Q E h => ?_) (fun cdv A outer s H vs Q E hr h => ?_)
  · obtain ⟨a, ws, rfl, l, _⟩ := h
    exact congrArg Nat.succ l
  obtain ⟨a, ws, rfl, l, ha, q⟩ := h
  obtain ⟨v, rfl⟩ : ∃ v, ws = [v] := by match ws, l with | [v], _ => exact ⟨v, rfl⟩
  refine ⟨_, pss_cons (ps_xst (pv 0) pe_str) (pss_one (ps_xst (pv 0) (pv 1))), ?_⟩
  refine ⟨_, rfl, a, _, rfl, T, n0, .inl ⟨ha, fun e H1 ne he h1 h2 h3 => ?_⟩⟩
  refine ⟨_, rfl, _, rfl, a, _, rfl, T, n1, .inr ⟨e, _, h1, h2, (by show 1 ≤ 900; decide), ?_⟩⟩
  exact q e _ ne he (by rw [upd_ne (Ne.symm ne)]; exact h1) (by rw [upd_same]; rfl) (fun b b1 b2 => by rw [upd_ne b2]; exact h3 b b1 b2)
theorem init_5 (F : Fun K "__init__" "UnlikeOrders.__init__" C_UnlikeOrders_init f fd) (T : XC K C) (n0 : PySem.W.findIn K (.ref C) "code" = some none) (n1 : PySem.W.findIn K (.ref C) "one" = some none) (n2 : PySem.W.findIn K (.ref C) "other" = some none) : FnOk P w K mg base CX0 1 f fd ["self", "one", "other"] (spIn C 2 (fs2 "UnlikeOrders" "one" "other")) := by
  refine F.ok scI5 (fun vs H Q E h => ?_) (fun cdv A outer s H vs Q E hr h => ?_)
  · obtain ⟨a, ws, rfl, l, _⟩ := h
    exact congrArg Nat.succ l
  obtain ⟨a, ws, rfl, l, ha, q⟩ := h
  obtain ⟨v, u, rfl⟩ : ∃ v u, ws = [v, u] := by match ws, l with | [v, u], _ => exact ⟨v, u, rfl⟩
  refine ⟨_, pss_cons (ps_xst (pv 0) pe_str) (pss_cons (ps_xst (pv 0) (pv 1)) (pss_one (ps_xst (pv 0) (pv 2)))), ?_⟩
  refine ⟨_, rfl, a, _, rfl, T, n0, .inl ⟨ha, fun e H1 ne he h1 h2 h3 => ?_⟩⟩
  refine ⟨_, rfl, _, rfl, a, _, rfl, T, n1, .inr ⟨e, _, h1, h2, (by show 1 ≤ 900; decide), ?_⟩⟩
  refine ⟨_, rfl, _, rfl, a, _, rfl, T, n2, .inr ⟨e, _, (by rw [upd_ne (Ne.symm ne)]; exact h1), upd_same, (by show 2 ≤ 900; decide), ?_⟩⟩
  exact q e _ ne he (by rw [upd_ne (Ne.symm ne), upd_ne (Ne.symm ne)]; exact h1) (by rw [upd_same]; rfl) (fun b b1 b2 => by rw [upd_ne b2, upd_ne b2]; exact h3 b b1 b2)
end
end Kx
end
section
set_option maxHeartbeats 4000000
/-! enumerate over a tuple -/
namespace PySem
open Sem (wp)
open AutoSeq1 (wpAny_loadPart')
theorem meets_enumerate_newT (l : Addr) (items : Array Value) (n : Nat) (dct : Option Addr) (sl : Array (Option Value)) :
    Meets (Builtin.«enumerate.__new__» ⟨[.type "enumerate", .ref l], []⟩) (fun _ R s => s.heap.get? l = some { cls := .type "tuple", dict := dct, data := .seq items n, slots := sl } ∧
      R (.ok (.ret (.ref (s.heap.push { cls := .type "tuple_iterator", data := .fields #[.ref l, .int 0 0] }).objs.size)))
        { s with heap := (s.heap.push { cls := .type "tuple_iterator", data := .fields #[.ref l, .int 0 0] }).push { cls := .type "enumerate", data := .fields #[.none, .bool false, .ref s.heap.objs.size, rawInt 0, .none, .none] } }) :=
  .of_wp fun prog w A R s h => by
    obtain ⟨hp, g, d, tk, os⟩ := s; obtain ⟨hl, h⟩ := h
    have hsub := sub_enumerate
    have hL : Heap.IsTuple (Shared.heap ⟨hp, g, d, tk, os⟩) l items := ⟨_, hl, rfl, n, rfl⟩
    wp_walk using wpAny_loadPart' hl
    refine wpAny_stack_any fun st => wpAny_pure ?_
    split
    · rename_i c _ _ _ _ _
      cases (c == Value.type "enumerate")
      · wp_walk using wpAny_loadPart' hl, wpAny_pyIter_tuple hL
        exact ⟨_, rfl, h⟩
      · wp_walk using wpAny_loadPart' hl, wpAny_pyIter_tuple hL
        exact ⟨_, rfl, h⟩
    · wp_walk using wpAny_loadPart' hl, wpAny_pyIter_tuple hL
      exact ⟨_, rfl, h⟩
section
variable {prog : Program} {w : World} {A : Around} {E : Value → Shared → Prop} {s : Shared}
theorem call_enumerate_tup {l : Addr} {items : Array Value} {Q : Value → Shared → Prop} (hL : s.heap.IsTuple l items)
    (h : ∀ h', IsEnum h' (s.heap.objs.size + 1) s.heap.objs.size 0 .none → h'.IsTupleIter s.heap.objs.size l 0 → h'.objs.size = s.heap.objs.size + 2 →
      (∀ b o, s.heap.get? b = some o → h'.get? b = some o) → Q (.ref (s.heap.objs.size + 1)) { s with heap := h' }) :
    wpAny (model prog w) A (call (.type "enumerate") [.ref l]) Q E s := by
  obtain ⟨⟨c, dct, dt, sl⟩, hl, hc, n, hd⟩ := hL
  replace hc : c = .type "tuple" := hc
  replace hd : dt = .seq items n := hd
  subst hc hd
  refine callType_new F.called_enumerate (by decide) (F.typeCall_enumerate_1 _) (F.newCall_enumerate_1 _) (fun obj => F.args_object_init_2 obj _) F.entry_enumerate_new
    (meets_enumerate_newT l items n dct sl) ⟨hl, ?_⟩
  have hz : (s.heap.push { cls := .type "tuple_iterator", data := .fields #[.ref l, .int 0 0] }).objs.size = s.heap.objs.size + 1 := Heap.size_push ..
  show _ ∧ _
  rw [hz]
  have he : IsEnum ((s.heap.push { cls := .type "tuple_iterator", data := .fields #[.ref l, .int 0 0] }).push
      { cls := .type "enumerate", data := .fields #[.none, .bool false, .ref s.heap.objs.size, rawInt 0, .none, .none] }) (s.heap.objs.size + 1) s.heap.objs.size 0 .none := by
    have := Heap.get?_push_size (s.heap.push { cls := .type "tuple_iterator", data := .fields #[.ref l, .int 0 0] })
      (o := { cls := .type "enumerate", data := .fields #[.none, .bool false, .ref s.heap.objs.size, rawInt 0, .none, .none] }) rfl
    rw [hz] at this; exact this
  refine ⟨⟨_, he, rfl⟩, h _ he ⟨_, Heap.get?_push_of_some _ (Heap.get?_push_size _ rfl), rfl, rfl⟩ (by rw [Heap.size_push, hz]) fun b o x => Heap.get?_push_of_some _ (Heap.get?_push_of_some _ x)⟩
theorem wpAny_pyNext_enum_endT {e it l : Addr} {i : Nat} {items : Array Value} {old : Value} {Q : Option Value → Shared → Prop} (hh : A.handled = none)
    (he : IsEnum s.heap e it i old) (hit : s.heap.IsTupleIter it l i) (hl : s.heap.IsTuple l items) (hx : items[i]? = none)
    (hQ : ∀ h', Heap.ExtBut it s.heap h' → Q none { s with heap := h' }) : wpAny (model prog w) A (pyNext (.ref e)) Q E s := by
  have hT : s.TypeIs (.ref e) "enumerate" := ⟨_, he, rfl⟩
  unfold pyNext
  refine wpAny_bind (wpAny_attempt (wpAny_callSpecial?_slot (name := Str.ofString "__next__") hT F.slot_enumerate_next
    (wpAny_call_entry F.slot_enumerate_next hT F.entry_enumerate_next ?_ (F.args_enumerate_next_1 _))))
  show wpAny _ _ (field (.ref e) 2 >>= _) _ _ _
  refine wpAny_bind (wpAny_field he rfl (x := .ref it) rfl ?_)
  refine wpAny_bind (wpAny_nextOf_tuple_end hh hit hl hx fun h' x he' hx' => ?_)
  obtain ⟨o, ho, hc⟩ := hx'
  refine wpAny_bind (wpAny_isInstance (T := "StopIteration") (b := true) ⟨o, ho, hc⟩ isSubtype_stop ?_)
  exact wpAny_pure (hQ _ he')
end
end PySem
namespace L2
open PySem PySem.Spec PyProof.Rows
/-- the tuple at a as it stands at each turn, each item in a new pair -/
def IteT (K : PySem.W.Frag) (a : Addr) : It :=
  ⟨fun i H => ∃ (xs : List V) (x : V), SqT K H a xs ∧ xs[i]? = some x, fun i H v H' => ∃ T x, v = .ref T ∧ H T = none ∧ H' = upd H T (.tup [.int (i : Nat), x]) ∧ ∀ xs, SqT K H a xs → xs[i]? = some x, fun i H => ∃ xs : List V, SqT K H a xs ∧ xs.length ≤ i⟩
theorem turn_enumT {P : Program} {w : World} {K : PySem.W.Frag} {elts : List Expr} {kk : Nat} {tpos : Pos} (a e it : Addr) (hai : a ≠ it) :
    Turn P w K (.Tuple elts kk tpos) (IteT K a) [e, it] e (fun i h => (∃ old, IsEnum h e it ((i : Nat) : Int) old) ∧ h.IsTupleIter it a i ∧ e ≠ it ∧ e ≠ a) where
  mem := by simp
  obj := fun i h st b hb => by
    obtain ⟨⟨old, he⟩, ⟨o, ho, hc, hd⟩, _⟩ := st
    have e' : b = e ∨ b = it := by simpa using hb
    rcases e' with z | z
    · rw [z]; exact ⟨_, he, fun v q => nomatch q⟩
    · rw [z]; exact ⟨o, ho, fun v q => by rw [hd] at q; cases q⟩
  keep := fun i h h' st k => let ⟨⟨old, he⟩, hi, hne⟩ := st; ⟨⟨old, k e (by simp) _ he⟩, hi.at fun o q => k it (by simp) o q, hne⟩
  item := by
    intro X hP hw hK hc i pins s σ H E I hf st hg
    subst hP hw hK
    obtain ⟨⟨old, he⟩, hit, hne, hna⟩ := st
    obtain ⟨xs, x, hq, hx⟩ := hg
    obtain ⟨its, rv, p, hz⟩ := I.tuple hq
    obtain ⟨u, hu, ru⟩ := rv.get hx
    have hel : e < s.heap.objs.size := Heap.lt_size he
    have hil : it < s.heap.objs.size := by obtain ⟨_, q, _⟩ := hit; exact Heap.lt_size q
    have hsz0 : i < its.toArray.size := by
      have := (List.getElem?_eq_some_iff.mp hu).1
      simpa using this
    refine wpAny_pyNext_enum_itemD (Draws.tuple (prog := X.prog) (w := X.w) (A := X.A.in1) (I.ok.hd hc) it a hai its.toArray) he ⟨hit, p⟩ hsz0 hne (by simp [hne, hna]) fun x' h' tk hx' ho hit' hT hsz hk => ?_
    have ex : x' = u := by
      have h2 : its.toArray[i]? = some u := by simpa using hu
      rw [h2] at hx'
      exact (Option.some.inj hx').symm
    subst ex
    refine ⟨_, rfl, wpAny_letOwnedTupleGo_enum (s := { s with heap := h', toks := tk + 1 }) ho fun h'' he' sb => ?_⟩
    have hT2 : h''.get? s.heap.objs.size = some { cls := .type "tuple", data := .seq #[.int i tk, x'] } := (sb.2 _ (Nat.ne_of_gt hel)).trans hT
    have new : ObjOk X.prog X.w (upd H s.heap.objs.size (.tup [.int (i : Nat), x])) h'' s.heap.objs.size (.tup [.int (i : Nat), x]) :=
      ⟨by show 2 ≤ sizeLine; decide, [.int i tk, x'], .cons ⟨_, rfl⟩ (.cons ru .nil), ⟨_, hT2, rfl, _, rfl⟩⟩
    have I1 : Inv X pins σ (upd H s.heap.objs.size (.tup [.int (i : Nat), x])) { s with heap := h'', toks := tk + 1 } :=
      I.turnedNew (ch := [e, it]) (fun b ob hb q => (sb.2 b (fun z => hb (by simp [z]))).trans (hk b ob (fun z => hb (by simp [z])) (fun z => hb (by simp [z])) q)) hf (Nat.le_refl _) new
    refine ⟨.ref s.heap.objs.size, _, I1, rfl, ⟨_, x, rfl, I.hok.fresh (Nat.le_refl _), rfl, fun ys hy => by rw [I.tuple_inj hy hq]; exact hx⟩, ⟨⟨x', ?_⟩, hit'.1.at fun o q => (sb.2 it (Ne.symm hne)).trans q, hne, hna⟩, fun b hb => ?_⟩
    · have e1 : ((i + 1 : Nat) : Int) = (i : Int) + 1 := by omega
      rw [e1]; exact he'
    · have hb' : b < s.heap.objs.size := by
        have e' : b = e ∨ b = it := by simpa using hb
        rcases e' with z | z
        · rw [z]; exact hel
        · rw [z]; exact hil
      rw [upd_ne (Nat.ne_of_lt hb')]
      exact (hf b hb).1
  done := by
    intro X hP hw hK hc i pins s σ H E I hf st hg
    subst hP hw hK
    obtain ⟨⟨old, he⟩, hit, hne, hna⟩ := st
    obtain ⟨xs, hq, hx⟩ := hg
    obtain ⟨its, rv, p, hz⟩ := I.tuple hq
    obtain ⟨f0, f1, f2, f3, f4, f5⟩ := hf it (by simp)
    have hl := rv.length
    have D := Draws.tuple (prog := X.prog) (w := X.w) (A := X.A.in1) (I.ok.hd hc) it a hai its.toArray
    refine wpAny_pyNext_enum_endT (I.ok.hd hc) he hit p (by simp; omega) fun h' eb => ⟨rfl, I.turned (t' := s.toks) (fun b o hb q => eb b o hb q) f0 f1 f3 f4 f5⟩
  self := fun A i s Q E st h => let ⟨⟨_, he⟩, _⟩ := st; wpAny_pyIter_enum he h
/-- a list or a tuple -/
def iEnumA (K : PySem.W.Frag) (ta : TA) : TI := fun σ H R => ta σ H fun vs H1 => ∃ a xs, vs = [.ref a] ∧ ((SqL K H1 a xs ∧ R (Ite K a) H1) ∨ (SqT K H1 a xs ∧ R (IteT K a) H1))
theorem pi_enumA {X : Cx} {e : Expr} {ta : TA} {p pos tpos : Pos} {elts : List Expr} {kk : Nat} (hg : Gl X "enumerate") (hm : X.mg "enumerate" = none) (ha : PA X [e] ta) (hs : starEach [e] X.env = [(false, eval e X.env)] := by rfl) :
    PI X (.Tuple elts kk tpos) (.Call (.Name "enumerate" p) [e] [] pos) (iEnumA X.K ta) := by
  refine ⟨fun pins s σ H R I h => ?_⟩
  refine Call_ (ld_blt I hg hm boot_enumerate (PyProof.Rows.callWith_type1 (thn (ha.run pos pins s σ H _ I h) fun us s1 ⟨vs, H1, I1, r1, q1⟩ => ?_) hs rfl))
  obtain ⟨a, xs, ex, hq⟩ := q1
  subst ex
  cases r1 with
  | cons r rr =>
    cases rr
    cases r
    rcases hq with ⟨hq, q⟩ | ⟨hq, q⟩
    · obtain ⟨its, rv, p', hz⟩ := I1.list hq
      refine call_enumerate_list p'.isList fun h' he hit hsz hk => wpAny_pyIter_enum he ?_
      have I2 : Inv X pins σ H1 { s1 with heap := h' } := I1.kept (t' := s1.toks) hk
      refine ⟨s1.heap.objs.size + 1, [s1.heap.objs.size + 1, s1.heap.objs.size], _, _, H1, rfl, I2, turn_enum a (s1.heap.objs.size + 1) s1.heap.objs.size, ⟨⟨.none, he⟩, hit, Nat.succ_ne_self _⟩, fun b hb => ?_, q⟩
      have e' : b = s1.heap.objs.size + 1 ∨ b = s1.heap.objs.size := by simpa using hb
      have hle : s1.heap.objs.size ≤ b := by
        rcases e' with z | z
        · rw [z]; exact Nat.le_add_right _ _
        · rw [z]; exact Nat.le_refl _
      exact I1.fpOk hle (I1.hok.fresh hle)
    · obtain ⟨its, rv, p', hz⟩ := I1.tuple hq
      have hal : a < s1.heap.objs.size := by
        obtain ⟨o, ho, _⟩ := p'
        exact Heap.lt_size ho
      refine call_enumerate_tup p' fun h' he hit hsz hk => wpAny_pyIter_enum he ?_
      have I2 : Inv X pins σ H1 { s1 with heap := h' } := I1.kept (t' := s1.toks) hk
      refine ⟨s1.heap.objs.size + 1, [s1.heap.objs.size + 1, s1.heap.objs.size], _, _, H1, rfl, I2, turn_enumT a (s1.heap.objs.size + 1) s1.heap.objs.size (Nat.ne_of_lt hal), ⟨⟨.none, he⟩, hit, Nat.succ_ne_self _, Nat.ne_of_gt (Nat.lt_succ_of_lt hal)⟩, fun b hb => ?_, q⟩
      have e' : b = s1.heap.objs.size + 1 ∨ b = s1.heap.objs.size := by simpa using hb
      have hle : s1.heap.objs.size ≤ b := by
        rcases e' with z | z
        · rw [z]; exact Nat.le_add_right _ _
        · rw [z]; exact Nat.le_refl _
      exact I1.fpOk hle (I1.hok.fresh hle)
theorem walk_enumT {K : PySem.W.Frag} {a : Addr} {xs : List V} : Walk (IteT K a) xs.length (fun H => SqT K H a xs) (YPair (fun i => some (.int (i : Nat))) (fun i => xs[i]?)) := by
  refine ⟨fun i _ hi q => ⟨xs, xs[i], q, by simp [hi]⟩, fun _ q => ⟨xs, q, Nat.le_refl _⟩, fun i H v H' _ q y => ?_⟩
  obtain ⟨T, x, h1, h2, h3, h4⟩ := y
  exact ⟨T, .int (i : Nat), x, h1, h2, h3, rfl, h4 xs q⟩
end L2
end
section
set_option maxHeartbeats 4000000
namespace Kx
open PySem PySem.Spec PyProof.Rows L2 RZ
theorem rel_ty (n : String) : RelV (.ty n) (.type n) := rfl
theorem kb_l : kitB "list" "list" = some true ∧ kitB "list" "tuple" = some false ∧ kitB "tuple" "list" = some false ∧ kitB "tuple" "tuple" = some true := by decide +kernel
theorem kit2 {K : PySem.W.Frag} {s : String} {a b r : Bool} (h1 : kitB s "list" = some a) (h2 : kitB s "tuple" = some b) (hr : r = (a || b)) : PySem.W.kitAny K (.type s) [.type "list", .type "tuple"] = some r := by
  subst hr
  refine kitAny_cons (kit_ty h1) (fun ha => ?_) (fun ha => by rw [ha]; rfl)
  subst ha
  refine kitAny_cons (kit_ty h2) (fun hb => by rw [hb]; exact kitAny_nil) (fun hb => by rw [hb]; rfl)
theorem isi_at {X : Cx} (K : PySem.W.Frag) (h : X.K = K) : CallR X (.builtin "isinstance") (rIsi K) := by
  subst h
  exact call_isi
def WhV (K : PySem.W.Frag) (H : Hp) (v : V) (b : Bool) : Prop := ∀ H', Same H H' → ∃ (T : Value) (x y : Bool), TyX K H' v T ∧ PySem.W.kitOne K T (.type "int") = some x ∧ PySem.W.kitOne K T (.type "bool") = some y ∧ b = (x && !y)
theorem WhV.same {K : PySem.W.Frag} {H H' : Hp} {v : V} {b : Bool} (h : WhV K H v b) (s : Same H H') : WhV K H' v b := fun H2 s2 => h H2 (s.trans s2)
def spWhole (K : PySem.W.Frag) : Sp := fun vs H Q _ => ∃ (v : V) (b : Bool), vs = [v] ∧ WhV K H v b ∧ Q (.bl b) H
theorem kb_int : kitB "int" "int" = some true ∧ kitB "int" "bool" = some false := by decide +kernel
theorem wh_int {K : PySem.W.Frag} {H : Hp} (i : Int) : WhV K H (.int i) true := fun _ _ => ⟨.type "int", true, false, .base (.int i), kit_ty kb_int.1, kit_ty kb_int.2, rfl⟩
/-- is v a fraction: r; v may stand in the module, too -/
def IsG (K : PySem.W.Frag) (H : Hp) (v : V) (r : Bool) : Prop :=
  (∃ T, TyX K H v T ∧ PySem.W.kitOne K T (.type "tuple") = some false ∧ r = false) ∨
  (∃ a xs, v = .ref a ∧ SqT K H a xs ∧ TyX K H (.ref a) (.type "tuple") ∧ xs.length ≠ 2 ∧ r = false) ∨
  (∃ a x y b1 b2, v = .ref a ∧ SqT K H a [x, y] ∧ TyX K H (.ref a) (.type "tuple") ∧ WhV K H x b1 ∧ WhV K H y b2 ∧ (((b1 && b2) = false ∧ r = false) ∨ ∃ u l : Int, b1 = true ∧ b2 = true ∧ x = .int u ∧ y = .int l ∧ r = (decide (1 ≤ l) && decide (Nat.gcd u.natAbs l.natAbs = 1))))
def spIsG (K : PySem.W.Frag) : Sp := fun vs H Q _ => ∃ (v : V) (r : Bool), vs = [v] ∧ IsG K H v r ∧ Q (.bl r) H
theorem Nq.isG {K : PySem.W.Frag} {H : Hp} {v : V} {q : Rat} (h : Nq K H v q) : IsG K H v true := by
  obtain ⟨a, rfl, s, t⟩ := h.sq
  refine .inr (.inr ⟨a, _, _, true, true, rfl, s, t, wh_int _, wh_int _, .inr ⟨_, _, rfl, rfl, rfl, rfl, ?_⟩⟩)
  have h1 : (1 : Int) ≤ ((q.den : Nat) : Int) := by have := q.den_nz; omega
  have h2 : Nat.gcd q.num.natAbs ((q.den : Nat) : Int).natAbs = 1 := q.reduced
  rw [decide_eq_true h1, decide_eq_true h2]
  rfl
/-- is v an int from lo to hi: r -/
def InR (K : PySem.W.Frag) (H : Hp) (v : V) (lo hi : Int) (r : Bool) : Prop := ∃ b, WhV K H v b ∧ ((b = false ∧ r = false) ∨ ∃ i : Int, b = true ∧ v = .int i ∧ r = (decide (lo ≤ i) && decide (i ≤ hi)))
theorem InR.same {K : PySem.W.Frag} {H H' : Hp} {v : V} {lo hi : Int} {r : Bool} (h : InR K H v lo hi r) (s : Same H H') : InR K H' v lo hi r := by
  obtain ⟨b, h1, h2⟩ := h
  exact ⟨b, h1.same s, h2⟩
theorem InR.yes {K : PySem.W.Frag} {H : Hp} {lo hi i : Int} (h1 : lo ≤ i) (h2 : i ≤ hi) : InR K H (.int i) lo hi true := ⟨true, wh_int i, .inr ⟨i, rfl, rfl, by rw [decide_eq_true h1, decide_eq_true h2]; rfl⟩⟩
theorem InR.no {K : PySem.W.Frag} {H : Hp} {lo hi i : Int} (h : i < lo ∨ hi < i) : InR K H (.int i) lo hi false := ⟨true, wh_int i, .inr ⟨i, rfl, rfl, by
  symm
  rw [Bool.and_eq_false_iff, decide_eq_false_iff_not, decide_eq_false_iff_not]
  omega⟩⟩
theorem InR.int {K : PySem.W.Frag} {H : Hp} {lo hi i : Int} : InR K H (.int i) lo hi (decide (lo ≤ i) && decide (i ≤ hi)) := ⟨true, wh_int i, .inr ⟨i, rfl, rfl, rfl⟩⟩
def spBtw (K : PySem.W.Frag) : Sp := fun vs H Q _ => ∃ (v : V) (lo hi : Int) (r : Bool), vs = [v, .int lo, .int hi] ∧ InR K H v lo hi r ∧ Q (.bl r) H
abbrev nIF : List Str := ["value", "upper", "lower"]
/-! ### checks, with what they raise -/
def spCo (K : PySem.W.Frag) (CO : Addr) : Sp := fun vs H Q E => ∃ (v : V) (r : Bool), vs = [v] ∧ InR K H v 2 24 r ∧ (r = true → Q .non H) ∧ (r = false → Air H CO (fs1 "InvalidOrder" "value" [v]) E)
def spCk (K : PySem.W.Frag) (CN : Addr) : Sp := fun vs H Q E => ∃ (v : V) (r : Bool), vs = [v] ∧ IsG K H v r ∧ (r = true → Q .non H) ∧ (r = false → Air H CN (fs1 "InvalidNumber" "value" [v]) E)
def spCp (K : PySem.W.Frag) (CP : Addr) : Sp := fun vs H Q E => ∃ (v : V) (lo hi : Int) (r : Bool), vs = [v, .int lo, .int hi] ∧ InR K H v lo hi r ∧ (r = true → Q .non H) ∧ (r = false → Air H CP (fs1 "InvalidPlace" "value" [v]) E)
def spCc (K : PySem.W.Frag) (CO CL : Addr) : Sp := fun vs H Q E => ∃ (n : Int) (v : V) (r : Bool), vs = [.int n, v] ∧ InR K H v 2 24 r ∧ (r = false → Air H CO (fs1 "InvalidOrder" "value" [v]) E) ∧
  (r = true → ∀ i : Int, v = .int i → (i ≤ n → Q .non H) ∧ (n < i → Air H CL (fs2 "OrderTooLow" "have" "wanted" [.int n, .int i]) E))
/-- x has the attribute f with the value v -/
def At (K : PySem.W.Frag) (H : Hp) (x : V) (f : Str) (v : V) : Prop := ∃ (a C dx : Addr) (fs : List (Str × V)), x = .ref a ∧ H a = some (.ins C dx fs) ∧ Cls K C ∧ NoAttr K C f ∧ fs.lookup f = some v
def spCor (K : PySem.W.Frag) (CU : Addr) : Sp := fun vs H Q E => ∃ (x y : V) (n m : Int), vs = [x, y] ∧ At K H x "order" (.int n) ∧ At K H y "order" (.int m) ∧ (n = m → Q .non H) ∧ (n ≠ m → Air H CU (fs2 "UnlikeOrders" "one" "other" [.int n, .int m]) E)
section
variable {P : Program} {w : World} {K : PySem.W.Frag} {mg : Str → Option Value} {base : Heap} {f fW CO CN CP CL CU : Addr} {fd fdW : FuncData}
theorem scWh : FnScope ["value"] ["value"] (defScope F_is_whole) := ⟨rfl, rfl, rfl, by decide +kernel, rfl, by decide +kernel, by decide +kernel⟩
theorem ok_whole (F : Fun K "is_whole" "is_whole" F_is_whole f fd) (mI : mg "isinstance" = none) (mi : mg "int" = none) (mb : mg "bool" = none) : FnOk P w K mg base CX0 1 f fd ["value"] (spWhole K) := by
  refine F.ok scWh (fun vs H Q E h => ?_) (fun cdv A outer s H vs Q E hr h => ?_)
  · obtain ⟨v, b, rfl, _⟩ := h
    rfl
  obtain ⟨v, b, rfl, hw, q⟩ := h
  obtain ⟨T, x, y, ty, k1, k2, rfl⟩ := hw H (Same.refl H)
  refine ⟨_, pss_one (ps_ret (pe_and (pe_callB call_isi rfl mI (by decide +kernel) (pa_cons (pv 0) (pa_cons (pe_bltn rfl mi boot_int (rel_ty _)) pa_nil))) (pe_one (pe_not (pe_callB call_isi rfl mI (by decide +kernel) (pa_cons (pv 0) (pa_cons (pe_bltn rfl mb boot_bool (rel_ty _)) pa_nil))))))), ?_⟩
  refine ⟨_, rfl, v, _, T, _, x, rfl, .ty _, ty, k1, _, rfl, ?_⟩
  cases x with
  | false => exact iteF q
  | true => exact iteT ⟨_, rfl, v, _, T, _, y, rfl, .ty _, ty, k2, _, rfl, q⟩
theorem scBtw : FnScope ["value", "low", "high"] ["value", "low", "high"] (defScope F_is_between) := ⟨rfl, rfl, rfl, by decide +kernel, rfl, by decide +kernel, by decide +kernel⟩
theorem ok_btw (F : Fun K "is_between" "is_between" F_is_between f fd) (UW : Use P w K mg base CX0 1 "is_whole" ["value"] (spWhole K) []) : FnOk P w K mg base CX0 2 f fd ["value", "low", "high"] (spBtw K) := by
  refine F.ok scBtw (fun vs H Q E h => ?_) (fun cdv A outer s H vs Q E hr h => ?_)
  · obtain ⟨v, lo, hi, b, rfl, _⟩ := h
    rfl
  obtain ⟨v, lo, hi, r, rfl, ⟨b, hw, hh⟩, q⟩ := h
  refine ⟨_, pss_one (ps_ret (pe_and (pe_use UW hr rfl pass0 (pa_cons (pv 0) pa_nil)) (pe_one (pe_chain op_le op_le (pv 1) (pv 0) (pv 2))))), ?_⟩
  refine ⟨_, rfl, v, b, rfl, hw, _, rfl, ?_⟩
  rcases hh with ⟨rfl, rfl⟩ | ⟨i, rfl, rfl, rfl⟩
  · exact iteF q
  · refine iteT ⟨_, rfl, _, rfl, lo, i, rfl, rfl, _, rfl, ?_⟩
    by_cases c : lo ≤ i
    · rw [decide_eq_true c] at q ⊢
      exact iteT ⟨_, rfl, i, hi, rfl, rfl, by rw [Bool.true_and] at q; exact q⟩
    · rw [decide_eq_false c] at q ⊢
      exact iteF q
theorem scIF : FnScope nIF ["value"] (defScope F_is_fraction) := ⟨rfl, rfl, rfl, by decide +kernel, rfl, by decide +kernel, by decide +kernel⟩
theorem ok_isg (F : Fun K "is_fraction" "is_fraction" F_is_fraction f fd) (mI : mg "isinstance" = none) (mt : mg "tuple" = none) (mn : mg "len" = none) (mG : mg "gcd" = some (.builtin "math.gcd"))
    (UW : Use P w K mg base CX0 1 "is_whole" ["value"] (spWhole K) []) : FnOk P w K mg base CX0 2 f fd ["value"] (spIsG K) := by
  refine F.ok scIF (fun vs H Q E h => ?_) (fun cdv A outer s H vs Q E hr h => ?_)
  · obtain ⟨v, r, rfl, _⟩ := h
    rfl
  obtain ⟨v, r, rfl, hf, q⟩ := h
  refine ⟨_, pss_cons (ps_if (PW.pt (pw_or (pt_not (pt_val (pe_callB call_isi rfl mI (by decide +kernel) (pa_cons (pv 0) (pa_cons (pe_bltn rfl mt boot_tuple (rel_ty _)) pa_nil))))) (pw_or1 (pt_cmpR op_ne (pe_callB call_len_seq rfl mn PySem.boot_len (pa_cons (pv 0) pa_nil)) pe_int (nomark _))))) (pss_one (ps_ret pe_bl)) pss_nil)
    (pss_cons (ps_asg (pv 0) (pg_tup rfl (pgs_cons (pg_name (i := 1) scIF.nd rfl (Or.inl rfl)) (pgs_cons (pg_name (i := 2) scIF.nd rfl (Or.inl rfl)) pgs_nil))))
    (pss_cons (ps_if (PW.pt (pw_or (pt_not (pt_val (pe_use UW hr rfl pass0 (pa_cons (pv 1) pa_nil)))) (pw_or1 (pt_not (pt_val (pe_use UW hr rfl pass0 (pa_cons (pv 2) pa_nil))))))) (pss_one (ps_ret pe_bl)) pss_nil)
    (pss_one (ps_ret (pe_and (pe_cmpR op_ge (pv 2) pe_int (nomark _)) (pe_one (pe_cmpR op_eq (pe_callBfun cr_gcd rfl mG (pa_cons (pv 1) (pa_cons (pv 2) pa_nil))) pe_int (nomark _)))))))), ?_⟩
  have tk : PySem.W.kitOne K (.type "tuple") (.type "tuple") = some true := kit_ty kb_l.2.2.2
  rcases hf with ⟨T, ty, k, rfl⟩ | ⟨a, xs, rfl, ha, ht, hl, rfl⟩ | ⟨a, x, y, b1, b2, rfl, ha, ht, hx, hy, hh⟩
  · exact ⟨_, rfl, v, _, T, _, false, rfl, .ty _, ty, k, _, rfl, iteT q⟩
  · refine ⟨_, rfl, _, _, _, _, true, rfl, .ty _, ht, tk, _, rfl, iteF ?_⟩
    refine ⟨_, rfl, a, xs, rfl, .inr (ha), rfl, _, rfl, ?_⟩
    rw [decide_eq_false (fun e => hl (by have := V.int.inj e; omega))]
    exact iteT q
  · refine ⟨_, rfl, _, _, _, _, true, rfl, .ty _, ht, tk, _, rfl, iteF ?_⟩
    refine ⟨_, rfl, a, _, rfl, .inr (ha), rfl, _, rfl, iteF ?_⟩
    refine ⟨_, rfl, a, _, rfl, ha, rfl, _, _, rfl, _, _, rfl, rfl, ?_⟩
    rcases hh with ⟨hb, rfl⟩ | ⟨u, l, rfl, rfl, rfl, rfl, rfl⟩
    · cases b1 with
      | false => exact ⟨_, rfl, x, false, rfl, hx, _, rfl, iteT q⟩
      | true =>
        obtain rfl : b2 = false := hb
        exact ⟨_, rfl, x, true, rfl, hx, _, rfl, iteF ⟨_, rfl, y, false, rfl, hy, _, rfl, iteT q⟩⟩
    · refine ⟨_, rfl, _, true, rfl, wh_int u, _, rfl, iteF ⟨_, rfl, _, true, rfl, wh_int l, _, rfl, iteF ?_⟩⟩
      refine ⟨_, rfl, l, 1, rfl, rfl, _, rfl, ?_⟩
      by_cases c : (1 : Int) ≤ l
      · rw [decide_eq_true c] at q ⊢
        refine iteT ⟨_, rfl, _, rfl, u, l, rfl, rfl, ?_⟩
        have e : (decide (V.int ((Nat.gcd u.natAbs l.natAbs : Nat) : Int) = V.int 1)) = (true && decide (Nat.gcd u.natAbs l.natAbs = 1)) := by
          rw [Bool.true_and]
          exact decide_eq_decide.mpr ⟨fun h => by have := V.int.inj h; omega, fun h => by rw [h]; rfl⟩
        rw [← e] at q
        exact q
      · rw [decide_eq_false c] at q ⊢
        exact iteF q
theorem scCo : FnScope ["order"] ["order"] (defScope F_check_order) := ⟨rfl, rfl, rfl, by decide +kernel, rfl, by decide +kernel, by decide +kernel⟩
theorem ok_corder (G : Fun K "check_order" "check_order" F_check_order f fd) (UB : Use P w K mg base CX0 2 "is_between" ["value", "low", "high"] (spBtw K) [])
    (mL : ∃ u, mg "LOWEST_ORDER" = some u ∧ RelV (.int 2) u) (mH : ∃ u, mg "HIGHEST_ORDER" = some u ∧ RelV (.int 24) u) (Z : ErrC P w K mg base "InvalidOrder" 1 (fs1 "InvalidOrder" "value") CO) : FnOk P w K mg base (L2.CX P w) 3 f fd ["order"] (spCo K CO) := by
  refine G.okX scCo (fun vs H Q E h => ?_) (fun cdv A outer s H vs Q E hr h => ?_)
  · obtain ⟨v, r, rfl, _⟩ := h
    rfl
  obtain ⟨v, r, rfl, hin, h1, h2⟩ := h
  obtain ⟨fI, fdI, ps, i1, i2, i3, i4⟩ := Z.i
  refine ⟨_, pss_one (ps_if (pt_not (pt_val (pe_use UB hr rfl pass0 (pa_cons (pv 0) (pa_cons (C8.pe_gc rfl mL) (pa_cons (C8.pe_gc rfl mH) pa_nil)))))) (pss_one (ps_raise rfl (takes_of rfl rfl rfl rfl) (pmk_xo Z.T Z.ty i1 i2 i3 hr i4 pass0 rfl Z.m (pa_cons (pv 0) pa_nil)))) pss_nil), ?_⟩
  refine ⟨_, rfl, v, 2, 24, r, rfl, hin, _, rfl, ?_⟩
  cases r with
  | true => exact iteF (h1 rfl)
  | false => exact iteT ⟨_, rfl, (by show 1 ≤ 1000; decide), fun a na => air_of (C := CO) (n := 1) (ws := [v]) na rfl (h2 rfl)⟩
theorem scCp : FnScope ["place", "first", "last"] ["place", "first", "last"] (defScope F_check_place) := ⟨rfl, rfl, rfl, by decide +kernel, rfl, by decide +kernel, by decide +kernel⟩
theorem ok_cplace (G : Fun K "check_place" "check_place" F_check_place f fd) (UB : Use P w K mg base CX0 2 "is_between" ["value", "low", "high"] (spBtw K) []) (Z : ErrC P w K mg base "InvalidPlace" 1 (fs1 "InvalidPlace" "value") CP) : FnOk P w K mg base (L2.CX P w) 3 f fd ["place", "first", "last"] (spCp K CP) := by
  refine G.okX scCp (fun vs H Q E h => ?_) (fun cdv A outer s H vs Q E hr h => ?_)
  · obtain ⟨v, lo, hi, r, rfl, _⟩ := h
    rfl
  obtain ⟨v, lo, hi, r, rfl, hin, h1, h2⟩ := h
  obtain ⟨fI, fdI, ps, i1, i2, i3, i4⟩ := Z.i
  refine ⟨_, pss_one (ps_if (pt_not (pt_val (pe_use UB hr rfl pass0 (pa_cons (pv 0) (pa_cons (pv 1) (pa_cons (pv 2) pa_nil)))))) (pss_one (ps_raise rfl (takes_of rfl rfl rfl rfl) (pmk_xo Z.T Z.ty i1 i2 i3 hr i4 pass0 rfl Z.m (pa_cons (pv 0) pa_nil)))) pss_nil), ?_⟩
  refine ⟨_, rfl, _, rfl, _, rfl, v, lo, hi, r, rfl, hin, _, rfl, ?_⟩
  cases r with
  | true => exact iteF (h1 rfl)
  | false => exact iteT ⟨_, rfl, (by show 1 ≤ 1000; decide), fun a na => air_of (C := CP) (n := 1) (ws := [v]) na rfl (h2 rfl)⟩
theorem scCor : FnScope ["one", "other"] ["one", "other"] (defScope F_check_orders) := ⟨rfl, rfl, rfl, by decide +kernel, rfl, by decide +kernel, by decide +kernel⟩
theorem ok_corders (G : Fun K "check_orders" "check_orders" F_check_orders f fd) (Z : ErrC P w K mg base "UnlikeOrders" 2 (fs2 "UnlikeOrders" "one" "other") CU) : FnOk P w K mg base (L2.CX P w) 3 f fd ["one", "other"] (spCor K CU) := by
  refine G.okX scCor (fun vs H Q E h => ?_) (fun cdv A outer s H vs Q E hr h => ?_)
  · obtain ⟨x, y, n, m, rfl, _⟩ := h
    rfl
  obtain ⟨x, y, n, m, rfl, ⟨xa, C, dx, fs, rfl, hx, cx, nx, lx⟩, ⟨ya, D, dy, gs, rfl, hy, cy, ny, ly⟩, h1, h2⟩ := h
  obtain ⟨fI, fdI, ps, i1, i2, i3, i4⟩ := Z.i
  refine ⟨_, pss_one (ps_if (pt_cmpR op_ne (pe_fld (pv 0) rfl) (pe_fld (pv 1) rfl) (nomark _)) (pss_one (ps_raise rfl (takes_of rfl rfl rfl rfl) (pmk_xo Z.T Z.ty i1 i2 i3 hr i4 pass0 rfl Z.m (pa_cons (pe_fld (pv 0) rfl) (pa_cons (pe_fld (pv 1) rfl) pa_nil))))) pss_nil), ?_⟩
  refine ⟨_, rfl, xa, C, dx, _, _, rfl, hx, cx, nx, lx, _, rfl, ya, D, dy, _, _, rfl, hy, cy, ny, ly, rfl, _, rfl, ?_⟩
  by_cases c : n = m
  · subst c
    rw [decide_eq_true rfl]
    exact iteF (h1 rfl)
  · rw [decide_eq_false (fun e => c (V.int.inj e))]
    exact iteT ⟨_, rfl, xa, C, dx, _, _, rfl, hx, cx, nx, lx, _, rfl, ya, D, dy, _, _, rfl, hy, cy, ny, ly, (by show 2 ≤ 1000; decide), fun a na => air_of (C := CU) (n := 2) (ws := [.int n, .int m]) na rfl (h2 c)⟩
end
end Kx
end
section
set_option maxHeartbeats 4000000
namespace Kx
open PySem PySem.Spec PyProof.Rows L2 RZ
def optV : Option Nat → V
  | none => .non
  | some k => .int (k : Nat)
/-- the first false, counted from i on -/
def badAt : List Bool → Nat → Option Nat
  | [], _ => none
  | r :: rs, i => if r = true then badAt rs (i + 1) else some i
theorem badAt_hit : ∀ (rs : List Bool) (k i : Nat), (∀ r ∈ rs.take i, r = true) → rs[i]? = some false → badAt rs k = some (k + i)
  | [], _, _, _, h => by simp at h
  | r :: rs, k, 0, _, h => by
    have e : r = false := Option.some.inj (show some r = some false from h)
    subst e
    rfl
  | r :: rs, k, i + 1, h, e => by
    have hr : r = true := h r (by simp)
    subst hr
    show badAt rs (k + 1) = _
    rw [badAt_hit rs (k + 1) i (fun x hx => h x (by simp [hx])) (by simpa using e)]
    congr 1
    omega
theorem badAt_none : ∀ (rs : List Bool) (k : Nat), (∀ r ∈ rs, r = true) → badAt rs k = none
  | [], _, _ => rfl
  | r :: rs, k, h => by
    have hr : r = true := h r (by simp)
    subst hr
    exact badAt_none rs (k + 1) fun x hx => h x (by simp [hx])
/-- is v a fraction: r, whatever is new -/
def IsGs (K : PySem.W.Frag) (H : Hp) (v : V) (r : Bool) : Prop := ∀ H', Same H H' → IsG K H' v r
theorem IsGs.same {K : PySem.W.Frag} {H H' : Hp} {v : V} {r : Bool} (h : IsGs K H v r) (s : Same H H') : IsGs K H' v r := fun H2 s2 => h H2 (s.trans s2)
theorem Nq.isGs {K : PySem.W.Frag} {H : Hp} {v : V} {q : Rat} (h : Nq K H v q) : IsGs K H v true := fun _ s => (h.same s).isG
/-- the items, which of them are fractions -/
def Its (K : PySem.W.Frag) (H : Hp) (xs : List V) (rs : List Bool) : Prop := xs.length = rs.length ∧ ∀ (i : Nat) (x : V) (r : Bool), xs[i]? = some x → rs[i]? = some r → IsGs K H x r
theorem Its.same {K : PySem.W.Frag} {H H' : Hp} {xs : List V} {rs : List Bool} (h : Its K H xs rs) (s : Same H H') : Its K H' xs rs := ⟨h.1, fun i x r h1 h2 => (h.2 i x r h1 h2).same s⟩
theorem Nl.its {K : PySem.W.Frag} {H : Hp} {xs : List V} {qs : List Rat} (h : Nl K H xs qs) : Its K H xs (List.replicate qs.length true) := by
  refine ⟨by rw [h.1, List.length_replicate], fun i x r h1 h2 => ?_⟩
  obtain ⟨q, _, n⟩ := h.get h1
  rw [List.getElem?_replicate] at h2
  split at h2
  · rw [← Option.some.inj h2]
    exact n.isGs
  · cases h2
theorem bad_rep (n k : Nat) : badAt (List.replicate n true) k = none := badAt_none _ _ fun r hr => List.eq_of_mem_replicate hr
/-- a list or a tuple -/
def SqH (H : Hp) (a : Addr) (xs : List V) : Prop := H a = some (.lst xs) ∨ H a = some (.tup xs)
theorem SqH.same {H H' : Hp} {a : Addr} {xs : List V} (h : SqH H a xs) (s : Same H H') : SqH H' a xs := h.imp (s _ _) (s _ _)
/-- is v a list or a tuple: r -/
def LsV (K : PySem.W.Frag) (H : Hp) (v : V) (r : Bool) : Prop := ∀ H', Same H H' → ∃ T, TyX K H' v T ∧ PySem.W.kitAny K T [.type "list", .type "tuple"] = some r
theorem LsV.same {K : PySem.W.Frag} {H H' : Hp} {v : V} {r : Bool} (h : LsV K H v r) (s : Same H H') : LsV K H' v r := fun H2 s2 => h H2 (s.trans s2)
theorem SqH.lsv {K : PySem.W.Frag} {H : Hp} {a : Addr} {xs : List V} (h : SqH H a xs) : LsV K H (.ref a) true := fun H' s => by
  rcases h with h | h
  · exact ⟨_, .base (.lst (s _ _ h)), kit2 kb_l.1 kb_l.2.1 rfl⟩
  · exact ⟨_, .base (.tup (s _ _ h)), kit2 kb_l.2.2.1 kb_l.2.2.2 rfl⟩
def spIl (K : PySem.W.Frag) : Sp := fun vs H Q _ => ∃ (v : V) (r : Bool), vs = [v] ∧ LsV K H v r ∧ ∀ H', Same H H' → Q (.bl r) H'
def spWi (K : PySem.W.Frag) : Sp := fun vs H Q _ => ∃ (a : Addr) (xs : List V) (rs : List Bool), vs = [.ref a] ∧ SqH H a xs ∧ Its K H xs rs ∧ ∀ H', Same H H' → Q (optV (badAt rs 0)) H'
def spCf (K : PySem.W.Frag) (CF : Addr) : Sp := fun vs H Q E => ∃ (a : Addr) (xs : List V) (rs : List Bool), vs = [.ref a] ∧ SqH H a xs ∧ Its K H xs rs ∧ (badAt rs 0 = none → ∀ H', Same H H' → Q .non H') ∧ ∀ k : Nat, badAt rs 0 = some k → Air H CF (fs1 "InvalidFraction" "at" [.int (k : Nat)]) E
def spCn (K : PySem.W.Frag) (CF CO : Addr) : Sp := fun vs H Q E => ∃ (v : V) (fu : Int), vs = [v, .int fu] ∧
  ((LsV K H v false ∧ Air H CF (fs1 "InvalidFraction" "at" [.int (-1)]) E) ∨
   ∃ (a : Addr) (xs : List V) (rs : List Bool), v = .ref a ∧ SqH H a xs ∧
     (((xs.length : Int) + fu < 2 ∨ 24 < (xs.length : Int) + fu) ∧ Air H CO (fs1 "InvalidOrder" "value" [.int ((xs.length : Int) + fu)]) E ∨
      2 ≤ (xs.length : Int) + fu ∧ (xs.length : Int) + fu ≤ 24 ∧ Its K H xs rs ∧ (∀ k : Nat, badAt rs 0 = some k → Air H CF (fs1 "InvalidFraction" "at" [.int (k : Nat)]) E) ∧
        (badAt rs 0 = none → ∀ H' b, Same H H' → H b = none → H' b = some (.lst xs) → Q (.ref b) H')))
abbrev nWi : List Str := ["numbers", "at", "number"]
section
variable {P : Program} {w : World} {K : PySem.W.Frag} {mg : Str → Option Value} {base : Heap} {f fW CO CN CP CL CU CF : Addr} {fd fdW : FuncData}
theorem scIl : FnScope ["value"] ["value"] (defScope F_is_listing) := ⟨rfl, rfl, rfl, by decide +kernel, rfl, by decide +kernel, by decide +kernel⟩
theorem ok_listing (G : Fun K "is_listing" "is_listing" F_is_listing f fd) (mI : mg "isinstance" = none) (ml : mg "list" = none) (mt : mg "tuple" = none) : FnOk P w K mg base CX0 1 f fd ["value"] (spIl K) := by
  refine G.ok scIl (fun vs H Q E h => ?_) (fun cdv A outer s H vs Q E hr h => ?_)
  · obtain ⟨v, r, rfl, _⟩ := h
    rfl
  obtain ⟨v, r, rfl, hv, q⟩ := h
  refine ⟨_, pss_one (ps_ret (pe_callB call_isiT rfl mI (by decide +kernel) (pa_cons (pv 0) (pa_cons (pe_tup (pa_cons (pe_bltn rfl ml boot_list (rel_ty _)) (pa_cons (pe_bltn rfl mt boot_tuple (rel_ty _)) pa_nil))) pa_nil)))), ?_⟩
  refine ⟨_, rfl, (by show 2 ≤ sizeLine; decide), fun p np => ?_⟩
  have g1 := new_same np (.tup [.ty "list", .ty "tuple"])
  obtain ⟨T, ty, k⟩ := hv _ g1
  exact ⟨_, p, _, T, _, r, rfl, upd_same, .cons (.ty _) (.cons (.ty _) .nil), ty, k, q _ g1⟩
theorem scWi : FnScope nWi ["numbers"] (defScope F_wrong_item) := ⟨rfl, rfl, rfl, by decide +kernel, rfl, by decide +kernel, by decide +kernel⟩
theorem ok_wrong (G : Fun K "wrong_item" "wrong_item" F_wrong_item f fd) (me : mg "enumerate" = none) (UF : Use P w K mg base CX0 2 "is_fraction" ["value"] (spIsG K) []) : FnOk P w K mg base CX0 3 f fd ["numbers"] (spWi K) := by
  refine G.ok scWi (fun vs H Q E h => ?_) (fun cdv A outer s H vs Q E hr h => ?_)
  · obtain ⟨a, xs, rs, rfl, _⟩ := h
    rfl
  obtain ⟨a, xs, rs, rfl, ha, ⟨hl, hI⟩, q⟩ := h
  refine ⟨_, pss_cons (ps_for PassesOwn.never rfl (pi_enumA rfl me (pa_cons (pv 0) pa_nil)) (pg_tup rfl (pgs_cons (pg_name (i := 1) scWi.nd rfl (Or.inl rfl)) (pgs_cons (pg_name (i := 2) scWi.nd rfl (Or.inl rfl)) pgs_nil)))
      (pss_one (ps_if (pt_not (pt_val (pe_use UF hr rfl pass0 (pa_cons (pv 2) pa_nil)))) (pss_one (ps_ret (pv 1))) pss_nil)))
    (pss_one (ps_ret pe_non)), ?_⟩
  refine ⟨_, rfl, a, xs, rfl, ?_⟩
  have turn : ∀ (i : Nat) (x : V) (σ : L2.St) (H2 H3 : Hp), i < xs.length → (Same H H2 ∧ (∀ r ∈ rs.take i, r = true) ∧ ∃ v v', σ = [some (.ref a), v, v']) → YPair (fun i => some (.int (i : Nat))) (fun i => xs[i]?) i H2 x H3 →
      ∃ (T : Addr) (z : V) (r : Bool), x = .ref T ∧ H2 T = none ∧ H3 = upd H2 T (.tup [.int (i : Nat), z]) ∧ xs[i]? = some z ∧ rs[i]? = some r ∧ IsG K H3 z r ∧ Same H H3 := by
    rintro i x σ H2 H3 hi ⟨s2, _, _⟩ ⟨T, y, z, rfl, hT, rfl, hy, hz⟩
    obtain rfl : y = .int ((i : Nat) : Int) := (Option.some.inj hy).symm
    have s3 := s2.trans (new_same hT (.tup [.int (i : Nat), z]))
    have er := List.getElem?_eq_getElem (l := rs) (i := i) (by omega)
    exact ⟨T, z, _, rfl, hT, rfl, hz, er, hI i z _ hz er _ s3, s3⟩
  have fin : ∀ (σ : L2.St) (H2 : Hp), (Same H H2 ∧ (∀ r ∈ rs.take xs.length, r = true) ∧ ∃ v v', σ = [some (.ref a), v, v']) → Q .non H2 := by
    rintro σ H2 ⟨s2, h, _⟩
    rw [hl, List.take_length] at h
    have := q H2 s2
    rw [badAt_none rs 0 h] at this
    exact this
  rcases ha with ha | ha
  · refine .inl ⟨SqL.of ha, ?_⟩
    refine for_it (walk_enum (K := K) (a := a) (xs := xs)) (fun i σ H' => Same H H' ∧ (∀ r ∈ rs.take i, r = true) ∧ ∃ v v', σ = [some (.ref a), v, v']) ⟨Same.refl H, by simp, none, none, rfl⟩ (fun i σ H' _ h => SqL.of (h.1 _ _ ha)) ?_ fin
    intro i x σ H2 H3 hi hp hY
    obtain ⟨T, z, r, rfl, hT, rfl, hz, er, ig, s3⟩ := turn i x σ H2 H3 hi hp hY
    obtain ⟨s2, h2, v, v', rfl⟩ := hp
    refine ⟨T, [_, _], rfl, SqT.of upd_same, rfl, _, [_], rfl, _, [], rfl, rfl, ?_⟩
    refine ⟨_, rfl, z, r, rfl, ig, _, rfl, ?_⟩
    cases r with
    | true =>
      refine iteF ⟨s3, fun b hb => ?_, _, _, rfl⟩
      rw [List.take_add_one, er] at hb
      rcases List.mem_append.mp hb with hb | hb
      · exact h2 b hb
      · simpa using hb
    | false =>
      have := q _ s3
      rw [badAt_hit rs 0 i h2 er, Nat.zero_add] at this
      exact iteT ⟨_, rfl, this⟩
  · refine .inr ⟨SqT.of ha, ?_⟩
    refine for_it (walk_enumT (K := K) (a := a) (xs := xs)) (fun i σ H' => Same H H' ∧ (∀ r ∈ rs.take i, r = true) ∧ ∃ v v', σ = [some (.ref a), v, v']) ⟨Same.refl H, by simp, none, none, rfl⟩ (fun i σ H' _ h => SqT.of (h.1 _ _ ha)) ?_ fin
    intro i x σ H2 H3 hi hp hY
    obtain ⟨T, z, r, rfl, hT, rfl, hz, er, ig, s3⟩ := turn i x σ H2 H3 hi hp hY
    obtain ⟨s2, h2, v, v', rfl⟩ := hp
    refine ⟨T, [_, _], rfl, SqT.of upd_same, rfl, _, [_], rfl, _, [], rfl, rfl, ?_⟩
    refine ⟨_, rfl, z, r, rfl, ig, _, rfl, ?_⟩
    cases r with
    | true =>
      refine iteF ⟨s3, fun b hb => ?_, _, _, rfl⟩
      rw [List.take_add_one, er] at hb
      rcases List.mem_append.mp hb with hb | hb
      · exact h2 b hb
      · simpa using hb
    | false =>
      have := q _ s3
      rw [badAt_hit rs 0 i h2 er, Nat.zero_add] at this
      exact iteT ⟨_, rfl, this⟩
theorem scCf : FnScope ["numbers", "at"] ["numbers"] (defScope F_check_fractions) := ⟨rfl, rfl, rfl, by decide +kernel, rfl, by decide +kernel, by decide +kernel⟩
theorem ok_cfrac (G : Fun K "check_fractions" "check_fractions" F_check_fractions f fd) (UW : Use P w K mg base CX0 3 "wrong_item" ["numbers"] (spWi K) []) (Z : ErrC P w K mg base "InvalidFraction" 1 (fs1 "InvalidFraction" "at") CF) : FnOk P w K mg base (L2.CX P w) 4 f fd ["numbers"] (spCf K CF) := by
  refine G.okX scCf (fun vs H Q E h => ?_) (fun cdv A outer s H vs Q E hr h => ?_)
  · obtain ⟨a, xs, rs, rfl, _⟩ := h
    rfl
  obtain ⟨a, xs, rs, rfl, ha, hI, q, qe⟩ := h
  obtain ⟨fI, fdI, ps, i1, i2, i3, i4⟩ := Z.i
  refine ⟨_, pss_cons (ps_set (i := 1) scCf.nd rfl (Or.inl rfl) (pe_use UW hr rfl pass0 (pa_cons (pv 0) pa_nil)))
    (pss_one (ps_if (pt_cmpR op_notN (pv 1) pe_non (nomark _)) (pss_one (ps_raise rfl (takes_of rfl rfl rfl rfl) (pmk_xo Z.T Z.ty i1 i2 i3 (hr.mono (by decide)) i4 pass0 rfl Z.m (pa_cons (pv 1) pa_nil)))) pss_nil)), ?_⟩
  refine ⟨_, rfl, a, xs, rs, rfl, ha, hI, fun H1 s1 => ?_⟩
  refine ⟨_, rfl, rfl, _, rfl, ?_⟩
  cases e : badAt rs 0 with
  | none => exact iteF (q e H1 s1)
  | some k => exact iteT ⟨_, rfl, (by show 1 ≤ 1000; decide), fun a na => air_of (C := CF) (n := 1) (ws := [.int (k : Nat)]) na rfl ((qe k e).same s1)⟩
theorem scCn : FnScope ["numbers", "further"] ["numbers", "further"] (defScope F_checked_numbers) := ⟨rfl, rfl, rfl, by decide +kernel, rfl, by decide +kernel, by decide +kernel⟩
theorem ok_checked (G : Fun K "checked_numbers" "checked_numbers" F_checked_numbers f fd) (mn : mg "len" = none) (ml : mg "list" = none) (UI : Use P w K mg base CX0 1 "is_listing" ["value"] (spIl K) [])
    (UC : Use P w K mg base (L2.CX P w) 3 "check_order" ["order"] (spCo K CO) []) (UF : Use P w K mg base (L2.CX P w) 4 "check_fractions" ["numbers"] (spCf K CF) []) (Z : ErrC P w K mg base "InvalidFraction" 1 (fs1 "InvalidFraction" "at") CF) :
    FnOk P w K mg base (L2.CX P w) 5 f fd ["numbers", "further"] (spCn K CF CO) := by
  refine G.okX scCn (fun vs H Q E h => ?_) (fun cdv A outer s H vs Q E hr h => ?_)
  · obtain ⟨v, fu, rfl, _⟩ := h
    rfl
  obtain ⟨v, fu, rfl, hh⟩ := h
  obtain ⟨fI, fdI, ps, i1, i2, i3, i4⟩ := Z.i
  refine ⟨_, pss_cons (ps_if (pt_not (pt_val (pe_use UI (hr.mono (by decide)) rfl pass0 (pa_cons (pv 0) pa_nil)))) (pss_one (ps_raise rfl (takes_of rfl rfl rfl rfl) (pmk_xo Z.T Z.ty i1 i2 i3 (hr.mono (by decide)) i4 pass0 rfl Z.m (pa_cons (pe_un un_neg pe_int) pa_nil)))) pss_nil)
    (pss_cons (ps_expr (pe_use (E := E) UC (hr.mono (by decide)) rfl (passes_call (takes_of rfl rfl rfl rfl) (fun _ _ _ _ h => h)) (pa_cons (pe_op op_add (pe_callB call_len_seq rfl mn PySem.boot_len (pa_cons (pv 0) pa_nil)) (pv 1)) pa_nil)))
    (pss_cons (ps_expr (pe_use (E := E) UF hr rfl (passes_call (takes_of rfl rfl rfl rfl) (fun _ _ _ _ h => h)) (pa_cons (pv 0) pa_nil)))
    (pss_one (ps_ret (pe_callTy call_list_of rfl ml (by decide +kernel) (pa_cons (pv 0) pa_nil)))))), ?_⟩
  rcases hh with ⟨hv, air⟩ | ⟨a, xs, rs, rfl, ha, hh⟩
  · refine ⟨_, rfl, v, false, rfl, hv, fun H1 s1 => ⟨_, rfl, iteT ⟨1, rfl, (by show 1 ≤ 1000; decide), fun a na => air_of (C := CF) (n := 1) (ws := [.int (-1)]) na rfl (air.same s1)⟩⟩⟩
  · refine ⟨_, rfl, .ref a, true, rfl, ha.lsv, fun H1 s1 => ⟨_, rfl, iteF ?_⟩⟩
    have ha1 := ha.same s1
    have len1 : ∀ {H2 : Hp}, SqH H2 a xs → (SqL K H2 a xs ∨ SqT K H2 a xs) := fun h => h.imp SqL.of SqT.of
    refine ⟨_, rfl, a, xs, rfl, len1 ha1, _, rfl, _, _, rfl, rfl, ?_⟩
    rcases hh with ⟨ho, air⟩ | ⟨l1, l2, hI, qf, q⟩
    · exact ⟨_, false, rfl, .no ho, fun z => Bool.noConfusion z, fun _ => air.same s1⟩
    · refine ⟨_, true, rfl, .yes l1 l2, fun _ => ?_, fun z => Bool.noConfusion z⟩
      refine ⟨_, rfl, a, xs, rs, rfl, ha1, hI.same s1, fun hb H2 s2 => ?_, fun k hk => (qf k hk).same s1⟩
      have ha2 := ha1.same s2
      exact ⟨_, rfl, a, xs, rfl, len1 ha2, fun b nb => q hb _ b ((s1.trans s2).trans (new_same nb _)) ((s1.trans s2).free nb) upd_same⟩
end
end Kx
end
section
set_option maxHeartbeats 4000000
namespace Kx
open PySem PySem.Spec PyProof.Rows L2 RZ
theorem KP.dp {K : PySem.W.Frag} {a : Addr} {x y : Int} (k : KP K a x y) (H : Hp) : Dp K H (.ref a) (.tuple [.int x, .int y]) := .tup (k.t H) (.cons (.int _) (.cons (.int _) .nil))
theorem cut_drop (xs : List V) (k : Nat) : cutV xs (some (k : Int)) none = xs.drop k := by
  unfold cutV
  rw [HT.sIx_nat, HT.sIx_none, List.take_of_length_le (by rw [List.length_drop]; omega)]
  by_cases c : k ≤ xs.length
  · rw [Nat.min_eq_left c]
  · rw [Nat.min_eq_right (by omega), List.drop_of_length_le (Nat.le_refl _), List.drop_of_length_le (by omega)]
theorem cut_take (xs : List V) (k : Nat) : cutV xs none (some (k : Int)) = xs.take k := by
  unfold cutV
  rw [HT.sIx_nat, HT.sIx_none, List.drop_zero, Nat.sub_zero]
  by_cases c : k ≤ xs.length
  · rw [Nat.min_eq_left c]
  · rw [Nat.min_eq_right (by omega), List.take_of_length_le (Nat.le_refl _), List.take_of_length_le (by omega)]
/-- the least place with a number that is not 0 -/
def hgtV (qs : List Rat) (f : Int) : V := match hgtN qs 0 with
  | none => .non
  | some k => .int (f + (k : Nat))
theorem hgtN_hit : ∀ (qs : List Rat) (i f : Nat) (q : Rat), (∀ r ∈ qs.take i, r = 0) → qs[i]? = some q → q ≠ 0 → hgtN qs f = some (f + i)
  | [], _, _, _, _, h, _ => by simp at h
  | r :: rs, 0, f, q, _, h, hq => by
    have e : r = q := Option.some.inj (show some r = some q from h)
    show (if r = 0 then hgtN rs (f + 1) else some f) = some f
    rw [if_neg (by rw [e]; exact hq)]
  | r :: rs, i + 1, f, q, h, e, hq => by
    have hr : r = 0 := h r (by simp)
    show (if r = 0 then hgtN rs (f + 1) else some f) = _
    rw [if_pos hr, hgtN_hit rs i (f + 1) q (fun x hx => h x (by simp [hx])) (by simpa using e) hq]
    congr 1
    omega
theorem hgtN_none (qs : List Rat) (f : Nat) (h : ∀ q ∈ qs, q = 0) : hgtN qs f = none := by
  have := hgtN_app_zero qs f [] h
  rw [List.append_nil] at this
  rw [this]
  rfl
def spIz (K : PySem.W.Frag) : Sp := fun vs H Q _ => ∃ (x : V) (qs : List Rat), vs = [x] ∧ Ls K H x qs ∧ qs.length ≤ 100 ∧ ∀ H', Same H H' → Q (.bl (qs.all fun q => decide (q = 0))) H'
def spLp (K : PySem.W.Frag) : Sp := fun vs H Q _ => ∃ (x : V) (qs : List Rat) (fi : Int), vs = [x, .int fi] ∧ Ls K H x qs ∧ ∀ H', Same H H' → Q (hgtV qs fi) H'
/-- the kind of a step -/
def kindS (qs : List Rat) : Str :=
  if qs.getD 0 0 = 0 then (if (qs.drop 1).all (fun q => decide (q = 0)) = true then "nothing" else "crush")
  else if qs.getD 0 0 = 1 then (if (qs.drop 1).all (fun q => decide (q = 0)) = true then "still" else "creep")
  else if qs.getD 0 0 = -1 then "flip" else "stretch"
def spKo (K : PySem.W.Frag) : Sp := fun vs H Q _ => ∃ (x : V) (qs : List Rat), vs = [x] ∧ Ls K H x qs ∧ 1 ≤ qs.length ∧ qs.length ≤ 100 ∧ ∀ H', Same H H' → Q (.str (kindS qs)) H'
abbrev nIz : List Str := ["numbers", "number"]
abbrev nLp : List Str := ["numbers", "first", "at", "number"]
abbrev nKo : List Str := ["numbers", "lead", "bent"]
theorem eqD_at {X : Cx} (K : PySem.W.Frag) (h : X.K = K) (hu : X.A.units + 64 < cLine) : OpR X (compareOp .Eq) (rEqD K) := by
  subst h
  exact op_eqD hu
section
variable {P : Program} {w : World} {K : PySem.W.Frag} {mg : Str → Option Value} {base : Heap} {f fI o1 o0 om : Addr} {fd : FuncData}
theorem scIz : FnScope nIz ["numbers"] (defScope F_is_zero) := ⟨rfl, rfl, rfl, by decide +kernel, rfl, by decide +kernel, by decide +kernel⟩
theorem ok_iszero (G : Fun K "is_zero" "is_zero" F_is_zero f fd) (k0 : KP K o0 0 1) (ma : mg "all" = none) (mZ : mg "ZERO" = some (.ref o0)) : FnOk P w K mg base CX0 1 f fd ["numbers"] (spIz K) := by
  refine G.ok scIz (fun vs H Q E h => ?_) (fun cdv A outer s H vs Q E hr h => ?_)
  · obtain ⟨x, qs, rfl, _⟩ := h
    rfl
  obtain ⟨x, qs, rfl, ⟨a, xs, rfl, ha, nx⟩, hn, q⟩ := h
  refine ⟨_, pss_one (ps_ret (pe_callB (cr_all rfl) rfl ma (by decide +kernel) (pa_cons (pe_lc (own := [("number", 1)]) (g := gName 1) (tt := tYes) rfl scIz.nd (pi_list (pv 0)) (blkOk_by (N := nIz) (sc := defScope F_is_zero) (by decide +kernel)) (fun _ _ _ _ _ => pg_name (i := 1) scIz.nd rfl (Or.inl rfl)) (fun _ _ _ _ _ => pts_nil)
        (fun _ _ _ _ _ => pe_cmpR (eqD_at K rfl hr.units) (pv 1) (C8.pe_gc (v := .ref o0) rfl ⟨_, mZ, rfl⟩) (nomark _))) pa_nil))), ?_⟩
  have lx : xs.length = qs.length := nx.1
  refine ⟨_, rfl, a, rfl, ⟨_, SqL.of ha⟩, fun D nD => ?_⟩
  refine lc_acc (walk_list (K := K) (a := a) (xs := xs)) (fun i _ y => ∀ r, qs[i]? = some r → y = .bl (decide (r = 0))) (fun i H H' y l h _ _ => h) nD (by omega) (fun H2 s => SqL.of (s _ _ ha)) ?_ ?_
  · rintro i x H2 H3 k hi s2 ⟨rfl, hx2⟩ hk
    obtain ⟨b, eb, nb⟩ := nx.get hx2
    refine ⟨rfl, _, rfl, tupQ b, tupQ 0, (nb.same s2).dp, k0.dp _, rfl, rfl, ?_⟩
    rw [eqv_num]
    exact hk _ _ (Same.refl _) fun r hr => by rw [eb] at hr; rw [← Option.some.inj hr]
  · intro H2 zs s2 hD hl hR
    have ez : zs = (qs.map fun q => decide (q = 0)).map V.bl := by
      apply List.ext_getElem?
      intro i
      rw [List.map_map, List.getElem?_map]
      by_cases c : i < qs.length
      · rw [List.getElem?_eq_getElem c]
        have e := List.getElem?_eq_getElem (l := zs) (i := i) (by omega)
        rw [e, hR i _ e _ (List.getElem?_eq_getElem c)]
        rfl
      · rw [List.getElem?_eq_none (by omega), List.getElem?_eq_none (by omega)]
        rfl
    refine ⟨D, _, rfl, SqL.of (by rw [hD, ez]), ?_⟩
    rw [List.all_map]
    exact q _ s2
theorem scLp : FnScope nLp ["numbers", "first"] (defScope F_least_place) := ⟨rfl, rfl, rfl, by decide +kernel, rfl, by decide +kernel, by decide +kernel⟩
theorem ok_least (G : Fun K "least_place" "least_place" F_least_place f fd) (k0 : KP K o0 0 1) (me : mg "enumerate" = none) (mZ : mg "ZERO" = some (.ref o0)) : FnOk P w K mg base CX0 1 f fd ["numbers", "first"] (spLp K) := by
  refine G.ok scLp (fun vs H Q E h => ?_) (fun cdv A outer s H vs Q E hr h => ?_)
  · obtain ⟨x, qs, fi, rfl, _⟩ := h
    rfl
  obtain ⟨x, qs, fi, rfl, ⟨a, xs, rfl, ha, nx⟩, q⟩ := h
  refine ⟨_, pss_cons (ps_for PassesOwn.never rfl (pi_enum rfl me (pa_cons (pv 0) pa_nil)) (pg_tup rfl (pgs_cons (pg_name (i := 2) scLp.nd rfl (Or.inl rfl)) (pgs_cons (pg_name (i := 3) scLp.nd rfl (Or.inl rfl)) pgs_nil)))
      (pss_one (ps_if (pt_cmpR (op_neD hr.units) (pv 3) (C8.pe_gc (v := .ref o0) rfl ⟨_, mZ, rfl⟩) (nomark _)) (pss_one (ps_ret (pe_op op_add (pv 1) (pv 2)))) pss_nil)))
    (pss_one (ps_ret pe_non)), ?_⟩
  refine ⟨_, rfl, a, _, rfl, SqL.of ha, ?_⟩
  refine for_it (walk_enum (K := K) (a := a) (xs := xs)) (fun i σ H' => Same H H' ∧ (∀ r ∈ qs.take i, r = 0) ∧ ∃ v v', σ = [some (.ref a), some (.int fi), v, v']) ⟨Same.refl H, by simp, none, none, rfl⟩ (fun i σ H' _ h => SqL.of (h.1 _ _ ha)) ?_ ?_
  · rintro i x σ H2 H3 hi ⟨s2, h2, v, v', rfl⟩ ⟨T, y, z, rfl, hT, rfl, hy, hz⟩
    refine ⟨T, [_, _], rfl, SqT.of upd_same, rfl, _, [_], rfl, _, [], rfl, rfl, ?_⟩
    have s3 := s2.trans (new_same hT (.tup [y, z]))
    obtain ⟨b, eb, nb⟩ := nx.get hz
    obtain rfl : y = .int ((i : Nat) : Int) := (Option.some.inj hy).symm
    refine ⟨_, rfl, tupQ b, tupQ 0, (nb.same s3).dp, k0.dp _, rfl, rfl, _, rfl, ?_⟩
    rw [eqv_num]
    by_cases c : b = 0
    · rw [decide_eq_true c]
      refine iteF ⟨s3, fun r hr => ?_, _, _, rfl⟩
      rw [List.take_add_one, eb] at hr
      rcases List.mem_append.mp hr with hr | hr
      · exact h2 r hr
      · rw [← c]
        simpa using hr
    · rw [decide_eq_false c]
      refine iteT ⟨_, rfl, _, rfl, fi, _, rfl, rfl, ?_⟩
      have := q _ s3
      unfold hgtV at this
      rw [hgtN_hit qs i 0 b h2 eb c, Nat.zero_add] at this
      exact this
  · rintro σ H2 ⟨s2, h2, v, v', rfl⟩
    rw [nx.1, List.take_length] at h2
    have := q _ s2
    unfold hgtV at this
    rw [hgtN_none qs 0 h2] at this
    exact this
theorem scKo : FnScope nKo ["numbers"] (defScope F_kind_of) := ⟨rfl, rfl, rfl, by decide +kernel, rfl, by decide +kernel, by decide +kernel⟩
theorem ok_kind (G : Fun K "kind_of" "kind_of" F_kind_of f fd) (k1 : KP K o1 1 1) (k0 : KP K o0 0 1) (km : KP K om (-1) 1) (mZ : mg "ZERO" = some (.ref o0)) (mO : mg "ONE" = some (.ref o1)) (mM : mg "MINUS_ONE" = some (.ref om))
    (UZ : Use P w K mg base CX0 1 "is_zero" ["numbers"] (spIz K) []) : FnOk P w K mg base CX0 2 f fd ["numbers"] (spKo K) := by
  refine G.ok scKo (fun vs H Q E h => ?_) (fun cdv A outer s H vs Q E hr h => ?_)
  · obtain ⟨x, qs, rfl, _⟩ := h
    rfl
  obtain ⟨x, qs, rfl, ⟨a, xs, rfl, ha, nx⟩, h1, hn, q⟩ := h
  refine ⟨_, pss_cons (ps_set (i := 1) scKo.nd rfl (Or.inl rfl) (pe_ix ix_list (pv 0) pe_int (fun _ _ => rfl)))
    (pss_cons (ps_set (i := 2) scKo.nd rfl (Or.inl rfl) (pe_not (pe_use UZ hr rfl pass0 (pa_cons (pe_slice sl_list (pv 0) (po_some pe_int) po_none) pa_nil))))
    (pss_cons (ps_if (pt_cmpR (op_eqD hr.units) (pv 1) (C8.pe_gc (v := .ref o0) rfl ⟨_, mZ, rfl⟩) (nomark _)) (pss_one (ps_ret (pe_ifExp (pt_val (pv 2)) pe_str pe_str))) pss_nil)
    (pss_cons (ps_if (pt_cmpR (op_eqD hr.units) (pv 1) (C8.pe_gc (v := .ref o1) rfl ⟨_, mO, rfl⟩) (nomark _)) (pss_one (ps_ret (pe_ifExp (pt_val (pv 2)) pe_str pe_str))) pss_nil)
    (pss_one (ps_ret (pe_ifExp (pt_cmpR (op_eqD hr.units) (pv 1) (C8.pe_gc (v := .ref om) rfl ⟨_, mM, rfl⟩) (nomark _)) pe_str pe_str)))))), ?_⟩
  obtain ⟨x0, e0, n0⟩ := nx.get' (i := 0) (by omega)
  have g0 : qs.getD 0 0 = qs[0] := by rw [List.getD_eq_getElem?_getD, List.getElem?_eq_getElem (by omega)]; rfl
  generalize hq0 : qs[0] = q0 at n0 g0
  refine ⟨_, rfl, a, _, 0, _, rfl, rfl, SqL.of ha, at_of (j := 0) rfl e0, _, rfl, 1, rfl, a, _, rfl, SqL.of ha, fun b nb => ?_⟩
  have ec : cutV xs (some 1) none = xs.drop 1 := cut_drop xs 1
  rw [ec]
  have s1 := new_same nb (.lst (xs.drop 1))
  refine ⟨.ref b, qs.drop 1, rfl, ⟨b, _, rfl, upd_same, (nx.drop 1).same s1⟩, by rw [List.length_drop]; omega, fun H2 s2 => ?_⟩
  have s2 := s1.trans s2
  have n2 := n0.same s2
  have dp2 : ∀ {H3}, H3 = H2 → Dp K H3 x0 (tupQ q0) := fun e => by rw [e]; exact n2.dp
  have e1 : tupQ 1 = .tuple [.int 1, .int 1] := rfl
  have em : tupQ (-1) = .tuple [.int (-1), .int 1] := rfl
  have eb : ∀ b : Bool, b = (qs.drop 1).all (fun q => decide (q = 0)) → (qs.drop 1).all (fun q => decide (q = 0)) = b := fun b h => h.symm
  generalize hz : (qs.drop 1).all (fun q => decide (q = 0)) = z
  refine ⟨_, rfl, _, rfl, tupQ q0, tupQ 0, n2.dp, k0.dp _, rfl, rfl, _, rfl, ?_⟩
  rw [eqv_num]
  by_cases c0 : q0 = 0
  · rw [decide_eq_true c0]
    have qk := q _ s2
    unfold kindS at qk
    rw [g0, if_pos c0, hz] at qk
    refine iteT ⟨_, rfl, _, rfl, ?_⟩
    cases z with
    | true => exact iteF qk
    | false => exact iteT qk
  rw [decide_eq_false c0]
  refine iteF ?_
  refine ⟨_, rfl, tupQ q0, tupQ 1, n2.dp, k1.dp _, rfl, rfl, _, rfl, ?_⟩
  rw [eqv_num]
  by_cases c1 : q0 = 1
  · rw [decide_eq_true c1]
    have qk := q _ s2
    unfold kindS at qk
    rw [g0, if_neg c0, if_pos c1, hz] at qk
    refine iteT ⟨_, rfl, _, rfl, ?_⟩
    cases z with
    | true => exact iteF qk
    | false => exact iteT qk
  rw [decide_eq_false c1]
  refine iteF ?_
  have qk := q _ s2
  unfold kindS at qk
  rw [g0, if_neg c0, if_neg c1] at qk
  refine ⟨_, rfl, tupQ q0, tupQ (-1), n2.dp, km.dp _, rfl, rfl, _, rfl, ?_⟩
  rw [eqv_num]
  by_cases cm : q0 = -1
  · rw [decide_eq_true cm]
    rw [if_pos cm] at qk
    exact iteT qk
  · rw [decide_eq_false cm]
    rw [if_neg cm] at qk
    exact iteF qk
end
end Kx
end
section
set_option maxHeartbeats 4000000
namespace Kx
open PySem PySem.Spec PyProof.Rows L2 RZ
def rwF (b : Addr) (n : Int) (hv : V) : List (Str × V) := [("_numbers", .ref b), ("order", .int n), ("height", hv)]
def stF (b : Addr) (n : Int) (x0 : V) (kd : Str) (hv fv sv : V) : List (Str × V) := [("_numbers", .ref b), ("order", .int n), ("lead", x0), ("kind", .str kd), ("height", hv), ("flat", fv), ("strength", sv)]
def rwN : List Str := ["_numbers", "order", "height"]
def stN : List Str := ["_numbers", "order", "lead", "kind", "height", "flat", "strength"]
/-- a row with these numbers -/
def RwAt (K : PySem.W.Frag) (C : Addr) (H : Hp) (v : V) (qs : List Rat) : Prop := ∃ (x dx b : Addr) (xs : List V), v = .ref x ∧ H x = some (.ins C dx (rwF b ((qs.length : Int) - 1) (hgtV qs 0))) ∧ H b = some (.lst xs) ∧ Nl K H xs qs ∧ 3 ≤ qs.length ∧ qs.length ≤ 25
theorem RwAt.same {K : PySem.W.Frag} {C : Addr} {H H' : Hp} {v : V} {qs : List Rat} (h : RwAt K C H v qs) (s : Same H H') : RwAt K C H' v qs := by
  obtain ⟨x, dx, b, xs, e, h1, h2, h3, h4⟩ := h
  exact ⟨x, dx, b, xs, e, s _ _ h1, s _ _ h2, h3.same s, h4⟩
/-- a step with these numbers -/
def StAt (K : PySem.W.Frag) (S : Addr) (H : Hp) (v : V) (qs : List Rat) : Prop := ∃ (x dx b : Addr) (xs : List V) (x0 fv sv : V), v = .ref x ∧ H x = some (.ins S dx (stF b (qs.length : Int) x0 (kindS qs) (hgtV qs 1) fv sv)) ∧ H b = some (.lst xs) ∧ Nl K H xs qs ∧ xs[0]? = some x0 ∧ 2 ≤ qs.length ∧ qs.length ≤ 24
theorem StAt.same {K : PySem.W.Frag} {S : Addr} {H H' : Hp} {v : V} {qs : List Rat} (h : StAt K S H v qs) (s : Same H H') : StAt K S H' v qs := by
  obtain ⟨x, dx, b, xs, x0, fv, sv, e, h1, h2, h3, h4⟩ := h
  exact ⟨x, dx, b, xs, x0, fv, sv, e, s _ _ h1, s _ _ h2, h3.same s, h4⟩
/-- what a constructor may be given: refused, or not -/
def Giv (K : PySem.W.Frag) (CF CO : Addr) (H : Hp) (v : V) (fu : Int) (E : XK) (good : List V → List Rat → Prop) : Prop :=
  (LsV K H v false ∧ Air H CF (fs1 "InvalidFraction" "at" [.int (-1)]) E) ∨
   ∃ (a : Addr) (xs : List V), v = .ref a ∧ SqH H a xs ∧
     (((xs.length : Int) + fu < 2 ∨ 24 < (xs.length : Int) + fu) ∧ Air H CO (fs1 "InvalidOrder" "value" [.int ((xs.length : Int) + fu)]) E ∨
      2 ≤ (xs.length : Int) + fu ∧ (xs.length : Int) + fu ≤ 24 ∧
        ((∃ (rs : List Bool) (k : Nat), Its K H xs rs ∧ badAt rs 0 = some k ∧ Air H CF (fs1 "InvalidFraction" "at" [.int (k : Nat)]) E) ∨ ∃ qs : List Rat, Nl K H xs qs ∧ good xs qs))
def spRI (K : PySem.W.Frag) (C CF CO : Addr) : Sp := fun vs H Q E => ∃ (x dx : Addr) (v : V), vs = [.ref x, v] ∧ v ≠ .ref x ∧ H x = some (.ins C dx []) ∧
  Giv K CF CO H v (-1) E fun xs qs => ∀ H' b, But x H H' → H b = none → H' x = some (.ins C dx (rwF b ((qs.length : Int) - 1) (hgtV qs 0))) → H' b = some (.lst xs) → Q .non H'
def spSI (K : PySem.W.Frag) (S CF CO : Addr) : Sp := fun vs H Q E => ∃ (x dx : Addr) (v : V), vs = [.ref x, v] ∧ v ≠ .ref x ∧ H x = some (.ins S dx []) ∧
  Giv K CF CO H v 0 E fun xs qs => ∀ H' b x0 fv sv, xs[0]? = some x0 → But x H H' → H b = none → H' x = some (.ins S dx (stF b (qs.length : Int) x0 (kindS qs) (hgtV qs 1) fv sv)) → H' b = some (.lst xs) → Q .non H'
abbrev nIn : List Str := ["self", "numbers"]
theorem but_put {x : Addr} {H : Hp} {o : HO} : But x H (upd H x o) := fun b u n h => by rw [upd_ne n]; exact h
theorem Nq.but {K : PySem.W.Frag} {H H' : Hp} {x C dx : Addr} {fs : List (Str × V)} {v : V} {q : Rat} (h : Nq K H v q) (hx : H x = some (.ins C dx fs)) (s : But x H H') : Nq K H' v q := by
  obtain ⟨a, e, h⟩ := h
  refine ⟨a, e, h.imp (fun h => s _ _ (fun z => ?_) h) id⟩
  rw [z, hx] at h
  cases h
theorem Nl.but {K : PySem.W.Frag} {H H' : Hp} {x C dx : Addr} {fs : List (Str × V)} {xs : List V} {qs : List Rat} (h : Nl K H xs qs) (hx : H x = some (.ins C dx fs)) (s : But x H H') : Nl K H' xs qs := ⟨h.1, fun i y q h1 h2 => (h.2 i y q h1 h2).but hx s⟩
section
variable {P : Program} {w : World} {K : PySem.W.Frag} {mg : Str → Option Value} {base : Heap} {f fI C S CF CO o1 o0 : Addr} {fd : FuncData}
/-- from Giv to the promise of checked_numbers -/
theorem Giv.cn {H : Hp} {v : V} {fu : Int} {E : XK} {Qx : Addr → Hp → Prop} {good : List V → List Rat → Prop} (h : Giv K CF CO H v fu E good)
    (q : ∀ a xs qs H' b, v = .ref a → SqH H a xs → Nl K H xs qs → good xs qs → 2 ≤ (xs.length : Int) + fu → (xs.length : Int) + fu ≤ 24 → Same H H' → H b = none → H' b = some (.lst xs) → Qx b H') :
  ((LsV K H v false ∧ Air H CF (fs1 "InvalidFraction" "at" [.int (-1)]) E) ∨
   ∃ (a : Addr) (xs : List V) (rs : List Bool), v = .ref a ∧ SqH H a xs ∧
     (((xs.length : Int) + fu < 2 ∨ 24 < (xs.length : Int) + fu) ∧ Air H CO (fs1 "InvalidOrder" "value" [.int ((xs.length : Int) + fu)]) E ∨
      2 ≤ (xs.length : Int) + fu ∧ (xs.length : Int) + fu ≤ 24 ∧ Its K H xs rs ∧ (∀ k : Nat, badAt rs 0 = some k → Air H CF (fs1 "InvalidFraction" "at" [.int (k : Nat)]) E) ∧
        (badAt rs 0 = none → ∀ H' b, Same H H' → H b = none → H' b = some (.lst xs) → Qx b H'))) := by
  rcases h with h | ⟨a, xs, rfl, ha, h⟩
  · exact .inl h
  · rcases h with ⟨ho, air⟩ | ⟨l1, l2, h⟩
    · exact .inr ⟨a, xs, [], rfl, ha, .inl ⟨ho, air⟩⟩
    · rcases h with ⟨rs, k, hI, hb, air⟩ | ⟨qs, nx, g⟩
      · refine .inr ⟨a, xs, rs, rfl, ha, .inr ⟨l1, l2, hI, fun k' hk => ?_, fun z => ?_⟩⟩
        · rw [hb] at hk
          rw [← Option.some.inj hk]
          exact air
        · rw [hb] at z; cases z
      · refine .inr ⟨a, xs, _, rfl, ha, .inr ⟨l1, l2, nx.its, fun k' hk => ?_, fun z H' b s n e => q a xs qs H' b rfl ha nx g l1 l2 s n e⟩⟩
        rw [bad_rep] at hk
        cases hk
end
end Kx
end
section
set_option maxHeartbeats 4000000
namespace Kx
open PySem PySem.Spec PyProof.Rows L2 RZ
theorem hgtN_ex : ∀ (qs : List Rat) (f : Nat), (∃ q ∈ qs, q ≠ 0) → ∃ k, k < qs.length ∧ hgtN qs f = some (f + k)
  | [], _, h => by obtain ⟨q, hq, _⟩ := h; cases hq
  | q :: qs, f, h => by
    by_cases c : q = 0
    · obtain ⟨r, hr, nr⟩ := h
      have hr' : r ∈ qs := by
        rcases List.mem_cons.mp hr with e | e
        · exact absurd (by rw [e]; exact c) nr
        · exact e
      obtain ⟨k, hk, e⟩ := hgtN_ex qs (f + 1) ⟨r, hr', nr⟩
      refine ⟨k + 1, by rw [List.length_cons]; omega, ?_⟩
      show (if q = 0 then hgtN qs (f + 1) else some f) = _
      rw [if_pos c, e]
      congr 1
      omega
    · refine ⟨0, by rw [List.length_cons]; omega, ?_⟩
      show (if q = 0 then hgtN qs (f + 1) else some f) = _
      rw [if_neg c]
      rfl
theorem not_zero {qs : List Rat} (h : ¬ (qs.all (fun q => decide (q = 0)) = true)) : ∃ q ∈ qs, q ≠ 0 := by
  rw [List.all_eq_true] at h
  exact Classical.byContradiction fun z => h fun q hq => decide_eq_true (Classical.byContradiction fun n => z ⟨q, hq, n⟩)
theorem kind_creep {qs : List Rat} (h : kindS qs = "creep") : ∃ q ∈ qs.drop 1, q ≠ 0 := by
  unfold kindS at h
  split at h
  · split at h <;> exact absurd h (by decide)
  · split at h
    · split at h
      · exact absurd h (by decide)
      · exact not_zero (by assumption)
    · split at h <;> exact absurd h (by decide)
theorem kind_crush {qs : List Rat} (h : kindS qs = "crush") : ∃ q ∈ qs, q ≠ 0 := by
  have z : ∃ q ∈ qs.drop 1, q ≠ 0 := by
    unfold kindS at h
    split at h
    · split at h
      · exact absurd h (by decide)
      · exact not_zero (by assumption)
    · split at h
      · split at h <;> exact absurd h (by decide)
      · split at h <;> exact absurd h (by decide)
  obtain ⟨q, hq, n⟩ := z
  exact ⟨q, List.mem_of_mem_drop hq, n⟩
/-- how far an __init__ has come -/
structure Stg (K : PySem.W.Frag) (H Hk : Hp) (x S dx : Addr) (fs : List (Str × V)) (b : Addr) (xs : List V) (qs : List Rat) : Prop where
  u : But x H Hk
  hx : Hk x = some (.ins S dx fs)
  hb : Hk b = some (.lst xs)
  nx : Nl K Hk xs qs
  xb : b ≠ x
theorem Stg.put {K : PySem.W.Frag} {H Hk : Hp} {x S dx : Addr} {fs : List (Str × V)} {b : Addr} {xs : List V} {qs : List Rat} (h : Stg K H Hk x S dx fs b xs qs) (fs' : List (Str × V)) : Stg K H (upd Hk x (.ins S dx fs')) x S dx fs' b xs qs :=
  ⟨h.u.trans but_put, upd_same, by rw [upd_ne h.xb]; exact h.hb, h.nx.but h.hx but_put, h.xb⟩
theorem Stg.go {K : PySem.W.Frag} {H Hk H' : Hp} {x S dx : Addr} {fs : List (Str × V)} {b : Addr} {xs : List V} {qs : List Rat} (h : Stg K H Hk x S dx fs b xs qs) (s : Same Hk H') : Stg K H H' x S dx fs b xs qs :=
  ⟨h.u.trans (But.same s), s _ _ h.hx, s _ _ h.hb, h.nx.same s, h.xb⟩
section
variable {P : Program} {w : World} {K : PySem.W.Frag} {mg : Str → Option Value} {base : Heap} {f fI C S CF CO o1 o0 : Addr} {fd : FuncData}
theorem scSI : FnScope nIn ["self", "numbers"] (defScope C_Step_init) := ⟨rfl, rfl, rfl, by decide +kernel, rfl, by decide +kernel, by decide +kernel⟩
theorem ok_stinit (G : Fun K "__init__" "Step.__init__" C_Step_init f fd) (c : Cls K S) (nA : ∀ n ∈ stN, NoAttr K S n) (mn : mg "len" = none)
    (UN : Use P w K mg base (L2.CX P w) 5 "checked_numbers" ["numbers", "further"] (spCn K CF CO) []) (UD : Use P w K mg base CX0 2 "kind_of" ["numbers"] (spKo K) []) (UL : Use P w K mg base CX0 1 "least_place" ["numbers", "first"] (spLp K) []) :
    FnOk P w K mg base (L2.CX P w) 6 f fd ["self", "numbers"] (spSI K S CF CO) := by
  refine G.okX scSI (fun vs H Q E h => ?_) (fun cdv A outer s H vs Q E hr h => ?_)
  · obtain ⟨x, dx, v, rfl, _⟩ := h
    rfl
  obtain ⟨x, dx, v, rfl, nv, hx, hg⟩ := h
  have hr1 := hr.mono (show 1 ≤ 5 by decide)
  have hr2 := hr.mono (show 2 ≤ 5 by decide)
  have n1 := nA "_numbers" (by simp [stN])
  have n2 := nA "order" (by simp [stN])
  have n3 := nA "lead" (by simp [stN])
  have n4 := nA "kind" (by simp [stN])
  have n5 := nA "height" (by simp [stN])
  have n6 := nA "flat" (by simp [stN])
  have n7 := nA "strength" (by simp [stN])
  refine ⟨_, pss_cons (ps_fld (pv 0) (pe_use (E := E) UN hr rfl (passes_call (takes_of rfl rfl rfl rfl) (fun _ _ _ _ h => h)) (pa_cons (pv 1) (pa_cons pe_int pa_nil))) rfl)
    (pss_cons (ps_fld (pv 0) (pe_callB call_len_seq rfl mn PySem.boot_len (pa_cons (pv 1) pa_nil)) rfl)
    (pss_cons (ps_fld (pv 0) (pe_ix ix_list (pe_fld (pv 0) rfl) pe_int (fun _ _ => rfl)) rfl)
    (pss_cons (ps_fld (pv 0) (pe_use UD hr2 rfl pass0 (pa_cons (pe_fld (pv 0) rfl) pa_nil)) rfl)
    (pss_cons (ps_fld (pv 0) (pe_use UL hr1 rfl pass0 (pa_cons (pe_fld (pv 0) rfl) (pa_cons pe_int pa_nil))) rfl)
    (pss_cons (ps_fld (pv 0) pe_non rfl)
    (pss_cons (ps_fld (pv 0) pe_non rfl)
    (C8.pss_cut (ps_if (pt_cmpR op_eq (pe_fld (pv 0) rfl) pe_str (nomark _)) (pss_cons (ps_fld (pv 0) (pe_use UL hr1 rfl pass0 (pa_cons (pe_slice sl_list (pe_fld (pv 0) rfl) (po_some pe_int) po_none) (pa_cons pe_int pa_nil))) rfl)
        (pss_one (ps_fld (pv 0) (pe_ix ix_list (pe_fld (pv 0) rfl) (pe_fld (pv 0) rfl) (fun _ _ => rfl)) rfl))) pss_nil)
    (pss_one (ps_if (pt_cmpR op_eq (pe_fld (pv 0) rfl) pe_str (nomark _)) (pss_one (ps_fld (pv 0) (pe_ix ix_list (pe_fld (pv 0) rfl) (pe_op op_sub (pe_fld (pv 0) rfl) pe_int) (fun _ _ => rfl)) rfl)) pss_nil))))))))), ?_⟩
  refine ⟨_, rfl, v, 0, rfl, ?_⟩
  refine hg.cn fun a xs qs H1 b ev ha nx g l1 l2 s1 nb hb => ?_
  subst ev
  have xb : b ≠ x := fun e => by rw [e, hx] at nb; cases nb
  have xa : a ≠ x := fun e => nv (by rw [e])
  have lq : xs.length = qs.length := nx.1
  have g1 : Stg K H H1 x S dx [] b xs qs := ⟨But.same s1, s1 _ _ hx, hb, nx.same s1, xb⟩
  have ha1 := ha.same s1
  refine ⟨_, rfl, x, S, dx, _, rfl, g1.hx, c, n1, by decide, ?_⟩
  have g2 := g1.put (putF "_numbers" (.ref b) [])
  have ha2 : SqH (upd H1 x (.ins S dx (putF "_numbers" (.ref b) []))) a xs := by
    unfold SqH
    rw [upd_ne xa]
    exact ha1
  generalize upd H1 x (.ins S dx (putF "_numbers" (.ref b) [])) = H2 at g2 ha2
  refine ⟨_, rfl, a, _, rfl, ha2.imp SqL.of SqT.of, _, rfl, x, S, dx, _, rfl, g2.hx, c, n2, (by show 1 < 1000; decide), ?_⟩
  have g3 := g2.put (putF "order" (.int ((xs.length : Nat) : Int)) (putF "_numbers" (.ref b) []))
  generalize upd H2 x (.ins S dx (putF "order" (.int ((xs.length : Nat) : Int)) (putF "_numbers" (.ref b) []))) = H3 at g3
  obtain ⟨x0, e0, m0⟩ := g3.nx.get' (i := 0) (by omega)
  refine ⟨_, rfl, x, S, dx, _, _, rfl, g3.hx, c, n1, rfl, b, xs, 0, x0, rfl, rfl, SqL.of g3.hb, at_of (j := 0) rfl e0, _, rfl, x, S, dx, _, rfl, g3.hx, c, n3, (by show 2 < 1000; decide), ?_⟩
  rw [lq] at g3 ⊢
  generalize hln : (((qs.length : Nat)) : Int) = ln at g3
  have g4 := g3.put (putF "lead" x0 (putF "order" (.int ln) (putF "_numbers" (.ref b) [])))
  generalize upd H3 x (.ins S dx (putF "lead" x0 (putF "order" (.int ln) (putF "_numbers" (.ref b) [])))) = H4 at g4
  refine ⟨_, rfl, x, S, dx, _, _, rfl, g4.hx, c, n1, rfl, .ref b, qs, rfl, ⟨b, xs, rfl, g4.hb, g4.nx⟩, by omega, by omega, fun H5 s5 => ?_⟩
  have g5 := g4.go s5
  refine ⟨_, rfl, x, S, dx, _, rfl, g5.hx, c, n4, (by show 3 < 1000; decide), ?_⟩
  generalize hkd : kindS qs = kd
  have g6 := g5.put (putF "kind" (.str kd) (putF "lead" x0 (putF "order" (.int ln) (putF "_numbers" (.ref b) []))))
  generalize upd H5 x (.ins S dx (putF "kind" (.str kd) (putF "lead" x0 (putF "order" (.int ln) (putF "_numbers" (.ref b) []))))) = H6 at g6
  refine ⟨_, rfl, x, S, dx, _, _, rfl, g6.hx, c, n1, rfl, .ref b, qs, 1, rfl, ⟨b, xs, rfl, g6.hb, g6.nx⟩, fun H7 s7 => ?_⟩
  have g7 := g6.go s7
  refine ⟨_, rfl, x, S, dx, _, rfl, g7.hx, c, n5, (by show 4 < 1000; decide), ?_⟩
  generalize hhv : hgtV qs 1 = hv
  have g8 := g7.put (putF "height" hv (putF "kind" (.str kd) (putF "lead" x0 (putF "order" (.int ln) (putF "_numbers" (.ref b) [])))))
  generalize upd H7 x (.ins S dx (putF "height" hv (putF "kind" (.str kd) (putF "lead" x0 (putF "order" (.int ln) (putF "_numbers" (.ref b) [])))))) = H8 at g8
  refine ⟨_, rfl, x, S, dx, _, rfl, g8.hx, c, n6, (by show 5 < 1000; decide), ?_⟩
  have g9 := g8.put (putF "flat" .non (putF "height" hv (putF "kind" (.str kd) (putF "lead" x0 (putF "order" (.int ln) (putF "_numbers" (.ref b) []))))))
  generalize upd H8 x (.ins S dx (putF "flat" .non (putF "height" hv (putF "kind" (.str kd) (putF "lead" x0 (putF "order" (.int ln) (putF "_numbers" (.ref b) []))))))) = H9 at g9
  refine ⟨_, rfl, x, S, dx, _, rfl, g9.hx, c, n7, (by show 6 < 1000; decide), ?_⟩
  have g10 : Stg K H (upd H9 x (.ins S dx (stF b ln x0 kd hv .non .non))) x S dx (stF b ln x0 kd hv .non .non) b xs qs := g9.put _
  refine ⟨fun σ H' => σ = [some (.ref x), some (.ref a)] ∧ ∃ fv sv, Stg K H H' x S dx (stF b ln x0 kd hv fv sv) b xs qs, ?_, ?_⟩
  · change Stg K H (upd H9 x (.ins S dx (putF "strength" .non (putF "flat" .non (putF "height" hv (putF "kind" (.str kd) (putF "lead" x0 (putF "order" (.int ln) (putF "_numbers" (.ref b) [])))))))))  x S dx (stF b ln x0 kd hv .non .non) b xs qs at g10
    generalize upd H9 x (.ins S dx (putF "strength" .non (putF "flat" .non (putF "height" hv (putF "kind" (.str kd) (putF "lead" x0 (putF "order" (.int ln) (putF "_numbers" (.ref b) [])))))))) = H10 at g10
    refine ⟨_, rfl, x, S, dx, _, _, rfl, g10.hx, c, n4, rfl, rfl, _, rfl, ite2 (fun e => ?_) (fun _ => ⟨rfl, _, _, g10⟩)⟩
    have ek : kindS qs = "creep" := by rw [hkd]; exact V.str.inj (of_decide_eq_true e)
    obtain ⟨k, hk, ek2⟩ := hgtN_ex (qs.drop 1) 0 (kind_creep ek)
    rw [List.length_drop] at hk
    refine ⟨_, rfl, x, S, dx, _, _, rfl, g10.hx, c, n1, rfl, 1, rfl, b, _, rfl, SqL.of g10.hb, fun p np => ?_⟩
    have ec : cutV xs (some 1) none = xs.drop 1 := cut_drop xs 1
    rw [ec]
    have s11 := new_same np (.lst (xs.drop 1))
    have g11 := g10.go s11
    refine ⟨.ref p, qs.drop 1, 1, rfl, ⟨p, _, rfl, upd_same, g11.nx.drop 1⟩, fun H12 s12 => ?_⟩
    have g12 := g11.go s12
    have ev : hgtV (qs.drop 1) 1 = .int (1 + (k : Nat)) := by
      unfold hgtV
      rw [ek2, Nat.zero_add]
    rw [ev]
    refine ⟨_, rfl, x, S, dx, _, rfl, g12.hx, c, n6, (by show 7 < 1000; decide), ?_⟩
    have g13 : Stg K H (upd H12 x (.ins S dx (putF "flat" (.int (1 + (k : Nat))) (stF b ln x0 kd hv .non .non)))) x S dx (stF b ln x0 kd hv (.int (1 + (k : Nat))) .non) b xs qs := g12.put _
    generalize upd H12 x (.ins S dx (putF "flat" (.int (1 + (k : Nat))) (stF b ln x0 kd hv .non .non))) = H13 at g13
    have e3 := List.getElem?_eq_getElem (l := xs) (i := 1 + k) (by omega)
    refine ⟨_, rfl, x, S, dx, _, _, rfl, g13.hx, c, n1, rfl, _, rfl, x, S, dx, _, _, rfl, g13.hx, c, n6, rfl, b, xs, _, _, rfl, rfl, SqL.of g13.hb, at_of (j := 1 + k) (by omega) e3, _, rfl, x, S, dx, _, rfl, g13.hx, c, n7, (by show 7 < 1000; decide), ?_⟩
    exact ⟨rfl, _, _, g13.put _⟩
  · rintro σ H10 ⟨rfl, fv, sv, g10⟩
    have fin : ∀ H' fv sv, Stg K H H' x S dx (stF b ln x0 kd hv fv sv) b xs qs → Q .non H' := fun H' fv sv z => by
      refine g H' b x0 fv sv e0 z.u nb ?_ z.hb
      rw [hln, hkd, hhv]
      exact z.hx
    refine ⟨_, rfl, x, S, dx, _, _, rfl, g10.hx, c, n4, rfl, rfl, _, rfl, ite2 (fun e => ?_) (fun _ => fin _ _ _ g10)⟩
    have ek : kindS qs = "crush" := by rw [hkd]; exact V.str.inj (of_decide_eq_true e)
    obtain ⟨k, hk, ek2⟩ := hgtN_ex qs 0 (kind_crush ek)
    have ev : hv = .int (1 + (k : Nat)) := by
      rw [← hhv]
      unfold hgtV
      rw [ek2, Nat.zero_add]
    have e3 := List.getElem?_eq_getElem (l := xs) (i := k) (by omega)
    refine ⟨_, rfl, x, S, dx, _, _, rfl, g10.hx, c, n1, rfl, _, rfl, x, S, dx, _, _, rfl, g10.hx, c, n5, rfl, 1 + (k : Nat), 1, ev, rfl, b, xs, _, _, rfl, rfl, SqL.of g10.hb, at_of (j := k) (by omega) e3, _, rfl, x, S, dx, _, rfl, g10.hx, c, n7, (by show 7 < 1000; decide), ?_⟩
    exact fin _ fv _ (g10.put _)
end
end Kx
end
section
set_option maxHeartbeats 4000000
namespace Kx
open PySem PySem.Spec PyProof.Rows L2
/-! ### operators of own classes -/
theorem ep_cmp {X : Cx} {pins : List (Addr × Obj)} {σ : L2.St} {Q : VK} {u : Value} {s' : Shared} (h : EP X pins σ Q u s') : PySem.W.CmpBack (EP X pins σ Q) u s' := by
  obtain ⟨v, H', I, r, q⟩ := h
  have key : u ≠ .notImplemented := by
    rintro rfl
    cases v <;> first | (obtain ⟨_, z⟩ := r; cases z) | cases r
  have fin : EP X pins σ Q u s' := ⟨v, H', I, r, q⟩
  cases u <;> first | exact fin | exact absurd rfl key
/-- an operator's method of a class -/
structure OpM (P : Program) (w : World) (K : PySem.W.Frag) (mg : Str → Option Value) (base : Heap) (CX : CXT) (k : Nat) (C : Addr) (nm : Str) (sp : Sp) : Prop where
  ex : ∃ (g : Addr) (fd : FuncData) (ps : List Str), PySem.W.findIn K (.ref C) nm = some (some (.ref g)) ∧ PySem.W.isFn K (.ref g) = true ∧ FnOk P w K mg base CX k g fd ps sp ∧ Binds K fd ps []
  sf : PySem.W.selfFirst K C = true
def rBin (C : Addr) (sp : Sp) (E : XK) : R2 := fun x y H Q => ∃ (a b dx dy : Addr) (fs gs : List (Str × V)), x = .ref a ∧ y = .ref b ∧ H a = some (.ins C dx fs) ∧ H b = some (.ins C dy gs) ∧ sp [x, y] H Q E
section
variable {X : Cx} {CX : CXT} {k : Nat} {C : Addr} {sp : Sp} {E : XK}
theorem op_bin {op : Operator} {nm : Str} (O : OpM X.prog X.w X.K X.mg X.base CX k C nm sp) (hn : PySem.dunder op.info.2 = nm) (hr : Room k X.A) (hx : Passes CX X E) : OpR X (binaryOp op) (rBin C sp E) := by
  intro pins s σ H x y v u Q I rx ry h
  obtain ⟨a, b, dx, dy, fs, gs, rfl, rfl, ha, hb', hsp⟩ := h
  obtain ⟨g, fd, ps, h1, h2, F, hb⟩ := O.ex
  cases rx
  cases ry
  obtain ⟨mA, J, _⟩ := ins_get I.hok ha
  obtain ⟨mB, J', _⟩ := ins_get I.hok hb'
  obtain ⟨od, J, _⟩ := J.look
  obtain ⟨od', J', _⟩ := J'.look
  obtain ⟨m, hF⟩ := I.fr
  refine PySem.W.binop_K (op := op) hF I.ok.mod.kin J J'.type O.sf (by rw [hn]; exact h1) h2 ?_
  exact wpAny_mono (run_fn (us := [.ref a, .ref b]) (vs := [.ref a, .ref b]) F hr hb .nil hx I (.cons rfl (.cons rfl .nil)) (by rw [List.append_nil]; exact hsp)) (fun r s' hq => ep_cmp hq) fun _ _ z => z
def rUnO (C : Addr) (sp : Sp) (E : XK) : V → Hp → VK → Prop := fun x H Q => ∃ (a dx : Addr) (fs : List (Str × V)), x = .ref a ∧ H a = some (.ins C dx fs) ∧ sp [x] H Q E
theorem un_own (O : OpM X.prog X.w X.K X.mg X.base CX k C "__neg__" sp) (hr : Room k X.A) (hx : Passes CX X E) : UnR X (unaryOp .USub) (rUnO C sp E) := by
  intro pins s σ H x v Q I rx h
  obtain ⟨a, dx, fs, rfl, ha, hsp⟩ := h
  obtain ⟨g, fd, ps, h1, h2, F, hb⟩ := O.ex
  cases rx
  obtain ⟨mA, J, _⟩ := ins_get I.hok ha
  obtain ⟨od, J, _⟩ := J.look
  obtain ⟨m, hF⟩ := I.fr
  refine PySem.W.ksp_neg hF I.ok.mod.kin J h1 h2 ?_
  exact run_fn (us := [.ref a]) (vs := [.ref a]) F hr hb .nil hx I (.cons rfl .nil) (by rw [List.append_nil]; exact hsp)
/-- ==, the left one of the class -/
def rEqO (K : PySem.W.Frag) (C : Addr) (sp : Sp) (E : XK) : R2 := fun x y H Q => ∃ (a dx : Addr) (fs : List (Str × V)) (t : Value), x = .ref a ∧ H a = some (.ins C dx fs) ∧ TyX K H y t ∧ PySem.W.notFirst K C t = true ∧ sp [x, y] H Q E
theorem op_eqO (O : OpM X.prog X.w X.K X.mg X.base CX k C "__eq__" sp) (hr : Room k X.A) (hx : Passes CX X E) : OpR X (compareOp .Eq) (rEqO X.K C sp E) := by
  intro pins s σ H x y v u Q I rx ry h
  obtain ⟨a, dx, fs, t, rfl, ha, ty, nf, hsp⟩ := h
  obtain ⟨g, fd, ps, h1, h2, F, hb⟩ := O.ex
  cases rx
  obtain ⟨mA, J, _⟩ := ins_get I.hok ha
  obtain ⟨od, J, _⟩ := J.look
  obtain ⟨m, hF⟩ := I.fr
  obtain ⟨Pp, Z, pp, _⟩ := kit_of I ry ty
  show wpAny (model X.prog X.w) X.A (richCompare .Eq (.ref a) u) (EP X pins σ Q) X.xe s
  refine PySem.W.cmp_K (op := .Eq) (tb := t) hr.units0 hF I.ok.mod.kin J (Z.ty _ _ I.kIn pp) nf h1 h2 ?_
  exact wpAny_mono (run_fn (us := [.ref a, u]) (vs := [.ref a, y]) F hr hb .nil hx I (.cons rfl (.cons ry .nil)) (by rw [List.append_nil]; exact hsp)) (fun r s' hq => ep_cmp hq) fun _ _ z => z
/-- len(x), x of the class -/
def rLenO (C : Addr) (sp : Sp) (E : XK) : List V → Hp → VK → Prop := fun xs H Q => ∃ (a dx : Addr) (fs : List (Str × V)), xs = [.ref a] ∧ H a = some (.ins C dx fs) ∧ sp [.ref a] H (fun v H' => ∃ n : Nat, v = .int (n : Nat) ∧ n < 2 ^ 62 ∧ Q (.int (n : Nat)) H') E
theorem call_lenO (O : OpM X.prog X.w X.K X.mg X.base CX k C "__len__" sp) (hr : Room (k + 1) X.A) (hx : Passes CX X E) : CallR X (.builtin "len") (rLenO C sp E) := by
  intro pins s σ H xs us Q I r h
  obtain ⟨a, dx, fs, rfl, ha, hsp⟩ := h
  obtain ⟨g, fd, ps, h1, h2, F, hb⟩ := O.ex
  obtain rfl : us = [.ref a] := Vals.ref1 r
  obtain ⟨mA, J, _⟩ := ins_get I.hok ha
  obtain ⟨od, J, _⟩ := J.look
  obtain ⟨m, hF⟩ := I.fr
  refine PySem.W.len_K hF I.ok.mod.kin J h1 h2 ?_
  have hl := F.len _ _ _ _ hsp
  refine wpAny_call (codeAny_mono (F.run X.A.in1 X.stack s H ⟨[.ref a], []⟩ [.ref a] [.ref a] _ E hr.in1 I.env0.in1 (by
    have := hb s [.ref a] I.kIn (by simpa using hl)
    simpa using this) (.cons rfl .nil) hsp) fun r s' hq => ?_)
  cases r with
  | error e => exact hx pins σ H s e s' I hq
  | ok fl =>
    cases fl with
    | ret w =>
      obtain ⟨z, H', I', rz, n, ez, nb, q⟩ := I.after hq
      subst ez
      obtain ⟨t, rfl⟩ := rz
      exact ⟨⟨by omega, by omega⟩, .int _, H', I'.tok _, ⟨_, rfl⟩, q⟩
    | next => exact False.elim hq
    | brk => exact False.elim hq
    | cont => exact False.elim hq
end
/-! ### methods as they are used -/
structure MUse (P : Program) (w : World) (K : PySem.W.Frag) (mg : Str → Option Value) (base : Heap) (CX : CXT) (k : Nat) (C : Addr) (m : Str) (ps : List Str) (sp : Sp) (kws : List (List Str)) : Prop where
  ex : ∃ (g : Addr) (fd : FuncData), Meth K C m g ∧ FnOk P w K mg base CX k g fd ps sp ∧ Binds K fd ps [] ∧ ∀ ks ∈ kws, KBn K fd ps 1 ks appB appA
  c : Cls K C
section
variable {X : Cx} {CX : CXT} {k : Nat} {C : Addr} {m : Str} {ps ks : List Str} {sp : Sp} {E : XK} {kl : List (List Str)} {o e : Expr} {es : List Expr} {ta : TE} {t tk : TA} {apos pos : Pos} {kws : List Keyword} {pl : Sem Bool}
theorem pe_mu (U : MUse X.prog X.w X.K X.mg X.base CX k C m ps sp kl) (he : PE X o ta) (hr : Room k X.A) (hx : Passes CX X E) (ha : PA X (e :: es) t)
    (hst : starEach (e :: es) X.env = (false, eval e X.env) :: starEach es X.env := by rfl) (hpl : (backTo pos (starEach es X.env)).any (·.1) = false := by rfl)
    (ht : eval (.Call (.Attribute o m apos) (e :: es) [] pos) X.env = (do
      let ov ← eval o X.env
      standAt apos.atName
      let (f, first) ← holding [ov] (getMethod ov m pl)
      callWith pos f first (backTo pos (starEach (e :: es) X.env)) (backToKw pos (keywordEach [] X.env))) := by rfl) :
    PE X (.Call (.Attribute o m apos) (e :: es) [] pos) (tMeth C m sp [] E ta t) := by
  obtain ⟨g, fd, hm, F, hb, _⟩ := U.ex
  exact pe_meth (pl := pl) he U.c hm F hr hb .nil hx ha hst hpl ht
theorem pe_mu0 (U : MUse X.prog X.w X.K X.mg X.base CX k C m ps sp kl) (he : PE X o ta) (hr : Room k X.A) (hx : Passes CX X E)
    (ht : eval (.Call (.Attribute o m apos) [] [] pos) X.env = (do
      let ov ← eval o X.env
      standAt apos.atName
      let (f, first) ← holding [ov] (getMethod ov m pl)
      callWith pos f first (backTo pos (starEach [] X.env)) (backToKw pos (keywordEach [] X.env))) := by rfl) :
    PE X (.Call (.Attribute o m apos) [] [] pos) (tMeth C m sp [] E ta tNil) := by
  obtain ⟨g, fd, hm, F, hb, _⟩ := U.ex
  exact pe_meth0 (pl := pl) he U.c hm F hr hb .nil hx ht
/-- o.m(k = v, ..), keywords alone -/
def tMethR (C : Addr) (m : Str) (n : Nat) (sp : Sp) (E : XK) (ta : TE) (tk : TA) : TE := fun σ H Q => ta σ H fun x H1 => ∃ a dx fs, x = .ref a ∧ H1 a = some (.ins C dx fs) ∧ fs.lookup m = none ∧ tk σ H1 fun zs H2 => zs.length = n ∧ sp (x :: zs) H2 Q E
theorem pe_muR (U : MUse X.prog X.w X.K X.mg X.base CX k C m ps sp kl) (he : PE X o ta) (hr : Room k X.A) (hx : Passes CX X E) (hkw : PK X kws tk) (hin : ks ∈ kl)
    (hall : (backToKw pos (keywordEach kws X.env)).all (·.1.isSome) = true := by rfl) (hks : (backToKw pos (keywordEach kws X.env)).filterMap (·.1) = ks := by rfl)
    (hpl : ((backTo pos (starEach [] X.env)).any (·.1) || (backToKw pos (keywordEach kws X.env)).any (·.1.isNone)) = false := by rfl)
    (ht : eval (.Call (.Attribute o m apos) [] kws pos) X.env = (do
      let ov ← eval o X.env
      standAt apos.atName
      let (f, first) ← holding [ov] (getMethod ov m pl)
      callWith pos f first (backTo pos (starEach [] X.env)) (backToKw pos (keywordEach kws X.env))) := by rfl) :
    PE X (.Call (.Attribute o m apos) [] kws pos) (tMethR C m ks.length sp E ta tk) := by
  obtain ⟨g, fd, hm, F, _, hK⟩ := U.ex
  have hb := hK ks hin
  refine ⟨fun pins s σ H Q I h => ?_⟩
  refine PySem.W.methodCall_KW (pl := pl) (thn (he.run pins s σ H _ I h) fun u s1 ⟨x, H1, I1, rx, a, dx, fs, ex, ea, l, q⟩ => ?_) ht
  subst ex
  obtain rfl : u = Value.ref a := rx
  refine getmeth_ok I1 ea U.c hm l ?_
  refine PySem.W.callWith_KW0 (first := [.ref a]) (h₀ := X.base) I.ok.mod.kin hm.kp hall ?_ hpl
  refine thn (hkw.run pos pins s1 σ H1 _ I1 q) fun ws s2 ⟨zs, H2, I2, rz, l2, q2⟩ => ⟨I2.kIn, ?_⟩
  rw [hks]
  exact run_fnN (us := [.ref a]) (vs := [.ref a]) F hr hb hx I2 (.cons rfl .nil) rz rfl l2 q2
end
structure CSta (K : PySem.W.Frag) (C : Addr) (mc : Value) (m : Str) (p g : Addr) : Prop where
  at_ : PySem.W.findCls K (.ref C) mc m = some (.get (.builtin "staticmethod.__get__") (.ref p) .none (.ref C))
  rc : ∃ rest, PySem.W.recIn K p "staticmethod" = some (.ref g :: rest)
  kp : PySem.W.keepIn K (.ref g) = true
def tStat (C : Addr) (sp : Sp) (E : XK) (ta : TE) (t : TA) : TE := fun σ H Q => ta σ H fun x H1 => x = .ref C ∧ t σ H1 fun vs H2 => sp vs H2 Q E
section
variable {X : Cx} {CX : CXT} {k : Nat} {C p g : Addr} {mc : Value} {fd : FuncData} {ps : List Str} {sp : Sp} {E : XK} {o e : Expr} {es : List Expr} {m : Str} {pos apos : Pos} {ta : TE} {t : TA} {pl : Sem Bool}
theorem pe_static (he : PE X o ta) (r : ClX.CRead X.K C mc) (c : CSta X.K C mc m p g) (F : FnOk X.prog X.w X.K X.mg X.base CX k g fd ps sp) (hr : Room k X.A) (hb : Binds X.K fd ps []) (hx : Passes CX X E) (ha : PA X (e :: es) t)
    (hst : starEach (e :: es) X.env = (false, eval e X.env) :: starEach es X.env := by rfl) (hpl : (backTo pos (starEach es X.env)).any (·.1) = false := by rfl)
    (ht : eval (.Call (.Attribute o m apos) (e :: es) [] pos) X.env = (do
      let ov ← eval o X.env
      standAt apos.atName
      let (f, first) ← holding [ov] (getMethod ov m pl)
      callWith pos f first (backTo pos (starEach (e :: es) X.env)) (backToKw pos (keywordEach [] X.env))) := by rfl) :
    PE X (.Call (.Attribute o m apos) (e :: es) [] pos) (tStat C sp E ta t) := by
  refine ⟨fun pins s σ H Q I h => ?_⟩
  refine PySem.W.methodCall_KW (pl := pl) (thn (he.run pins s σ H _ I h) fun u s1 ⟨x, H1, I1, rx, ex, q⟩ => ?_) ht
  subst ex
  obtain rfl : u = Value.ref C := rx
  obtain ⟨rest, hp⟩ := c.rc
  refine PySem.W.method_cls I1.kIn r.ga (PySem.W.cls_bind I1.kIn r.rd c.at_ (wpAny_call (PySem.W.sm_get (s := { s1 with toks := s1.toks + 1 }) I1.kIn hp (PySem.W.handed_on rfl ?_))))
  have I2 : Inv X pins σ H1 { s1 with toks := s1.toks + 1 } := I1.tok _
  refine PySem.W.callWith_K (h₀ := X.base) I2.ok.mod.kin c.kp (thn (ha.run pos pins _ σ H1 _ I2 q) fun us s3 ⟨vs, H2, I3, rv, q2⟩ => ⟨I3.kIn, ?_⟩) hst hpl
  exact run_fn F hr hb .nil hx I3 rv (by rw [List.append_nil]; exact q2)
end
/-- C.m(k = v, ..) of a staticmethod, keywords alone -/
def tStatR (C : Addr) (n : Nat) (sp : Sp) (E : XK) (ta : TE) (t : TA) : TE := fun σ H Q => ta σ H fun x H1 => x = .ref C ∧ t σ H1 fun zs H2 => zs.length = n ∧ sp zs.reverse H2 Q E
section
variable {X : Cx} {CX : CXT} {k : Nat} {C p g : Addr} {mc : Value} {fd : FuncData} {ps ks : List Str} {sp : Sp} {E : XK} {o : Expr} {m : Str} {pos apos : Pos} {ta : TE} {tk : TA} {pl : Sem Bool} {kws : List Keyword}
theorem pe_staticR (he : PE X o ta) (r : ClX.CRead X.K C mc) (c : CSta X.K C mc m p g) (F : FnOk X.prog X.w X.K X.mg X.base CX k g fd ps sp) (hr : Room k X.A) (hb : KBn X.K fd ps 0 ks revB revA) (hx : Passes CX X E) (hkw : PK X kws tk)
    (hall : (backToKw pos (keywordEach kws X.env)).all (·.1.isSome) = true := by rfl) (hks : (backToKw pos (keywordEach kws X.env)).filterMap (·.1) = ks := by rfl)
    (hpl : ((backTo pos (starEach [] X.env)).any (·.1) || (backToKw pos (keywordEach kws X.env)).any (·.1.isNone)) = false := by rfl)
    (ht : eval (.Call (.Attribute o m apos) [] kws pos) X.env = (do
      let ov ← eval o X.env
      standAt apos.atName
      let (f, first) ← holding [ov] (getMethod ov m pl)
      callWith pos f first (backTo pos (starEach [] X.env)) (backToKw pos (keywordEach kws X.env))) := by rfl) :
    PE X (.Call (.Attribute o m apos) [] kws pos) (tStatR C ks.length sp E ta tk) := by
  refine ⟨fun pins s σ H Q I h => ?_⟩
  refine PySem.W.methodCall_KW (pl := pl) (thn (he.run pins s σ H _ I h) fun u s1 ⟨x, H1, I1, rx, ex, q⟩ => ?_) ht
  subst ex
  obtain rfl : u = Value.ref C := rx
  obtain ⟨rest, hp⟩ := c.rc
  refine PySem.W.method_cls I1.kIn r.ga (PySem.W.cls_bind I1.kIn r.rd c.at_ (wpAny_call (PySem.W.sm_get (s := { s1 with toks := s1.toks + 1 }) I1.kIn hp (PySem.W.handed_on rfl ?_))))
  have I2 : Inv X pins σ H1 { s1 with toks := s1.toks + 1 } := I1.tok _
  refine PySem.W.callWith_KW0 (h₀ := X.base) I2.ok.mod.kin c.kp hall ?_ hpl
  refine thn (hkw.run pos pins _ σ H1 _ I2 q) fun ws s3 ⟨zs, H2, I3, rz, l2, q2⟩ => ⟨I3.kIn, ?_⟩
  rw [hks]
  exact run_fnN (us := []) (vs := []) F hr hb hx I3 .nil rz rfl l2 q2
end
end Kx
end
section
set_option maxHeartbeats 4000000
namespace Kx
open PySem PySem.Spec PyProof.Rows L2 RZ
/-! ### lists of numbers as data -/
def datL (qs : List Rat) : PyData := .list (qs.map tupQ)
theorem dpAll : ∀ {K : PySem.W.Frag} {H : Hp} {xs : List V} {qs : List Rat}, Nl K H xs qs → DpAll K H xs (qs.map tupQ)
  | _, _, [], [], _ => .nil
  | _, _, [], _ :: _, h => by cases h.1
  | _, _, _ :: _, [], h => by cases h.1
  | _, _, x :: xs, q :: qs, h => .cons (h.2 0 x q rfl rfl).dp (dpAll h.tail)
theorem Nl.dp {K : PySem.W.Frag} {H : Hp} {b : Addr} {xs : List V} {qs : List Rat} (h : Nl K H xs qs) (e : H b = some (.lst xs)) : Dp K H (.ref b) (datL qs) := .lst (SqL.of e) (dpAll h)
theorem eqvA_num : ∀ qs rs : List Rat, PyData.eqvAll (qs.map tupQ) (rs.map tupQ) = decide (qs = rs)
  | [], [] => rfl
  | [], _ :: _ => by simp [PyData.eqvAll]
  | _ :: _, [] => by simp [PyData.eqvAll]
  | q :: qs, r :: rs => by
    show (PyData.eqv (tupQ q) (tupQ r) && PyData.eqvAll (qs.map tupQ) (rs.map tupQ)) = _
    rw [eqv_num, eqvA_num qs rs]
    by_cases c : q = r
    · by_cases d : qs = rs
      · simp [c, d]
      · simp [c, d]
    · simp [c]
theorem eqv_list (qs rs : List Rat) : PyData.eqv (datL qs) (datL rs) = decide (qs = rs) := by
  show PyData.eqvAll _ _ = _
  exact eqvA_num qs rs
theorem lay_num : ∀ qs : List Rat, PyData.canLayAll0 (qs.map tupQ) = true ∧ PyData.depthAll (qs.map tupQ) ≤ 1
  | [] => ⟨rfl, by decide⟩
  | q :: qs => by
    obtain ⟨h1, h2⟩ := lay_num qs
    constructor
    · show (PyData.canLay0 (tupQ q) && PyData.canLayAll0 (qs.map tupQ)) = true
      rw [h1]
      rfl
    · show max (PyData.depth (tupQ q)) (PyData.depthAll (qs.map tupQ)) ≤ 1
      have : PyData.depth (tupQ q) = 1 := rfl
      omega
theorem shaped_list (qs : List Rat) : SeqAt.shaped (datL qs) = true := by
  obtain ⟨h1, h2⟩ := lay_num qs
  unfold SeqAt.shaped
  rw [Bool.and_eq_true]
  refine ⟨h1, decide_eq_true ?_⟩
  show PyData.depthAll (qs.map tupQ) + 1 ≤ 64
  omega
end Kx
end
section
set_option maxHeartbeats 4000000
namespace Kx
open PySem PySem.Spec PyProof.Rows L2 RZ
variable {nb : Nat}
theorem But.free {B p a : Addr} {H H' : Hp} (u : But B H H') (b : Bag nb H' B p) (h : H' a = none) : H a = none := by
  obtain ⟨_, _, _, _, _, h1, _⟩ := b.ex
  cases e : H a with
  | none => rfl
  | some o =>
    have z := u a o (fun y => by rw [y, h1] at h; cases h) e
    rw [h] at z
    cases z
theorem Bag.put {H : Hp} {B p a : Addr} {o : HO} (b : Bag nb H B p) (h : H a = none) : Bag nb (upd H a o) B p := b.same (new_same h o)
theorem Bag.at {H : Hp} {B p : Addr} (b : Bag nb H B p) {a : Addr} (h : H a = none) : a ≠ B ∧ a ≠ p := by
  obtain ⟨_, _, _, _, _, h1, h2, _⟩ := b.ex
  refine ⟨fun e => ?_, fun e => ?_⟩
  · rw [e, h1] at h
    cases h
  · rw [e, h2] at h
    cases h
/-- all but the bag and the tables stand -/
def Go (B : Addr) (H H' : Hp) : Prop := ∀ b o, b ≠ B → (∀ ps, o ≠ .tbl ps) → H b = some o → H' b = some o
theorem Go.of {B : Addr} {H H' : Hp} (h : But B H H') : Go B H H' := fun b o n _ e => h b o n e
theorem Go.ext {B : Addr} {H H' : Hp} (h : LamX.ExtN H H') : Go B H H' := fun b o _ t e => h b o e t
theorem Go.trans {B : Addr} {H H1 H2 : Hp} (a : Go B H H1) (b : Go B H1 H2) : Go B H H2 := fun x o n t h => b x o n t (a x o n t h)
theorem Bag.ext {H H' : Hp} {B p : Addr} (b : Bag nb H B p) (h : LamX.ExtN H H') : Bag nb H' B p := by
  obtain ⟨ns, i, r, sd, c, h1, h2, h3⟩ := b.ex
  exact ⟨ns, i, r, sd, c, h _ _ h1 (fun ps z => by cases z), h _ _ h2 (fun ps z => by cases z), h3⟩
theorem tabs_but {T : List (Addr × Str)} {H H' : Hp} {B p : Addr} (t : LamX.Tabs T H) (b : Bag nb H B p) (u : But B H H') : LamX.Tabs T H' := by
  obtain ⟨ns, i, r, sd, c, h1, _⟩ := b.ex
  intro q hq
  obtain ⟨ps, e1, e2, e3⟩ := t q hq
  refine ⟨ps, u _ _ (fun z => ?_) e1, e2, fun pos cv hc => ?_⟩
  · rw [z, h1] at e1
    cases e1
  · obtain ⟨c0, z1, z2⟩ := e3 pos cv hc
    refine ⟨c0, z1, u _ _ (fun z => ?_) z2⟩
    rw [z, h1] at z2
    cases z2
theorem Go.same {B : Addr} {H H' : Hp} (h : Same H H') : Go B H H' := Go.of (But.same h)
theorem Go.refl {B : Addr} {H : Hp} : Go B H H := fun _ _ _ _ h => h
section
variable {K : PySem.W.Frag} {H H' : Hp} {B p : Addr}
theorem Nq.go {v : V} {q : Rat} (h : Nq K H v q) (b : Bag nb H B p) (s : Go B H H') : Nq K H' v q := by
  obtain ⟨a, e, h⟩ := h
  obtain ⟨ns, i, r, sd, c, hb, _⟩ := b.ex
  refine ⟨a, e, h.imp (fun h => s _ _ (fun z => ?_) (fun ps z => by cases z) h) id⟩
  rw [z, hb] at h
  cases h
theorem Nl.go {xs : List V} {qs : List Rat} (h : Nl K H xs qs) (b : Bag nb H B p) (s : Go B H H') : Nl K H' xs qs := ⟨h.1, fun i x q h1 h2 => (h.2 i x q h1 h2).go b s⟩
/-- a list of numbers is not the bag -/
theorem Nl.ne {xs : List V} {qs : List Rat} {a : Addr} (h : Nl K H xs qs) (l : 2 ≤ qs.length) (ha : H a = some (.lst xs)) (b : Bag nb H B p) : a ≠ B := by
  rintro rfl
  obtain ⟨ns, i, r, sd, c, hb, _⟩ := b.ex
  rw [ha] at hb
  have e : xs = bagL p i r sd c := by
    have := Option.some.inj hb
    exact HO.lst.inj this
  obtain ⟨x, ex, n⟩ := h.get' (i := 1) (by omega)
  rw [e] at ex
  have e2 : V.int i = x := Option.some.inj (show some (V.int i) = some x from ex)
  obtain ⟨a', e3, _⟩ := n
  rw [← e2] at e3
  cases e3
theorem Ls.go {v : V} {qs : List Rat} (h : Ls K H v qs) (l : 2 ≤ qs.length) (b : Bag nb H B p) (s : Go B H H') : Ls K H' v qs := by
  obtain ⟨a, xs, e, h1, h2⟩ := h
  exact ⟨a, xs, e, s _ _ (h2.ne l h1 b) (fun ps z => by cases z) h1, h2.go b s⟩
theorem ins_go {x C dx : Addr} {fs : List (Str × V)} (h : H x = some (.ins C dx fs)) (b : Bag nb H B p) (s : Go B H H') : H' x = some (.ins C dx fs) := by
  obtain ⟨ns, i, r, sd, c, hb, _⟩ := b.ex
  refine s _ _ (fun z => ?_) (fun ps z => by cases z) h
  rw [z, hb] at h
  cases h
theorem tup_go {x : Addr} {xs : List V} (h : H x = some (.tup xs)) (b : Bag nb H B p) (s : Go B H H') : H' x = some (.tup xs) := by
  obtain ⟨ns, i, r, sd, c, hb, _⟩ := b.ex
  refine s _ _ (fun z => ?_) (fun ps z => by cases z) h
  rw [z, hb] at h
  cases h
theorem lst_go {x : Addr} {xs : List V} (h : H x = some (.lst xs)) (n : xs.length ≠ 5) (b : Bag nb H B p) (s : Go B H H') : H' x = some (.lst xs) := by
  obtain ⟨ns, i, r, sd, c, hb, _⟩ := b.ex
  refine s _ _ (fun z => ?_) (fun ps z => by cases z) h
  rw [z, hb] at h
  have e := HO.lst.inj (Option.some.inj h)
  rw [← e] at n
  exact n rfl
theorem StAt.go {S : Addr} {v : V} {qs : List Rat} (h : StAt K S H v qs) (b : Bag nb H B p) (s : Go B H H') : StAt K S H' v qs := by
  obtain ⟨x, dx, c, xs, x0, fv, sv, e, h1, h2, h3, h4, h5, h6⟩ := h
  exact ⟨x, dx, c, xs, x0, fv, sv, e, ins_go h1 b s, s _ _ (h3.ne (by omega) h2 b) (fun ps z => by cases z) h2, h3.go b s, h4, h5, h6⟩
theorem Nq.ext {v : V} {q : Rat} (h : Nq K H v q) (s : LamX.ExtN H H') : Nq K H' v q := by
  obtain ⟨a, e, n⟩ := h
  exact ⟨a, e, n.imp (fun n => s _ _ n (fun ps z => by cases z)) id⟩
theorem Nl.ext {xs : List V} {qs : List Rat} (h : Nl K H xs qs) (s : LamX.ExtN H H') : Nl K H' xs qs := ⟨h.1, fun i y q a b => (h.2 i y q a b).ext s⟩
theorem Ls.ext {v : V} {qs : List Rat} (h : Ls K H v qs) (s : LamX.ExtN H H') : Ls K H' v qs := by
  obtain ⟨a, xs, e, h1, h2⟩ := h
  exact ⟨a, xs, e, s _ _ h1 (fun ps z => by cases z), h2.ext s⟩
end
end Kx
end
section
set_option maxHeartbeats 4000000
namespace Kx
open PySem PySem.Spec PyProof.Rows L2 RZ
/-- the flat of a step -/
def flS (qs : List Rat) : V := if kindS qs = "creep" then hgtV (qs.drop 1) 1 else .non
theorem flS_yes {qs : List Rat} (h : kindS qs = "creep") : flS qs = hgtV (qs.drop 1) 1 := if_pos h
theorem flS_no {qs : List Rat} (h : kindS qs ≠ "creep") : flS qs = .non := if_neg h
/-- where its strength stands -/
def strI (qs : List Rat) : Option Nat := if kindS qs = "creep" then (hgtN (qs.drop 1) 0).map (1 + ·) else if kindS qs = "crush" then hgtN qs 0 else none
theorem strI_creep {qs : List Rat} (h : kindS qs = "creep") : strI qs = (hgtN (qs.drop 1) 0).map (1 + ·) := if_pos h
theorem strI_crush {qs : List Rat} (h : kindS qs = "crush") : strI qs = hgtN qs 0 := by
  unfold strI
  rw [if_neg (by rw [h]; decide), if_pos h]
theorem strI_no {qs : List Rat} (h : kindS qs ≠ "creep") (h2 : kindS qs ≠ "crush") : strI qs = none := by
  unfold strI
  rw [if_neg h, if_neg h2]
def StrV (K : PySem.W.Frag) (H : Hp) (sv : V) (qs : List Rat) : Prop := match strI qs with
  | some i => ∃ r, qs[i]? = some r ∧ Nq K H sv r
  | none => sv = .non
/-- Step.__init__, with flat and strength told -/
def spSIF (K : PySem.W.Frag) (S CF CO : Addr) : Sp := fun vs H Q E => ∃ (x dx : Addr) (v : V), vs = [.ref x, v] ∧ v ≠ .ref x ∧ H x = some (.ins S dx []) ∧
  Giv K CF CO H v 0 E fun xs qs => ∀ H' b x0 fv sv, xs[0]? = some x0 → But x H H' → H b = none → H' x = some (.ins S dx (stF b (qs.length : Int) x0 (kindS qs) (hgtV qs 1) fv sv)) → H' b = some (.lst xs) → fv = flS qs → StrV K H' sv qs → Q .non H'
section
variable {P : Program} {w : World} {K : PySem.W.Frag} {mg : Str → Option Value} {base : Heap} {f fI C S CF CO o1 o0 : Addr} {fd : FuncData}
theorem ok_stinitF (G : Fun K "__init__" "Step.__init__" C_Step_init f fd) (c : Cls K S) (nA : ∀ n ∈ stN, NoAttr K S n) (mn : mg "len" = none)
    (UN : Use P w K mg base (L2.CX P w) 5 "checked_numbers" ["numbers", "further"] (spCn K CF CO) []) (UD : Use P w K mg base CX0 2 "kind_of" ["numbers"] (spKo K) []) (UL : Use P w K mg base CX0 1 "least_place" ["numbers", "first"] (spLp K) []) :
    FnOk P w K mg base (L2.CX P w) 6 f fd ["self", "numbers"] (spSIF K S CF CO) := by
  refine G.okX scSI (fun vs H Q E h => ?_) (fun cdv A outer s H vs Q E hr h => ?_)
  · obtain ⟨x, dx, v, rfl, _⟩ := h
    rfl
  obtain ⟨x, dx, v, rfl, nv, hx, hg⟩ := h
  have hr1 := hr.mono (show 1 ≤ 5 by decide)
  have hr2 := hr.mono (show 2 ≤ 5 by decide)
  have n1 := nA "_numbers" (by simp [stN])
  have n2 := nA "order" (by simp [stN])
  have n3 := nA "lead" (by simp [stN])
  have n4 := nA "kind" (by simp [stN])
  have n5 := nA "height" (by simp [stN])
  have n6 := nA "flat" (by simp [stN])
  have n7 := nA "strength" (by simp [stN])
  refine ⟨_, pss_cons (ps_fld (pv 0) (pe_use (E := E) UN hr rfl (passes_call (takes_of rfl rfl rfl rfl) (fun _ _ _ _ h => h)) (pa_cons (pv 1) (pa_cons pe_int pa_nil))) rfl)
    (pss_cons (ps_fld (pv 0) (pe_callB call_len_seq rfl mn PySem.boot_len (pa_cons (pv 1) pa_nil)) rfl)
    (pss_cons (ps_fld (pv 0) (pe_ix ix_list (pe_fld (pv 0) rfl) pe_int (fun _ _ => rfl)) rfl)
    (pss_cons (ps_fld (pv 0) (pe_use UD hr2 rfl pass0 (pa_cons (pe_fld (pv 0) rfl) pa_nil)) rfl)
    (pss_cons (ps_fld (pv 0) (pe_use UL hr1 rfl pass0 (pa_cons (pe_fld (pv 0) rfl) (pa_cons pe_int pa_nil))) rfl)
    (pss_cons (ps_fld (pv 0) pe_non rfl)
    (pss_cons (ps_fld (pv 0) pe_non rfl)
    (C8.pss_cut (ps_if (pt_cmpR op_eq (pe_fld (pv 0) rfl) pe_str (nomark _)) (pss_cons (ps_fld (pv 0) (pe_use UL hr1 rfl pass0 (pa_cons (pe_slice sl_list (pe_fld (pv 0) rfl) (po_some pe_int) po_none) (pa_cons pe_int pa_nil))) rfl)
        (pss_one (ps_fld (pv 0) (pe_ix ix_list (pe_fld (pv 0) rfl) (pe_fld (pv 0) rfl) (fun _ _ => rfl)) rfl))) pss_nil)
    (pss_one (ps_if (pt_cmpR op_eq (pe_fld (pv 0) rfl) pe_str (nomark _)) (pss_one (ps_fld (pv 0) (pe_ix ix_list (pe_fld (pv 0) rfl) (pe_op op_sub (pe_fld (pv 0) rfl) pe_int) (fun _ _ => rfl)) rfl)) pss_nil))))))))), ?_⟩
  refine ⟨_, rfl, v, 0, rfl, ?_⟩
  refine hg.cn fun a xs qs H1 b ev ha nx g l1 l2 s1 nb hb => ?_
  subst ev
  have xb : b ≠ x := fun e => by rw [e, hx] at nb; cases nb
  have xa : a ≠ x := fun e => nv (by rw [e])
  have lq : xs.length = qs.length := nx.1
  have g1 : Stg K H H1 x S dx [] b xs qs := ⟨But.same s1, s1 _ _ hx, hb, nx.same s1, xb⟩
  have ha1 := ha.same s1
  refine ⟨_, rfl, x, S, dx, _, rfl, g1.hx, c, n1, by decide, ?_⟩
  have g2 := g1.put (putF "_numbers" (.ref b) [])
  have ha2 : SqH (upd H1 x (.ins S dx (putF "_numbers" (.ref b) []))) a xs := by
    unfold SqH
    rw [upd_ne xa]
    exact ha1
  generalize upd H1 x (.ins S dx (putF "_numbers" (.ref b) [])) = H2 at g2 ha2
  refine ⟨_, rfl, a, _, rfl, ha2.imp SqL.of SqT.of, _, rfl, x, S, dx, _, rfl, g2.hx, c, n2, (by show 1 < 1000; decide), ?_⟩
  have g3 := g2.put (putF "order" (.int ((xs.length : Nat) : Int)) (putF "_numbers" (.ref b) []))
  generalize upd H2 x (.ins S dx (putF "order" (.int ((xs.length : Nat) : Int)) (putF "_numbers" (.ref b) []))) = H3 at g3
  obtain ⟨x0, e0, m0⟩ := g3.nx.get' (i := 0) (by omega)
  refine ⟨_, rfl, x, S, dx, _, _, rfl, g3.hx, c, n1, rfl, b, xs, 0, x0, rfl, rfl, SqL.of g3.hb, at_of (j := 0) rfl e0, _, rfl, x, S, dx, _, rfl, g3.hx, c, n3, (by show 2 < 1000; decide), ?_⟩
  rw [lq] at g3 ⊢
  generalize hln : (((qs.length : Nat)) : Int) = ln at g3
  have g4 := g3.put (putF "lead" x0 (putF "order" (.int ln) (putF "_numbers" (.ref b) [])))
  generalize upd H3 x (.ins S dx (putF "lead" x0 (putF "order" (.int ln) (putF "_numbers" (.ref b) [])))) = H4 at g4
  refine ⟨_, rfl, x, S, dx, _, _, rfl, g4.hx, c, n1, rfl, .ref b, qs, rfl, ⟨b, xs, rfl, g4.hb, g4.nx⟩, by omega, by omega, fun H5 s5 => ?_⟩
  have g5 := g4.go s5
  refine ⟨_, rfl, x, S, dx, _, rfl, g5.hx, c, n4, (by show 3 < 1000; decide), ?_⟩
  generalize hkd : kindS qs = kd
  have g6 := g5.put (putF "kind" (.str kd) (putF "lead" x0 (putF "order" (.int ln) (putF "_numbers" (.ref b) []))))
  generalize upd H5 x (.ins S dx (putF "kind" (.str kd) (putF "lead" x0 (putF "order" (.int ln) (putF "_numbers" (.ref b) []))))) = H6 at g6
  refine ⟨_, rfl, x, S, dx, _, _, rfl, g6.hx, c, n1, rfl, .ref b, qs, 1, rfl, ⟨b, xs, rfl, g6.hb, g6.nx⟩, fun H7 s7 => ?_⟩
  have g7 := g6.go s7
  refine ⟨_, rfl, x, S, dx, _, rfl, g7.hx, c, n5, (by show 4 < 1000; decide), ?_⟩
  generalize hhv : hgtV qs 1 = hv
  have g8 := g7.put (putF "height" hv (putF "kind" (.str kd) (putF "lead" x0 (putF "order" (.int ln) (putF "_numbers" (.ref b) [])))))
  generalize upd H7 x (.ins S dx (putF "height" hv (putF "kind" (.str kd) (putF "lead" x0 (putF "order" (.int ln) (putF "_numbers" (.ref b) [])))))) = H8 at g8
  refine ⟨_, rfl, x, S, dx, _, rfl, g8.hx, c, n6, (by show 5 < 1000; decide), ?_⟩
  have g9 := g8.put (putF "flat" .non (putF "height" hv (putF "kind" (.str kd) (putF "lead" x0 (putF "order" (.int ln) (putF "_numbers" (.ref b) []))))))
  generalize upd H8 x (.ins S dx (putF "flat" .non (putF "height" hv (putF "kind" (.str kd) (putF "lead" x0 (putF "order" (.int ln) (putF "_numbers" (.ref b) []))))))) = H9 at g9
  refine ⟨_, rfl, x, S, dx, _, rfl, g9.hx, c, n7, (by show 6 < 1000; decide), ?_⟩
  have g10 : Stg K H (upd H9 x (.ins S dx (stF b ln x0 kd hv .non .non))) x S dx (stF b ln x0 kd hv .non .non) b xs qs := g9.put _
  refine ⟨fun σ H' => σ = [some (.ref x), some (.ref a)] ∧ ∃ fv sv, Stg K H H' x S dx (stF b ln x0 kd hv fv sv) b xs qs ∧ fv = flS qs ∧ (kindS qs = "creep" → StrV K H' sv qs) ∧ (kindS qs ≠ "creep" → sv = .non), ?_, ?_⟩
  · change Stg K H (upd H9 x (.ins S dx (putF "strength" .non (putF "flat" .non (putF "height" hv (putF "kind" (.str kd) (putF "lead" x0 (putF "order" (.int ln) (putF "_numbers" (.ref b) [])))))))))  x S dx (stF b ln x0 kd hv .non .non) b xs qs at g10
    generalize upd H9 x (.ins S dx (putF "strength" .non (putF "flat" .non (putF "height" hv (putF "kind" (.str kd) (putF "lead" x0 (putF "order" (.int ln) (putF "_numbers" (.ref b) [])))))))) = H10 at g10
    refine ⟨_, rfl, x, S, dx, _, _, rfl, g10.hx, c, n4, rfl, rfl, _, rfl, ite2 (fun e => ?_) (fun e => ⟨rfl, _, _, g10, (flS_no (by rw [hkd]; exact fun z => e (by rw [z]; exact decide_eq_true rfl))).symm, fun z => absurd (by rw [← hkd, z]; exact decide_eq_true rfl) e, fun _ => rfl⟩)⟩
    have ek : kindS qs = "creep" := by rw [hkd]; exact V.str.inj (of_decide_eq_true e)
    obtain ⟨k, hk, ek2⟩ := hgtN_ex (qs.drop 1) 0 (kind_creep ek)
    rw [List.length_drop] at hk
    refine ⟨_, rfl, x, S, dx, _, _, rfl, g10.hx, c, n1, rfl, 1, rfl, b, _, rfl, SqL.of g10.hb, fun p np => ?_⟩
    have ec : cutV xs (some 1) none = xs.drop 1 := cut_drop xs 1
    rw [ec]
    have s11 := new_same np (.lst (xs.drop 1))
    have g11 := g10.go s11
    refine ⟨.ref p, qs.drop 1, 1, rfl, ⟨p, _, rfl, upd_same, g11.nx.drop 1⟩, fun H12 s12 => ?_⟩
    have g12 := g11.go s12
    have ev : hgtV (qs.drop 1) 1 = .int (1 + (k : Nat)) := by
      unfold hgtV
      rw [ek2, Nat.zero_add]
    rw [ev]
    refine ⟨_, rfl, x, S, dx, _, rfl, g12.hx, c, n6, (by show 7 < 1000; decide), ?_⟩
    have g13 : Stg K H (upd H12 x (.ins S dx (putF "flat" (.int (1 + (k : Nat))) (stF b ln x0 kd hv .non .non)))) x S dx (stF b ln x0 kd hv (.int (1 + (k : Nat))) .non) b xs qs := g12.put _
    generalize upd H12 x (.ins S dx (putF "flat" (.int (1 + (k : Nat))) (stF b ln x0 kd hv .non .non))) = H13 at g13
    have e3 := List.getElem?_eq_getElem (l := xs) (i := 1 + k) (by omega)
    refine ⟨_, rfl, x, S, dx, _, _, rfl, g13.hx, c, n1, rfl, _, rfl, x, S, dx, _, _, rfl, g13.hx, c, n6, rfl, b, xs, _, _, rfl, rfl, SqL.of g13.hb, at_of (j := 1 + k) (by omega) e3, _, rfl, x, S, dx, _, rfl, g13.hx, c, n7, (by show 7 < 1000; decide), ?_⟩
    obtain ⟨r, hr', nr⟩ := g13.nx.get e3
    refine ⟨rfl, _, _, g13.put _, ?_, fun _ => ?_, fun z => absurd ek z⟩
    · rw [flS_yes ek, ev]
    · unfold StrV
      rw [strI_creep ek, ek2]
      exact ⟨r, by rw [Nat.zero_add]; exact hr', nr.but g13.hx but_put⟩
  · rintro σ H10 ⟨rfl, fv, sv, g10, hfv, hs1, hs2⟩
    have fin : ∀ H' fv sv, Stg K H H' x S dx (stF b ln x0 kd hv fv sv) b xs qs → fv = flS qs → StrV K H' sv qs → Q .non H' := fun H' fv sv z z1 z2 => by
      refine g H' b x0 fv sv e0 z.u nb ?_ z.hb z1 z2
      rw [hln, hkd, hhv]
      exact z.hx
    refine ⟨_, rfl, x, S, dx, _, _, rfl, g10.hx, c, n4, rfl, rfl, _, rfl, ite2 (fun e => ?_) (fun e => fin _ _ _ g10 hfv ?_)⟩
    · have ek : kindS qs = "crush" := by rw [hkd]; exact V.str.inj (of_decide_eq_true e)
      obtain ⟨k, hk, ek2⟩ := hgtN_ex qs 0 (kind_crush ek)
      have ev : hv = .int (1 + (k : Nat)) := by
        rw [← hhv]
        unfold hgtV
        rw [ek2, Nat.zero_add]
      have e3 := List.getElem?_eq_getElem (l := xs) (i := k) (by omega)
      refine ⟨_, rfl, x, S, dx, _, _, rfl, g10.hx, c, n1, rfl, _, rfl, x, S, dx, _, _, rfl, g10.hx, c, n5, rfl, 1 + (k : Nat), 1, ev, rfl, b, xs, _, _, rfl, rfl, SqL.of g10.hb, at_of (j := k) (by omega) e3, _, rfl, x, S, dx, _, rfl, g10.hx, c, n7, (by show 7 < 1000; decide), ?_⟩
      obtain ⟨r, hr', nr⟩ := g10.nx.get e3
      refine fin _ fv _ (g10.put _) hfv ?_
      unfold StrV
      rw [strI_crush ek, ek2, Nat.zero_add]
      exact ⟨r, hr', nr.but g10.hx but_put⟩
    · by_cases ek : kindS qs = "creep"
      · exact hs1 ek
      · rw [hs2 ek]
        unfold StrV
        rw [strI_no ek (by rw [hkd]; exact fun z => e (by rw [z]; exact decide_eq_true rfl))]
end
end Kx
end
section
set_option maxHeartbeats 4000000
namespace Kx
open PySem PySem.Spec PyProof.Rows L2 RZ
variable {nb : Nat}
theorem StrV.same {K : PySem.W.Frag} {H H' : Hp} {sv : V} {qs : List Rat} (h : StrV K H sv qs) (s : Same H H') : StrV K H' sv qs := by
  unfold StrV at h ⊢
  split at h
  · obtain ⟨r, h1, h2⟩ := h
    exact ⟨r, h1, h2.same s⟩
  · exact h
theorem StrV.go {K : PySem.W.Frag} {H H' : Hp} {B p : Addr} {sv : V} {qs : List Rat} (h : StrV K H sv qs) (b : Bag nb H B p) (s : Go B H H') : StrV K H' sv qs := by
  unfold StrV at h ⊢
  split at h
  · obtain ⟨r, h1, h2⟩ := h
    exact ⟨r, h1, h2.go b s⟩
  · exact h
theorem StrV.ext {K : PySem.W.Frag} {H H' : Hp} {sv : V} {qs : List Rat} (h : StrV K H sv qs) (s : LamX.ExtN H H') : StrV K H' sv qs := by
  unfold StrV at h ⊢
  split at h
  · obtain ⟨r, h1, h2⟩ := h
    exact ⟨r, h1, h2.ext s⟩
  · exact h
/-- a step, its flat and its strength, too -/
def StF (K : PySem.W.Frag) (S : Addr) (H : Hp) (v : V) (qs : List Rat) : Prop := ∃ (x dx b : Addr) (xs : List V) (x0 sv : V), v = .ref x ∧ H x = some (.ins S dx (stF b (qs.length : Int) x0 (kindS qs) (hgtV qs 1) (flS qs) sv)) ∧ H b = some (.lst xs) ∧ Nl K H xs qs ∧ xs[0]? = some x0 ∧ StrV K H sv qs ∧ 2 ≤ qs.length ∧ qs.length ≤ 24
section
variable {K : PySem.W.Frag} {S B p : Addr} {H H' : Hp} {v : V} {qs : List Rat}
theorem StF.st (h : StF K S H v qs) : StAt K S H v qs := by
  obtain ⟨x, dx, b, xs, x0, sv, e, h1, h2, h3, h4, _, h5⟩ := h
  exact ⟨x, dx, b, xs, x0, _, sv, e, h1, h2, h3, h4, h5⟩
theorem StF.same (h : StF K S H v qs) (s : Same H H') : StF K S H' v qs := by
  obtain ⟨x, dx, b, xs, x0, sv, e, h1, h2, h3, h4, h5, h6⟩ := h
  exact ⟨x, dx, b, xs, x0, sv, e, s _ _ h1, s _ _ h2, h3.same s, h4, h5.same s, h6⟩
theorem StF.go (h : StF K S H v qs) (b : Bag nb H B p) (s : Go B H H') : StF K S H' v qs := by
  obtain ⟨x, dx, c, xs, x0, sv, e, h1, h2, h3, h4, h5, h6⟩ := h
  exact ⟨x, dx, c, xs, x0, sv, e, ins_go h1 b s, s _ _ (h3.ne (by omega) h2 b) (fun ps z => by cases z) h2, h3.go b s, h4, h5.go b s, h6⟩
theorem StF.ext (h : StF K S H v qs) (s : LamX.ExtN H H') : StF K S H' v qs := by
  obtain ⟨x, dx, b, xs, x0, sv, e, h1, h2, h3, h4, h5, h6⟩ := h
  exact ⟨x, dx, b, xs, x0, sv, e, s _ _ h1 (fun ps z => by cases z), s _ _ h2 (fun ps z => by cases z), h3.ext s, h4, h5.ext s, h6⟩
end
/-- a new step comes back, its flat and its strength, too -/
def GivesF (K : PySem.W.Frag) (S : Addr) (H : Hp) (Q : VK) (rs : List Rat) : Prop := ∀ H' y, Same H H' → StF K S H' y rs → Q y H'
section
variable {P : Program} {w : World} {K : PySem.W.Frag} {mg : Str → Option Value} {base : Heap} {f C S CF CO CN CP CL CU o0 o1 : Addr} {fd : FuncData} {H : Hp} {qs : List Rat}
/-- Step(..) from a list of numbers: the step's own list is new -/
theorem step_newF {a : Addr} {xs : List V} {E : XK} {R : VK} {x dx : Addr} (ha : SqH H a xs) (hn : Nl K H xs qs) (l1 : 2 ≤ qs.length) (l2 : qs.length ≤ 24) (nx : H x = none) (ndx : H dx = none) (ne : dx ≠ x)
    (q : ∀ H', Same H H' → StF K S H' (.ref x) qs → R .non H') :
    spSIF K S CF CO [.ref x, .ref a] (upd (upd H dx (.own x)) x (.ins S dx [])) R E := by
  have hx2 : upd (upd H dx (.own x)) x (.ins S dx []) x = some (.ins S dx []) := upd_same
  have sm : Same H (upd (upd H dx (.own x)) x (.ins S dx [])) := (new_same ndx _).trans (new_same (by rw [upd_ne (Ne.symm ne)]; exact nx) _)
  refine ⟨x, dx, .ref a, rfl, fun e => ?_, hx2, .inr ⟨a, xs, rfl, ha.same sm, .inr ⟨by rw [hn.1]; omega, by rw [hn.1]; omega, .inr ⟨qs, hn.same sm, fun H' b x0 fv sv h0 u nb hx hb e1 e2 => ?_⟩⟩⟩⟩
  · rw [V.ref.inj e] at ha
    rcases ha with h | h <;> rw [nx] at h <;> cases h
  · have s' : Same H H' := fun e o he => u e o (fun z => by rw [z, nx] at he; cases he) (sm e o he)
    subst e1
    exact q H' s' ⟨x, dx, b, xs, x0, sv, rfl, hx, hb, hn.same s', h0, e2, l1, l2⟩
end
/-- what stands of the class of the steps -/
structure StepK (P : Program) (w : World) (K : PySem.W.Frag) (mg : Str → Option Value) (base : Heap) (C S CF CO : Addr) : Prop where
  c : Cls K S
  nA : ∀ n ∈ stN, NoAttr K S n
  m : mg "Step" = some (.ref S)
  ini : ∃ (fI : Addr) (fd : FuncData), Mk K S fI ∧ FnOk P w K mg base (L2.CX P w) 6 fI fd ["self", "numbers"] (spSIF K S CF CO) ∧ Binds K fd ["self", "numbers"] []
def spNuS (K : PySem.W.Frag) (S : Addr) : Sp := fun vs H Q _ => ∃ (x : V) (qs : List Rat), vs = [x] ∧ StAt K S H x qs ∧ GivesL K H Q qs
section
variable {P : Program} {w : World} {K : PySem.W.Frag} {mg : Str → Option Value} {base : Heap} {f C S CF CO CN CP CL CU o0 o1 : Addr} {fd : FuncData} {H : Hp} {qs : List Rat}
theorem StAt.num {H : Hp} {v : V} {qs : List Rat} (h : StAt K S H v qs) : ∃ (x dx b : Addr) (xs : List V) (fs : List (Str × V)), v = .ref x ∧ H x = some (.ins S dx fs) ∧ H b = some (.lst xs) ∧ Nl K H xs qs ∧ fs.lookup ("_numbers" : Str) = some (.ref b) ∧ fs.lookup ("order" : Str) = some (.int (qs.length : Int)) ∧ 2 ≤ qs.length ∧ qs.length ≤ 24 := by
  obtain ⟨x, dx, b, xs, x0, fv, sv, e, h1, h2, h3, _, h5, h6⟩ := h
  exact ⟨x, dx, b, xs, _, e, h1, h2, h3, rfl, rfl, h5, h6⟩
theorem scSNu : FnScope ["self"] ["self"] (defScope C_Step_numbers) := ⟨rfl, rfl, rfl, by decide +kernel, rfl, by decide +kernel, by decide +kernel⟩
theorem ok_snumbers (G : Fun K "numbers" "Step.numbers" C_Step_numbers f fd) (k : StepK P w K mg base C S CF CO) (ml : mg "list" = none) : FnOk P w K mg base CX0 1 f fd ["self"] (spNuS K S) := by
  refine G.ok scSNu (fun vs H Q E h => ?_) (fun cdv A outer s H vs Q E hr h => ?_)
  · obtain ⟨x, qs, rfl, _⟩ := h
    rfl
  obtain ⟨v, qs, rfl, hR, q⟩ := h
  obtain ⟨x, dx, b, xs, fs, rfl, hx, hb, nx, f1, f2, _⟩ := hR.num
  refine ⟨_, pss_one (ps_ret (pe_callTy call_list_of rfl ml (by decide +kernel) (pa_cons (pe_fld (pv 0) rfl) pa_nil))), ?_⟩
  exact ⟨_, rfl, x, S, dx, _, _, rfl, hx, k.c, k.nA _ (by simp [stN]), f1, b, xs, rfl, .inl (SqL.of hb), fun l nl => q l _ xs (new_same nl _) nl upd_same (nx.same (new_same nl _))⟩

theorem step_new {H H1 : Hp} {a : Addr} {xs : List V} {qs : List Rat} {E : XK} {Q : VK} (s : Same H H1) (ha : SqH H1 a xs) (hn : Nl K H1 xs qs) (l1 : 2 ≤ qs.length) (l2 : qs.length ≤ 24) (g : GivesF K S H Q qs) :
    ∀ x dx, H1 x = none → H1 dx = none → dx ≠ x → spSIF K S CF CO [.ref x, .ref a] (upd (upd H1 dx (.own x)) x (.ins S dx [])) (fun z H2 => z = .non ∧ Q (.ref x) H2) E := fun x dx nx ndx ne =>
  step_newF ha hn l1 l2 nx ndx ne fun H' s' r => ⟨rfl, g H' _ (s.trans s') r⟩
end
end Kx
end
section
set_option maxHeartbeats 4000000
/-! enumerate over a zip of two lists -/
namespace PySem
open Sem (wp)
open AutoSeq1 (wpAny_loadPart')
/-- a zip with its fields; f0 is what it handed out -/
abbrev ZP (h : Heap) (z TI TO : Addr) (f0 : Value) (f1 : Bool) : Prop :=
  h.get? z = some { cls := .type "zip", dict := none, data := .fields #[f0, .bool f1, .bool false, .ref TI, .ref TO], slots := #[] }
def ZPa (h : Heap) (z TI TO : Addr) : Prop := ∃ f0 f1, ZP h z TI TO f0 f1 ∧ (f0 = .none ∨ ∃ T : Addr, f0 = rawInt T)
section
variable {prog : Program} {w : World} {A : Around} {E : Value → Shared → Prop} {s : Shared}
theorem zpa_free {z TI TO : Addr} {Q : Bool → Shared → Prop} (hz : ZPa s.heap z TI TO) (h1 : ∀ f0 f1, ZP s.heap z TI TO f0 f1 → Q true s) (h2 : ∀ h', ZPa h' z TI TO → Heap.SameBut z s.heap h' → Q false { s with heap := h' }) :
    wpAny (model prog w) A (Builtin.SmallTypes.ownedTupleIsFree (.ref z)) Q E s := by
  obtain ⟨f0, f1, hz, hf⟩ := hz
  rcases hf with rfl | ⟨T, rfl⟩
  · unfold Builtin.SmallTypes.ownedTupleIsFree
    exact wpAny_bind (wpAny_field hz rfl (x := .none) rfl (wpAny_pure (h1 _ _ hz)))
  · cases hT : s.heap.get? T with
    | some oT => exact wpAny_tupleHeld_zip hz hT fun h' hz' sb => h2 h' ⟨_, _, hz', .inr ⟨T, rfl⟩⟩ sb
    | none =>
      unfold Builtin.SmallTypes.ownedTupleIsFree
      refine wpAny_bind (wpAny_field hz rfl (x := rawInt T) rfl ?_)
      show wpAny _ _ (loadIfAlive ((T : Int).toNat) >>= _) _ _ _
      rw [Int.toNat_natCast]
      refine wpAny_bind ?_
      have key : ∀ {R : Option Obj → Shared → Prop}, R none s → wpAny (model prog w) A (loadIfAlive T) R E s := fun {R} h => by
        have h' : R (s.heap.get? T) s := by rw [hT]; exact h
        exact fun _ _ _ => h'
      refine key ?_
      simp only [Option.isNone_none, if_true]
      exact wpAny_pure (h1 _ _ hz)
theorem zpa_next_item {z TI TO i1 i2 l1 l2 : Addr} {k1 k2 : Nat} {xs ys : Array Value} {x y : Value} {Q : Value → Shared → Prop} (D : ZipApart z TI TO i1 i2 l1 l2)
    (hz : ZPa s.heap z TI TO) (hTI : IsPair s.heap TI (.ref i1) (.ref i2)) (hTO : ∃ a b, IsPair s.heap TO a b)
    (h1 : s.heap.IsListIter i1 l1 k1) (h2 : s.heap.IsListIter i2 l2 k2) (hl1 : s.heap.IsList l1 xs) (hl2 : s.heap.IsList l2 ys) (hx : xs[k1]? = some x) (hy : ys[k2]? = some y)
    (hQ : ∀ h', ZPa h' z TI TO → (∃ a b, IsPair h' TO a b) → h'.IsListIter i1 l1 (k1 + 1) → h'.IsListIter i2 l2 (k2 + 1) → IsPair h' s.heap.objs.size x y → h'.objs.size = s.heap.objs.size + 1 →
      (∀ c o, c ≠ z → c ≠ TO → c ≠ i1 → c ≠ i2 → s.heap.get? c = some o → h'.get? c = some o) → Q (.ref s.heap.objs.size) { s with heap := h' }) :
    wpAny (model prog w) A (Builtin.«zip.__next__» ⟨[.ref z], []⟩) (fun fin s' => ∃ v, fin = .done (.ret v) ∧ Q v s') E s := by
  obtain ⟨a, b, hTO⟩ := hTO
  obtain ⟨f0, f1, hz', _⟩ := id hz
  show wpAny _ _ (field (.ref z) 2 >>= _) _ _ _
  refine wpAny_bind (wpAny_field hz' rfl (x := .bool false) rfl ?_)
  show wpAny _ _ (field (.ref z) 3 >>= _) _ _ _
  refine wpAny_bind (wpAny_field hz' rfl (x := .ref TI) rfl ?_)
  refine wpAny_bind (wpAny_seqItems hTI rfl ?_)
  show wpAny _ _ (Builtin.SmallTypes.ownedTupleIsFree (.ref z) >>= _) _ _ _
  refine wpAny_bind (zpa_free hz (fun f0 f1 hz => ?_) (fun h₁ hz₁ hs₁ => ?_))
  · simp only [if_true]
    refine wpAny_bind (wpAny_rule ?_)
    refine wpAny_bind (wpAny_field hz rfl (x := .ref TO) rfl ?_)
    refine wpAny_bind (wpAny_setField_rec hz (by simp) fun h₁ hz₁ hs₁ => ?_)
    replace hz₁ : ZP h₁ z TI TO .ellipsis f1 := hz₁
    refine wpAny_bind ?_
    simp only [List.zipIdx_cons, List.zipIdx_nil, List.forIn_cons, List.forIn_nil]
    refine wpAny_bind (wpAny_bind (wpAny_onRaise ?_))
    show wpAny _ _ (Builtin.SmallTypes.nextOf (.ref i1) >>= _) _ _ _
    refine wpAny_bind (wpAny_nextOf_list_item (h1.extBut hs₁.extBut D.i1z) (hl1.extBut hs₁.extBut D.l1z) hx fun h₂ h1₂ hs₂ => wpAny_pure ?_)
    have hTO₂ : IsPair h₂ TO a b := hs₂.extBut _ _ D.TOi1 (hs₁.extBut _ _ D.TOz hTO)
    refine wpAny_bind (wpAny_seqItems hTO₂ rfl ?_)
    refine wpAny_bind (wpAny_updateSeq_pair hTO₂ fun h₃ hTO₃ hs₃ => ?_)
    replace hTO₃ : IsPair h₃ TO x b := hTO₃
    refine wpAny_bind (wpAny_letGo (wpAny_pure ?_))
    refine wpAny_bind (wpAny_bind (wpAny_onRaise ?_))
    show wpAny _ _ (Builtin.SmallTypes.nextOf (.ref i2) >>= _) _ _ _
    refine wpAny_bind (wpAny_nextOf_list_item (((h2.extBut hs₁.extBut D.i2z).extBut hs₂.extBut D.i12.symm).extBut hs₃.extBut D.TOi2.symm)
      (((hl2.extBut hs₁.extBut D.l2z).extBut hs₂.extBut D.l2i1).extBut hs₃.extBut D.l2TO) hy fun h₄ h2₄ hs₄ => wpAny_pure ?_)
    have hTO₄ : IsPair h₄ TO x b := hs₄.extBut _ _ D.TOi2 hTO₃
    refine wpAny_bind (wpAny_seqItems hTO₄ rfl ?_)
    refine wpAny_bind (wpAny_updateSeq_pair hTO₄ fun h₅ hTO₅ hs₅ => ?_)
    replace hTO₅ : IsPair h₅ TO x y := hTO₅
    refine wpAny_bind (wpAny_letGo (wpAny_pure (wpAny_pure ?_)))
    refine wpAny_bind (wpAny_seqItems hTO₅ rfl ?_)
    refine wpAny_bind (wpAny_newTuple ?_)
    have hsz : h₅.objs.size = s.heap.objs.size := by rw [hs₅.1, hs₄.1, hs₃.1, hs₂.1, hs₁.1]
    have hz₅ : ZP h₅ z TI TO .ellipsis f1 := hs₅.extBut _ _ D.TOz.symm (hs₄.extBut _ _ D.i2z.symm (hs₃.extBut _ _ D.TOz.symm (hs₂.extBut _ _ D.i1z.symm hz₁)))
    have hk₅ : ∀ c o, c ≠ z → c ≠ TO → c ≠ i1 → c ≠ i2 → s.heap.get? c = some o → h₅.get? c = some o := fun c o c1 c2 c3 c4 e =>
      hs₅.extBut _ _ c2 (hs₄.extBut _ _ c4 (hs₃.extBut _ _ c2 (hs₂.extBut _ _ c3 (hs₁.extBut _ _ c1 e))))
    have h1₅ : h₅.IsListIter i1 l1 (k1 + 1) := ((h1₂.extBut hs₃.extBut D.TOi1.symm).extBut hs₄.extBut D.i12).extBut hs₅.extBut D.TOi1.symm
    have h2₅ : h₅.IsListIter i2 l2 (k2 + 1) := h2₄.extBut hs₅.extBut D.TOi2.symm
    have hzlt : z < h₅.objs.size := Heap.lt_size hz₅
    show wpAny _ _ (Builtin.SmallTypes.ownedTupleHandOut (.ref z) (.ref h₅.objs.size) >>= _) _ _ _
    refine wpAny_bind ?_
    unfold Builtin.SmallTypes.ownedTupleHandOut
    have hz₆ : ZP (h₅.push { cls := .type "tuple", data := .seq #[x, y] }) z TI TO .ellipsis f1 := Heap.get?_push_of_some _ hz₅
    refine wpAny_bind (wpAny_setField_rec hz₆ (by simp) fun h₇ hz₇ hs₇ => ?_)
    replace hz₇ : ZP h₇ z TI TO (rawInt h₅.objs.size) f1 := hz₇
    refine wpAny_setField_rec hz₇ (by simp) fun h₈ hz₈ hs₈ => ?_
    replace hz₈ : ZP h₈ z TI TO (rawInt h₅.objs.size) false := hz₈
    have up : ∀ c o, c ≠ z → h₅.get? c = some o → h₈.get? c = some o := fun c o c1 e => hs₈.extBut _ _ c1 (hs₇.extBut _ _ c1 (Heap.get?_push_of_some _ e))
    have hT₈ : IsPair h₈ h₅.objs.size x y := hs₈.extBut _ _ (Nat.ne_of_gt hzlt) (hs₇.extBut _ _ (Nat.ne_of_gt hzlt) (Heap.get?_push_size _ rfl))
    have hz8 : h₈.objs.size = h₅.objs.size + 1 := by rw [hs₈.1, hs₇.1, Heap.size_push]
    rw [hsz] at hz₈ hT₈ hz8
    refine wpAny_pure ⟨_, rfl, ?_⟩
    show Q (.ref h₅.objs.size) _
    rw [hsz]
    exact hQ h₈ ⟨_, _, hz₈, .inr ⟨_, rfl⟩⟩ ⟨_, _, up _ _ D.TOz hTO₅⟩ (h1₅.at fun o e => up _ o D.i1z e) (h2₅.at fun o e => up _ o D.i2z e) hT₈ hz8 fun c o c1 c2 c3 c4 e => up c o c1 (hk₅ c o c1 c2 c3 c4 e)
  · simp only [Bool.false_eq_true, if_false]
    refine wpAny_bind ?_
    rw [← Array.forIn_toList]
    simp only [List.forIn_cons, List.forIn_nil]
    refine wpAny_bind (wpAny_bind (wpAny_holding ?_))
    show wpAny _ _ (Builtin.SmallTypes.nextOf (.ref i1) >>= _) _ _ _
    refine wpAny_bind (wpAny_nextOf_list_item (s := { s with heap := h₁ }) (h1.extBut hs₁.extBut D.i1z) (hl1.extBut hs₁.extBut D.l1z) hx fun h₂ h1₂ hs₂ => wpAny_pure ?_)
    refine wpAny_pure ?_
    refine wpAny_bind (wpAny_bind (wpAny_holding ?_))
    show wpAny _ _ (Builtin.SmallTypes.nextOf (.ref i2) >>= _) _ _ _
    refine wpAny_bind (wpAny_nextOf_list_item (s := { s with heap := h₂ }) ((h2.extBut hs₁.extBut D.i2z).extBut hs₂.extBut D.i12.symm) ((hl2.extBut hs₁.extBut D.l2z).extBut hs₂.extBut D.l2i1) hy fun h₃ h2₃ hs₃ => wpAny_pure ?_)
    refine wpAny_pure (wpAny_pure ?_)
    show wpAny _ _ (newTuple [x, y] >>= _) _ _ _
    refine wpAny_bind (wpAny_newTuple ?_)
    have hsz : h₃.objs.size = s.heap.objs.size := by rw [hs₃.1, hs₂.1, hs₁.1]
    obtain ⟨g0, g1, hz₁', hg⟩ := hz₁
    have hz₃ : ZP h₃ z TI TO g0 g1 := hs₃.extBut _ _ D.i2z.symm (hs₂.extBut _ _ D.i1z.symm hz₁')
    have hk : ∀ c o, c ≠ z → c ≠ i1 → c ≠ i2 → s.heap.get? c = some o → h₃.get? c = some o := fun c o c1 c2 c3 e => hs₃.extBut _ _ c3 (hs₂.extBut _ _ c2 (hs₁.extBut _ _ c1 e))
    have h1₃ : h₃.IsListIter i1 l1 (k1 + 1) := h1₂.extBut hs₃.extBut D.i12
    refine wpAny_pure ⟨_, rfl, ?_⟩
    show Q (.ref h₃.objs.size) _
    have hp : IsPair (h₃.push { cls := .type "tuple", data := .seq #[x, y] }) h₃.objs.size x y := Heap.get?_push_size _ rfl
    have hz4 : (h₃.push { cls := .type "tuple", data := .seq #[x, y] }).objs.size = h₃.objs.size + 1 := Heap.size_push ..
    rw [hsz] at hp hz4 ⊢
    exact hQ _ ⟨_, _, Heap.get?_push_of_some _ hz₃, hg⟩ ⟨a, b, Heap.get?_push_of_some _ (hk _ _ D.TOz D.TOi1 D.TOi2 hTO)⟩ (h1₃.at fun o e => Heap.get?_push_of_some _ e) (h2₃.at fun o e => Heap.get?_push_of_some _ e) hp hz4 fun c o c1 _ c2 c3 e => Heap.get?_push_of_some _ (hk c o c1 c2 c3 e)
theorem zpa_next_end {z TI TO i1 i2 l1 l2 : Addr} {k1 k2 : Nat} {xs ys : Array Value} {Q : Fin → Shared → Prop} (hh : A.handled = none) (D : ZipApart z TI TO i1 i2 l1 l2)
    (hz : ZPa s.heap z TI TO) (hTI : IsPair s.heap TI (.ref i1) (.ref i2)) (hTO : ∃ a b, IsPair s.heap TO a b)
    (h1 : s.heap.IsListIter i1 l1 k1) (h2 : s.heap.IsListIter i2 l2 k2) (hl1 : s.heap.IsList l1 xs) (hl2 : s.heap.IsList l2 ys) (hend : xs[k1]? = none)
    (hE : ∀ h' e, (∀ c o, c ≠ z → c ≠ TO → c ≠ i1 → c ≠ i2 → s.heap.get? c = some o → h'.get? c = some o) → (∃ o, h'.get? e = some o ∧ o.cls = .type "StopIteration") → E (.ref e) { s with heap := h' }) :
    wpAny (model prog w) A (Builtin.«zip.__next__» ⟨[.ref z], []⟩) Q E s := by
  obtain ⟨f0, f1, hz', _⟩ := id hz
  show wpAny _ _ (field (.ref z) 2 >>= _) _ _ _
  refine wpAny_bind (wpAny_field hz' rfl (x := .bool false) rfl ?_)
  show wpAny _ _ (field (.ref z) 3 >>= _) _ _ _
  refine wpAny_bind (wpAny_field hz' rfl (x := .ref TI) rfl ?_)
  refine wpAny_bind (wpAny_seqItems hTI rfl ?_)
  show wpAny _ _ (Builtin.SmallTypes.ownedTupleIsFree (.ref z) >>= _) _ _ _
  refine wpAny_bind (zpa_free hz (fun f0 f1 hz => ?_) (fun h₁ hz₁ hs₁ => ?_))
  · simp only [if_true]
    refine wpAny_bind (wpAny_rule ?_)
    refine wpAny_bind (wpAny_field hz rfl (x := .ref TO) rfl ?_)
    refine wpAny_bind (wpAny_setField_rec hz (by simp) fun h₁ hz₁ hs₁ => ?_)
    replace hz₁ : ZP h₁ z TI TO .ellipsis f1 := hz₁
    refine wpAny_bind ?_
    simp only [List.zipIdx_cons, List.zipIdx_nil, List.forIn_cons, List.forIn_nil]
    refine wpAny_bind (wpAny_bind (wpAny_onRaise ?_))
    show wpAny _ _ (Builtin.SmallTypes.nextOf (.ref i1) >>= _) _ _ _
    refine wpAny_bind (wpAny_nextOf_list_end hh (h1.extBut hs₁.extBut D.i1z) (hl1.extBut hs₁.extBut D.l1z) hend fun h₂ e hs₂ he => ?_)
    obtain ⟨oe, hoe, hce⟩ := he
    have hz₂ : ZP h₂ z TI TO .ellipsis f1 := hs₂ _ _ D.i1z.symm hz₁
    have hez : e ≠ z := fun x => by subst x; rw [hz₂] at hoe; cases hoe; simp at hce
    refine wpAny_setField_rec hz₂ (by simp) fun h₃ _ hs₃ => hE h₃ e (fun c o c1 _ c3 _ x => hs₃.extBut _ _ c1 (hs₂ _ _ c3 (hs₁.extBut _ _ c1 x))) ⟨oe, hs₃.extBut _ _ hez hoe, hce⟩
  · simp only [Bool.false_eq_true, if_false]
    refine wpAny_bind ?_
    rw [← Array.forIn_toList]
    simp only [List.forIn_cons, List.forIn_nil]
    refine wpAny_bind (wpAny_bind (wpAny_holding ?_))
    show wpAny _ _ (Builtin.SmallTypes.nextOf (.ref i1) >>= _) _ _ _
    refine wpAny_bind (wpAny_nextOf_list_end (s := { s with heap := h₁ }) hh (h1.extBut hs₁.extBut D.i1z) (hl1.extBut hs₁.extBut D.l1z) hend fun h₂ e hs₂ he => ?_)
    exact hE h₂ e (fun c o c1 _ c2 _ x => hs₂ _ _ c2 (hs₁.extBut _ _ c1 x)) he
theorem enumz_next_item {e z TI TO i1 i2 l1 l2 : Addr} {k : Nat} {xs ys : Array Value} {x y : Value} {i : Nat} {old : Value} {Q : Value → Shared → Prop} (D : ZipApart z TI TO i1 i2 l1 l2) (he : IsEnum s.heap e z i old)
    (ez : e ≠ z) (eTO : e ≠ TO) (e1 : e ≠ i1) (e2 : e ≠ i2) (eTI : e ≠ TI)
    (hz : ZPa s.heap z TI TO) (hTI : IsPair s.heap TI (.ref i1) (.ref i2)) (hTO : ∃ a b, IsPair s.heap TO a b)
    (h1 : s.heap.IsListIter i1 l1 k) (h2 : s.heap.IsListIter i2 l2 k) (hl1 : s.heap.IsList l1 xs) (hl2 : s.heap.IsList l2 ys) (hx : xs[k]? = some x) (hy : ys[k]? = some y)
    (hQ : ∀ h' tk it, IsEnumOut h' e z ((i : Int) + 1) it (s.heap.objs.size + 1) → ZPa h' z TI TO → (∃ a b, IsPair h' TO a b) → h'.IsListIter i1 l1 (k + 1) → h'.IsListIter i2 l2 (k + 1) → IsPair h' s.heap.objs.size x y →
      h'.get? (s.heap.objs.size + 1) = some { cls := .type "tuple", data := .seq #[.int i tk, .ref s.heap.objs.size] } → h'.objs.size = s.heap.objs.size + 2 →
      (∀ c o, c ≠ e → c ≠ z → c ≠ TO → c ≠ i1 → c ≠ i2 → s.heap.get? c = some o → h'.get? c = some o) → Q (.ref (s.heap.objs.size + 1)) { s with heap := h', toks := tk + 1 }) :
    wpAny (model prog w) A (Builtin.«enumerate.__next__» ⟨[.ref e], []⟩) (fun fin s' => ∃ v, fin = .done (.ret v) ∧ Q v s') E s := by
  have hT : s.TypeIs (.ref z) "zip" := by obtain ⟨f0, f1, h, _⟩ := hz; exact ⟨_, h, rfl⟩
  show wpAny _ _ (field (.ref e) 2 >>= _) _ _ _
  refine wpAny_bind (wpAny_field he rfl (x := .ref z) rfl ?_)
  refine wpAny_bind ?_
  unfold Builtin.SmallTypes.nextOf
  refine wpAny_bind (wpAny_callSpecial?_slot (name := Str.ofString "__next__") hT F.slot_zip_next
    (wpAny_call_entry F.slot_zip_next hT F.entry_zip_next (zpa_next_item D hz hTI hTO h1 h2 hl1 hl2 hx hy fun h₁ z₁ TO₁ h1₁ h2₁ p₁ sz₁ k₁ => wpAny_pure ?_) (F.args_zip_next_1 _)))
  have el : e < s.heap.objs.size := Heap.lt_size he
  have he₁ : IsEnum h₁ e z i old := k₁ _ _ ez eTO e1 e2 he
  have fin := hQ
  obtain ⟨hp, g, d, tk, os⟩ := s
  show wpAny _ _ (field (.ref e) 3 >>= _) _ _ ⟨h₁, g, d, tk, os⟩
  refine wpAny_bind (wpAny_field he₁ rfl (x := rawInt i) rfl ?_)
  show wpAny _ _ (field (.ref e) 4 >>= _) _ _ ⟨h₁, g, d, tk, os⟩
  refine wpAny_bind (wpAny_field he₁ rfl (x := .none) rfl ?_)
  show wpAny _ _ (mkInt i >>= _) _ _ ⟨h₁, g, d, tk, os⟩
  refine wpAny_bind (wpAny_mkInt ?_)
  show wpAny _ _ (setField (.ref e) 3 (rawInt ((i : Int) + 1)) >>= _) _ _ ⟨h₁, g, d, tk + 1, os⟩
  refine wpAny_bind (wpAny_setField_rec he₁ (by simp) fun h₂ he₂ hs₂ => ?_)
  replace hs₂ : Heap.SameBut e h₁ h₂ := hs₂
  replace he₂ : IsEnum h₂ e z ((i : Int) + 1) old := he₂
  show wpAny _ _ (setField (.ref e) 4 .none >>= _) _ _ ⟨h₂, g, d, tk + 1, os⟩
  refine wpAny_bind (wpAny_setField_rec he₂ (by simp) fun h₃ he₃ hs₃ => ?_)
  replace hs₃ : Heap.SameBut e h₂ h₃ := hs₃
  replace he₃ : IsEnum h₃ e z ((i : Int) + 1) old := he₃
  show wpAny _ _ (newTuple [.int i tk, .ref hp.objs.size] >>= _) _ _ ⟨h₃, g, d, tk + 1, os⟩
  refine wpAny_bind (wpAny_newTuple ?_)
  have hsz : h₃.objs.size = hp.objs.size + 1 := by rw [hs₃.1, hs₂.1]; exact sz₁
  have he₄ : IsEnum (h₃.push { cls := .type "tuple", data := .seq #[.int i tk, .ref hp.objs.size] }) e z ((i : Int) + 1) old := Heap.get?_push_of_some _ he₃
  have ht₄ : (h₃.push { cls := .type "tuple", data := .seq #[.int i tk, .ref hp.objs.size] }).get? (hp.objs.size + 1) = some { cls := .type "tuple", data := .seq #[.int i tk, .ref hp.objs.size] } := by rw [← hsz]; exact Heap.get?_push_size _ rfl
  have hz₄ : (h₃.push { cls := .type "tuple", data := .seq #[.int i tk, .ref hp.objs.size] }).objs.size = hp.objs.size + 2 := by rw [Heap.size_push, hsz]
  have hk₄ : ∀ b o, b ≠ e → h₁.get? b = some o → (h₃.push { cls := .type "tuple", data := .seq #[.int i tk, .ref hp.objs.size] }).get? b = some o := fun b o hbe hb => Heap.get?_push_of_some _ (hs₃.extBut b o hbe (hs₂.extBut b o hbe hb))
  generalize h₃.push { cls := .type "tuple", data := .seq #[.int i tk, .ref hp.objs.size] } = h₄ at he₄ ht₄ hz₄ hk₄
  show wpAny _ _ (Builtin.SmallTypes.ownedTupleIsFree (.ref e) >>= _) _ _ ⟨h₄, g, d, tk + 1, os⟩
  rw [hsz]
  clear he₃ hs₃ he₂ hs₂ hsz
  refine wpAny_bind ?_
  unfold Builtin.SmallTypes.ownedTupleIsFree
  refine wpAny_bind (wpAny_field he₄ rfl (x := .none) rfl (wpAny_pure ?_))
  simp only [if_true]
  refine wpAny_bind (wpAny_rule ?_)
  refine wpAny_bind (wpAny_field he₄ rfl (x := old) rfl ?_)
  refine wpAny_bind (wpAny_setField_rec he₄ (by simp) fun h₅ he₅ hs₅ => ?_)
  replace hs₅ : Heap.SameBut e h₄ h₅ := hs₅
  replace he₅ : IsEnum h₅ e z ((i : Int) + 1) (.ref hp.objs.size) := he₅
  show wpAny _ _ (Builtin.SmallTypes.ownedTupleHandOut (.ref e) (.ref (hp.objs.size + 1)) >>= _) _ _ ⟨h₅, g, d, tk + 1, os⟩
  refine wpAny_bind ?_
  unfold Builtin.SmallTypes.ownedTupleHandOut
  refine wpAny_bind (wpAny_setField_rec he₅ (by simp) fun h₆ he₆ hs₆ => ?_)
  replace hs₆ : Heap.SameBut e h₅ h₆ := hs₆
  replace he₆ : IsEnumOut h₆ e z ((i : Int) + 1) (.ref hp.objs.size) (hp.objs.size + 1) := he₆
  refine wpAny_setField_rec he₆ (by simp) fun h₇ he₇ hs₇ => ?_
  replace hs₇ : Heap.SameBut e h₆ h₇ := hs₇
  replace he₇ : IsEnumOut h₇ e z ((i : Int) + 1) (.ref hp.objs.size) (hp.objs.size + 1) := he₇
  have up : ∀ b o, b ≠ e → h₄.get? b = some o → h₇.get? b = some o := fun b o n h => hs₇.extBut _ _ n (hs₆.extBut _ _ n (hs₅.extBut _ _ n h))
  have up1 : ∀ b o, b ≠ e → h₁.get? b = some o → h₇.get? b = some o := fun b o n h => up b o n (hk₄ b o n h)
  refine wpAny_bind (wpAny_letGo (wpAny_pure ⟨_, rfl, ?_⟩))
  have el : e < hp.objs.size := el
  obtain ⟨g0, g1, gz, gf⟩ := z₁
  obtain ⟨a', b', hTO₁⟩ := TO₁
  exact fin h₇ tk _ he₇ ⟨g0, g1, up1 _ _ ez.symm gz, gf⟩ ⟨a', b', up1 _ _ eTO.symm hTO₁⟩ (h1₁.at fun o q => up1 _ _ e1.symm q) (h2₁.at fun o q => up1 _ _ e2.symm q) (up1 _ _ (Nat.ne_of_gt el) p₁)
    (up _ _ (Nat.ne_of_gt (Nat.lt_succ_of_lt el)) ht₄) (by rw [hs₇.1, hs₆.1, hs₅.1]; exact hz₄) fun c o n1 n2 n3 n4 n5 q => up1 _ _ n1 (k₁ c o n2 n3 n4 n5 q)
end
end PySem
end
section
set_option maxHeartbeats 4000000
namespace PySem
open Sem (wp)
open AutoSeq1 (wpAny_loadPart')
section
variable {prog : Program} {w : World} {A : Around} {E : Value → Shared → Prop} {s : Shared}
theorem pyNext_enumz_item {e z TI TO i1 i2 l1 l2 : Addr} {k : Nat} {xs ys : Array Value} {x y : Value} {i : Nat} {old : Value} {Q : Option Value → Shared → Prop} (D : ZipApart z TI TO i1 i2 l1 l2) (he : IsEnum s.heap e z i old)
    (ez : e ≠ z) (eTO : e ≠ TO) (e1 : e ≠ i1) (e2 : e ≠ i2) (eTI : e ≠ TI)
    (hz : ZPa s.heap z TI TO) (hTI : IsPair s.heap TI (.ref i1) (.ref i2)) (hTO : ∃ a b, IsPair s.heap TO a b)
    (h1 : s.heap.IsListIter i1 l1 k) (h2 : s.heap.IsListIter i2 l2 k) (hl1 : s.heap.IsList l1 xs) (hl2 : s.heap.IsList l2 ys) (hx : xs[k]? = some x) (hy : ys[k]? = some y)
    (hQ : ∀ h' tk it, IsEnumOut h' e z ((i : Int) + 1) it (s.heap.objs.size + 1) → ZPa h' z TI TO → (∃ a b, IsPair h' TO a b) → h'.IsListIter i1 l1 (k + 1) → h'.IsListIter i2 l2 (k + 1) → IsPair h' s.heap.objs.size x y →
      h'.get? (s.heap.objs.size + 1) = some { cls := .type "tuple", data := .seq #[.int i tk, .ref s.heap.objs.size] } → h'.objs.size = s.heap.objs.size + 2 →
      (∀ c o, c ≠ e → c ≠ z → c ≠ TO → c ≠ i1 → c ≠ i2 → s.heap.get? c = some o → h'.get? c = some o) → Q (some (.ref (s.heap.objs.size + 1))) { s with heap := h', toks := tk + 1 }) :
    wpAny (model prog w) A (pyNext (.ref e)) Q E s := by
  have hT : s.TypeIs (.ref e) "enumerate" := ⟨_, he, rfl⟩
  unfold pyNext
  exact wpAny_bind (wpAny_attempt (wpAny_callSpecial?_slot (name := Str.ofString "__next__") hT F.slot_enumerate_next
    (wpAny_call_entry F.slot_enumerate_next hT F.entry_enumerate_next
      (enumz_next_item D he ez eTO e1 e2 eTI hz hTI hTO h1 h2 hl1 hl2 hx hy fun h' tk it a1 a2 a3 a4 a5 a6 a7 a8 a9 => wpAny_pure (hQ h' tk it a1 a2 a3 a4 a5 a6 a7 a8 a9)) (F.args_enumerate_next_1 _))))
theorem pyNext_enumz_end {e z TI TO i1 i2 l1 l2 : Addr} {k : Nat} {xs ys : Array Value} {i : Int} {old : Value} {Q : Option Value → Shared → Prop} (hh : A.handled = none) (D : ZipApart z TI TO i1 i2 l1 l2) (he : IsEnum s.heap e z i old)
    (hz : ZPa s.heap z TI TO) (hTI : IsPair s.heap TI (.ref i1) (.ref i2)) (hTO : ∃ a b, IsPair s.heap TO a b)
    (h1 : s.heap.IsListIter i1 l1 k) (h2 : s.heap.IsListIter i2 l2 k) (hl1 : s.heap.IsList l1 xs) (hl2 : s.heap.IsList l2 ys) (hend : xs[k]? = none)
    (hQ : ∀ h', (∀ c o, c ≠ z → c ≠ TO → c ≠ i1 → c ≠ i2 → s.heap.get? c = some o → h'.get? c = some o) → Q none { s with heap := h' }) :
    wpAny (model prog w) A (pyNext (.ref e)) Q E s := by
  have hT : s.TypeIs (.ref e) "enumerate" := ⟨_, he, rfl⟩
  have hTz : s.TypeIs (.ref z) "zip" := by obtain ⟨f0, f1, h, _⟩ := hz; exact ⟨_, h, rfl⟩
  unfold pyNext
  refine wpAny_bind (wpAny_attempt (wpAny_callSpecial?_slot (name := Str.ofString "__next__") hT F.slot_enumerate_next
    (wpAny_call_entry F.slot_enumerate_next hT F.entry_enumerate_next ?_ (F.args_enumerate_next_1 _))))
  show wpAny _ _ (field (.ref e) 2 >>= _) _ _ _
  refine wpAny_bind (wpAny_field he rfl (x := .ref z) rfl ?_)
  refine wpAny_bind ?_
  unfold Builtin.SmallTypes.nextOf
  refine wpAny_bind (wpAny_callSpecial?_slot (name := Str.ofString "__next__") hTz F.slot_zip_next
    (wpAny_call_entry F.slot_zip_next hTz F.entry_zip_next (zpa_next_end hh D hz hTI hTO h1 h2 hl1 hl2 hend fun h' x hk hx' => ?_) (F.args_zip_next_1 _)))
  obtain ⟨o, ho, hc⟩ := hx'
  refine wpAny_bind (wpAny_isInstance (T := "StopIteration") (b := true) ⟨o, ho, hc⟩ isSubtype_stop ?_)
  exact wpAny_pure (hQ _ hk)
theorem meets_enumerate_newZ (z TI TO : Addr) :
    Meets (Builtin.«enumerate.__new__» ⟨[.type "enumerate", .ref z], []⟩) (fun _ R s => IsZip s.heap z TI TO .none ∧
      R (.ok (.ret (.ref s.heap.objs.size)))
        { s with heap := s.heap.push { cls := .type "enumerate", data := .fields #[.none, .bool false, .ref z, rawInt 0, .none, .none] } }) :=
  .of_wp fun prog w A R s h => by
    obtain ⟨hp, g, d, tk, os⟩ := s; obtain ⟨hl, h⟩ := h
    have hsub := sub_enumerate
    wp_walk using wpAny_loadPart' hl
    refine wpAny_stack_any fun st => wpAny_pure ?_
    split
    · rename_i c _ _ _ _ _
      cases (c == Value.type "enumerate")
      · wp_walk using wpAny_loadPart' hl, wpAny_pyIter_zip hl
        exact ⟨_, rfl, h⟩
      · wp_walk using wpAny_loadPart' hl, wpAny_pyIter_zip hl
        exact ⟨_, rfl, h⟩
    · wp_walk using wpAny_loadPart' hl, wpAny_pyIter_zip hl
      exact ⟨_, rfl, h⟩
theorem call_enumerate_zip {z TI TO : Addr} {Q : Value → Shared → Prop} (hL : IsZip s.heap z TI TO .none)
    (h : ∀ h', IsEnum h' s.heap.objs.size z 0 .none → h'.objs.size = s.heap.objs.size + 1 →
      (∀ b o, s.heap.get? b = some o → h'.get? b = some o) → Q (.ref s.heap.objs.size) { s with heap := h' }) :
    wpAny (model prog w) A (call (.type "enumerate") [.ref z]) Q E s := by
  refine callType_new F.called_enumerate (by decide) (F.typeCall_enumerate_1 _) (F.newCall_enumerate_1 _) (fun obj => F.args_object_init_2 obj _) F.entry_enumerate_new
    (meets_enumerate_newZ z TI TO) ⟨hL, ?_⟩
  have he : IsEnum (s.heap.push { cls := .type "enumerate", data := .fields #[.none, .bool false, .ref z, rawInt 0, .none, .none] }) s.heap.objs.size z 0 .none := Heap.get?_push_size _ rfl
  exact ⟨⟨_, he, rfl⟩, h _ he (Heap.size_push ..) fun b o x => Heap.get?_push_of_some _ x⟩
end
end PySem
namespace L2
open PySem PySem.Spec PyProof.Rows RZ
theorem get?_push_back {h : Heap} {a : Addr} {o o' : Obj} (e : (h.push o).get? a = some o') (n : a ≠ h.objs.size) : h.get? a = some o' := by
  obtain ⟨e1, e2⟩ := Heap.get?_some_iff.mp e
  refine Heap.get?_some_iff.mpr ⟨?_, e2⟩
  cases h; simpa [Heap.push, Array.getElem?_push, n] using e1
/-- the lists at a and b as they stand at each turn, the items in a new pair, and this with the index in another one -/
def Iez (K : PySem.W.Frag) (a b : Addr) : It :=
  ⟨fun i H => ∃ (xs ys : List V) (x y : V), SqL K H a xs ∧ SqL K H b ys ∧ xs[i]? = some x ∧ ys[i]? = some y,
    fun i H v H' => ∃ T U x y, v = .ref U ∧ H T = none ∧ U ≠ T ∧ H U = none ∧ H' = upd (upd H T (.tup [x, y])) U (.tup [.int (i : Nat), .ref T]) ∧ (∀ xs, SqL K H a xs → xs[i]? = some x) ∧ ∀ ys, SqL K H b ys → ys[i]? = some y,
    fun i H => ∃ xs : List V, SqL K H a xs ∧ (∃ ys, SqL K H b ys) ∧ xs.length ≤ i⟩
theorem turn_enumz {P : Program} {w : World} {K : PySem.W.Frag} {elts : List Expr} {kk : Nat} {tpos : Pos} {a b e z TI TO i1 i2 : Addr} (D : ZipApart z TI TO i1 i2 a b) (ez : e ≠ z) (eTO : e ≠ TO) (e1 : e ≠ i1) (e2 : e ≠ i2) (eTI : e ≠ TI) :
    Turn P w K (.Tuple elts kk tpos) (Iez K a b) [e, z, TI, TO, i1, i2] e (fun i h => (∃ old, IsEnum h e z ((i : Nat) : Int) old) ∧ ZPa h z TI TO ∧ IsPair h TI (.ref i1) (.ref i2) ∧ (∃ x y, IsPair h TO x y) ∧ h.IsListIter i1 a i ∧ h.IsListIter i2 b i) where
  mem := by simp
  obj := fun i h st c hc => by
    obtain ⟨⟨old, he⟩, ⟨f0, f1, hz, _⟩, hTI, ⟨x, y, hTO⟩, ⟨o1, q1, _, d1⟩, ⟨o2, q2, _, d2⟩⟩ := st
    have e' : c = e ∨ c = z ∨ c = TI ∨ c = TO ∨ c = i1 ∨ c = i2 := by simpa using hc
    rcases e' with q | q | q | q | q | q
    · rw [q]; exact ⟨_, he, fun v q => nomatch q⟩
    · rw [q]; exact ⟨_, hz, fun v q => nomatch q⟩
    · rw [q]; exact ⟨_, hTI, fun v q => nomatch q⟩
    · rw [q]; exact ⟨_, hTO, fun v q => nomatch q⟩
    · rw [q]; exact ⟨o1, q1, fun v q => by rw [d1] at q; cases q⟩
    · rw [q]; exact ⟨o2, q2, fun v q => by rw [d2] at q; cases q⟩
  keep := fun i h h' st k => by
    obtain ⟨⟨old, he⟩, ⟨f0, f1, hz, hf⟩, hTI, ⟨x, y, hTO⟩, h1, h2⟩ := st
    exact ⟨⟨old, k e (by simp) _ he⟩, ⟨f0, f1, k z (by simp) _ hz, hf⟩, k TI (by simp) _ hTI, ⟨x, y, k TO (by simp) _ hTO⟩, h1.at fun o q => k i1 (by simp) o q, h2.at fun o q => k i2 (by simp) o q⟩
  item := by
    intro X hP hw hK hc i pins s σ H E I hf st hg
    subst hP hw hK
    obtain ⟨⟨old, he⟩, hz, hTI, hTO, h1, h2⟩ := st
    obtain ⟨xs, ys, x, y, hqx, hqy, hx, hy⟩ := hg
    obtain ⟨its, rv, p, _⟩ := I.list hqx
    obtain ⟨its2, rv2, p2, _⟩ := I.list hqy
    obtain ⟨u, hu, ru⟩ := rv.get hx
    obtain ⟨u2, hu2, ru2⟩ := rv2.get hy
    have hel : e < s.heap.objs.size := Heap.lt_size he
    refine pyNext_enumz_item D he ez eTO e1 e2 eTI hz hTI hTO h1 h2 p.isList p2.isList (x := u) (y := u2) (by simpa using hu) (by simpa using hu2) fun h' tk it ho hz' TO' h1' h2' hT hU hsz hk => ?_
    refine ⟨_, rfl, wpAny_letOwnedTupleGo_enum (s := { s with heap := h', toks := tk + 1 }) ho fun h'' he' sb => ?_⟩
    have hT2 : h''.get? s.heap.objs.size = some { cls := .type "tuple", data := .seq #[u, u2] } := (sb.2 _ (Nat.ne_of_gt hel)).trans hT
    have hU2 : h''.get? (s.heap.objs.size + 1) = some { cls := .type "tuple", data := .seq #[.int i tk, .ref s.heap.objs.size] } := (sb.2 _ (Nat.ne_of_gt (Nat.lt_succ_of_lt hel))).trans hU
    have newT : ObjOk X.prog X.w (upd H s.heap.objs.size (.tup [x, y])) h'' s.heap.objs.size (.tup [x, y]) :=
      ⟨by show 2 ≤ sizeLine; decide, [u, u2], .cons ru (.cons ru2 .nil), ⟨_, hT2, rfl, _, rfl⟩⟩
    have kk : ∀ c o, c ∉ [e, z, TI, TO, i1, i2] → s.heap.get? c = some o → h''.get? c = some o := fun c o hb q =>
      (sb.2 c (fun q' => hb (by simp [q']))).trans (hk c o (fun q' => hb (by simp [q'])) (fun q' => hb (by simp [q'])) (fun q' => hb (by simp [q'])) (fun q' => hb (by simp [q'])) (fun q' => hb (by simp [q'])) q)
    have lt : ∀ c ∈ [e, z, TI, TO, i1, i2], c < s.heap.objs.size := fun c hcm => by
      have e' : c = e ∨ c = z ∨ c = TI ∨ c = TO ∨ c = i1 ∨ c = i2 := by simpa using hcm
      rcases e' with q | q | q | q | q | q
      · rw [q]; exact hel
      · rw [q]; obtain ⟨_, _, q, _⟩ := hz; exact Heap.lt_size q
      · rw [q]; exact Heap.lt_size hTI
      · rw [q]; obtain ⟨_, _, q⟩ := hTO; exact Heap.lt_size q
      · rw [q]; obtain ⟨_, q, _⟩ := h1; exact Heap.lt_size q
      · rw [q]; obtain ⟨_, q, _⟩ := h2; exact Heap.lt_size q
    let hp : Heap := s.heap.push { cls := .type "tuple", data := .seq #[u, u2] }
    have hpT : hp.get? s.heap.objs.size = some { cls := .type "tuple", data := .seq #[u, u2] } := Heap.get?_push_size _ rfl
    have hpz : hp.objs.size = s.heap.objs.size + 1 := Heap.size_push ..
    have newT' : ObjOk X.prog X.w (upd H s.heap.objs.size (.tup [x, y])) hp s.heap.objs.size (.tup [x, y]) :=
      ⟨by show 2 ≤ sizeLine; decide, [u, u2], .cons ru (.cons ru2 .nil), ⟨_, hpT, rfl, _, rfl⟩⟩
    have I1 : Inv X pins σ (upd H s.heap.objs.size (.tup [x, y])) { s with heap := hp, toks := s.toks } :=
      I.turnedNew (t' := s.toks) (ch := []) (fun c o _ q => Heap.get?_push_of_some _ q) (fun b hb => by simp at hb) (Nat.le_refl _) newT'
    have hf1 : ∀ b ∈ [e, z, TI, TO, i1, i2], FpOk X pins (upd H s.heap.objs.size (.tup [x, y])) b := fun b hb => by
      obtain ⟨q1, q2⟩ := hf b hb
      exact ⟨by rw [upd_ne (Nat.ne_of_lt (lt b hb))]; exact q1, q2⟩
    have kk1 : ∀ c o, c ∉ [e, z, TI, TO, i1, i2] → hp.get? c = some o → h''.get? c = some o := fun c o hb q => by
      rcases Nat.lt_or_ge c s.heap.objs.size with lc | lc
      · refine kk c o hb ?_
        exact get?_push_back q (Nat.ne_of_lt lc)
      · have : c < hp.objs.size := Heap.lt_size q
        obtain rfl : c = s.heap.objs.size := Nat.le_antisymm (Nat.le_of_lt_succ (by rw [hpz] at this; exact this)) lc
        rw [hpT] at q
        rw [hT2]
        exact q
    have I2 : Inv X pins σ (upd (upd H s.heap.objs.size (.tup [x, y])) (s.heap.objs.size + 1) (.tup [.int (i : Nat), .ref s.heap.objs.size])) { s with heap := h'', toks := tk + 1 } :=
      I1.turnedNew (t' := tk + 1) (ch := [e, z, TI, TO, i1, i2]) kk1 hf1 (by show hp.objs.size ≤ _; omega)
        ⟨by show 2 ≤ sizeLine; decide, [.int i tk, .ref s.heap.objs.size], .cons ⟨_, rfl⟩ (.cons rfl .nil), ⟨_, hU2, rfl, _, rfl⟩⟩
    refine ⟨.ref (s.heap.objs.size + 1), _, I2, rfl, ⟨_, _, x, y, rfl, I.hok.fresh (Nat.le_refl _), Nat.succ_ne_self _, I.hok.fresh (Nat.le_succ _), rfl, fun l hl => by rw [I.list_inj hl hqx]; exact hx, fun l hl => by rw [I.list_inj hl hqy]; exact hy⟩, ⟨⟨it, ?_⟩, ?_, ?_, ?_, ?_, ?_⟩, fun c hcm => ?_⟩
    · have e1' : ((i + 1 : Nat) : Int) = (i : Int) + 1 := by omega
      rw [e1']; exact he'
    · obtain ⟨f0, f1, q, qf⟩ := hz'
      exact ⟨f0, f1, (sb.2 _ ez.symm).trans q, qf⟩
    · exact (sb.2 _ eTI.symm).trans (hk _ _ eTI.symm D.TIz D.TITO D.TIi1 D.TIi2 hTI)
    · obtain ⟨a', b', q⟩ := TO'
      exact ⟨a', b', (sb.2 _ eTO.symm).trans q⟩
    · exact h1'.at fun o q => (sb.2 _ e1.symm).trans q
    · exact h2'.at fun o q => (sb.2 _ e2.symm).trans q
    · have := lt c hcm
      rw [upd_ne (Nat.ne_of_lt (Nat.lt_succ_of_lt this)), upd_ne (Nat.ne_of_lt this)]
      exact (hf c hcm).1
  done := by
    intro X hP hw hK hc i pins s σ H E I hf st hg
    subst hP hw hK
    obtain ⟨⟨old, he⟩, hz, hTI, hTO, h1, h2⟩ := st
    obtain ⟨xs, hqx, ⟨ys, hqy⟩, hend⟩ := hg
    obtain ⟨its, rv, p, _⟩ := I.list hqx
    obtain ⟨its2, rv2, p2, _⟩ := I.list hqy
    have l1 := rv.length
    have he' : its.toArray[i]? = none := by simp; omega
    exact pyNext_enumz_end (I.ok.hd hc) D he hz hTI hTO h1 h2 p.isList p2.isList he' fun h' hk => ⟨rfl, I.turnedL (t' := s.toks) (ch := [e, z, TI, TO, i1, i2]) (fun c o hb q =>
      hk c o (fun q' => hb (by simp [q'])) (fun q' => hb (by simp [q'])) (fun q' => hb (by simp [q'])) (fun q' => hb (by simp [q'])) q) hf⟩
  self := fun A i s Q E st h => let ⟨⟨_, he⟩, _⟩ := st; wpAny_pyIter_enum he h
/-- enumerate(zip(x, y)) of two lists -/
def iEnZ (K : PySem.W.Frag) (ta : TA) : TI := fun σ H R => ta σ H fun vs H1 => ∃ a b xs ys, vs = [.ref a, .ref b] ∧ SqL K H1 a xs ∧ SqL K H1 b ys ∧ R (Iez K a b) H1
theorem pi_enumzip {X : Cx} {e e2 : Expr} {ta : TA} {p pos p2 pos2 tpos : Pos} {elts : List Expr} {kk : Nat} (hg : Gl X "enumerate") (hm : X.mg "enumerate" = none) (hg2 : Gl X "zip") (hm2 : X.mg "zip" = none) (ha : PA X [e, e2] ta)
    (hs : starEach [e, e2] X.env = (false, eval e X.env) :: starEach [e2] X.env := by rfl) (hpl : (backTo pos2 (starEach [e2] X.env)).any (·.1) = false := by rfl) (hz : starEach [.Call (.Name "zip" p2) [e, e2] [] pos2] X.env = [(false, eval (.Call (.Name "zip" p2) [e, e2] [] pos2) X.env)] := by rfl) :
    PI X (.Tuple elts kk tpos) (.Call (.Name "enumerate" p) [.Call (.Name "zip" p2) [e, e2] [] pos2] [] pos) (iEnZ X.K ta) := by
  refine ⟨fun pins s σ H R I h => ?_⟩
  refine Call_ (ld_blt I hg hm boot_enumerate (PyProof.Rows.callWith_type1 ?_ hz rfl))
  rw [hz]
  show wpAny _ _ (spliced [(false, eval (.Call (.Name "zip" p2) [e, e2] [] pos2) X.env)]) _ _ _
  refine Calls.spliced_cons ?_
  refine Call_ (ld_blt I hg2 hm2 PyProof.Rows.boot_zip (PyProof.Rows.callWith_type1 (thn (ha.run pos2 pins s σ H _ I h) fun us s1 ⟨vs, H1, I1, r1, q1⟩ => ?_) hs hpl))
  obtain ⟨a, b, xs, ys, ex, hqx, hqy, q⟩ := q1
  subst ex
  cases r1 with
  | cons r rr =>
    cases rr with
    | cons r' rr =>
      cases rr
      cases r
      cases r'
      obtain ⟨its, rv, p1, _⟩ := I1.list hqx
      obtain ⟨its2, rv2, p2', _⟩ := I1.list hqy
      have la : a < s1.heap.objs.size := p1.lt
      have lb : b < s1.heap.objs.size := p2'.lt
      refine call_zip_2 p1.isList p2'.isList fun h' hzz hTI hTO h1 h2 hsz hk => ?_
      refine Calls.spliced_nil ?_
      refine call_enumerate_zip (s := { s1 with heap := h' }) hzz fun h'' he hsz' hk' => wpAny_pyIter_enum he ?_
      have hk2 : ∀ c o, s1.heap.get? c = some o → h''.get? c = some o := fun c o q => hk' c o (hk c o q)
      have I2 : Inv X pins σ H1 { s1 with heap := h'' } := I1.kept (t' := s1.toks) hk2
      have he : IsEnum h'' (s1.heap.objs.size + 5) (s1.heap.objs.size + 4) 0 .none := by rw [← hsz]; exact he
      have nn : ∀ i j : Nat, i ≠ j → s1.heap.objs.size + i ≠ s1.heap.objs.size + j := fun i j h e => h (Nat.add_left_cancel e)
      show PIE X pins σ _ R (.ref h'.objs.size) _
      rw [hsz]
      refine ⟨s1.heap.objs.size + 5, [s1.heap.objs.size + 5, s1.heap.objs.size + 4, s1.heap.objs.size + 2, s1.heap.objs.size + 3, s1.heap.objs.size, s1.heap.objs.size + 1], _, _, H1, rfl, I2,
        turn_enumz (PySem.W.ktu_apart s1.heap.objs.size a b la lb) (nn 5 4 (by decide)) (nn 5 3 (by decide)) (nn 5 0 (by decide)) (nn 5 1 (by decide)) (nn 5 2 (by decide)),
        ⟨⟨.none, he⟩, ⟨.none, false, hk' _ _ hzz, .inl rfl⟩, hk' _ _ hTI, ⟨_, _, hk' _ _ hTO⟩, h1.at fun o q => hk' _ _ q, h2.at fun o q => hk' _ _ q⟩, fun c hcm => ?_, q⟩
      have e' : c = s1.heap.objs.size + 5 ∨ c = s1.heap.objs.size + 4 ∨ c = s1.heap.objs.size + 2 ∨ c = s1.heap.objs.size + 3 ∨ c = s1.heap.objs.size ∨ c = s1.heap.objs.size + 1 := by simpa using hcm
      have hle : s1.heap.objs.size ≤ c := by
        rcases e' with z | z | z | z | z | z
        · rw [z]; exact Nat.le_add_right _ _
        · rw [z]; exact Nat.le_add_right _ _
        · rw [z]; exact Nat.le_add_right _ _
        · rw [z]; exact Nat.le_add_right _ _
        · rw [z]; exact Nat.le_refl _
        · rw [z]; exact Nat.le_add_right _ _
      exact I1.fpOk hle (I1.hok.fresh hle)
def YEz (xs ys : List V) : Nat → Hp → V → Hp → Prop := fun i H v H' => ∃ T U x y, v = .ref U ∧ H T = none ∧ U ≠ T ∧ H U = none ∧ H' = upd (upd H T (.tup [x, y])) U (.tup [.int (i : Nat), .ref T]) ∧ xs[i]? = some x ∧ ys[i]? = some y
theorem walk_enumzip {K : PySem.W.Frag} {a b : Addr} {xs ys : List V} (hl : xs.length = ys.length) : Walk (Iez K a b) xs.length (fun H => SqL K H a xs ∧ SqL K H b ys) (YEz xs ys) := by
  refine ⟨fun i _ hi q => ⟨xs, ys, xs[i], ys[i]'(by omega), q.1, q.2, by simp [hi], by simp [show i < ys.length by omega]⟩, fun _ q => ⟨xs, q.1, ⟨ys, q.2⟩, Nat.le_refl _⟩, fun i H v H' _ q y => ?_⟩
  obtain ⟨T, U, x, y, h1, h2, h3, h4, h5, h6, h7⟩ := y
  exact ⟨T, U, x, y, h1, h2, h3, h4, h5, h6 xs q.1, h7 ys q.2⟩
end L2
end
section
set_option maxHeartbeats 4000000
namespace Kx
/-! ### sums and series -/
abbrev Ser := Nat → Rat
def sumN (f : Nat → Rat) : Nat → Rat
  | 0 => 0
  | n + 1 => sumN f n + f n
theorem sum_congr {f g : Nat → Rat} : ∀ {n : Nat}, (∀ i, i < n → f i = g i) → sumN f n = sumN g n
  | 0, _ => rfl
  | n + 1, h => by
    show _ + _ = _ + _
    rw [sum_congr (n := n) fun i hi => h i (Nat.lt_succ_of_lt hi), h n (Nat.lt_succ_self n)]
theorem sum_zero {f : Nat → Rat} : ∀ {n : Nat}, (∀ i, i < n → f i = 0) → sumN f n = 0
  | 0, _ => rfl
  | n + 1, h => by
    show _ + _ = _
    rw [sum_zero (n := n) fun i hi => h i (Nat.lt_succ_of_lt hi), h n (Nat.lt_succ_self n), Rat.add_zero]
theorem sum_add (f g : Nat → Rat) : ∀ n, sumN (fun i => f i + g i) n = sumN f n + sumN g n
  | 0 => (Rat.add_zero 0).symm
  | n + 1 => by
    show sumN _ n + _ = (sumN f n + f n) + (sumN g n + g n)
    rw [sum_add f g n]
    grind
theorem sum_mul (c : Rat) (f : Nat → Rat) : ∀ n, sumN (fun i => c * f i) n = c * sumN f n
  | 0 => (Rat.mul_zero c).symm
  | n + 1 => by
    show sumN _ n + _ = c * (sumN f n + f n)
    rw [sum_mul c f n]
    grind
theorem sum_mulR (c : Rat) (f : Nat → Rat) (n : Nat) : sumN (fun i => f i * c) n = sumN f n * c := by
  rw [Rat.mul_comm, ← sum_mul]
  exact sum_congr fun i _ => Rat.mul_comm _ _
theorem sum_swap (F : Nat → Nat → Rat) (m : Nat) : ∀ n, sumN (fun i => sumN (F i) m) n = sumN (fun j => sumN (fun i => F i j) n) m
  | 0 => (sum_zero fun i _ => rfl).symm
  | n + 1 => by
    show sumN _ n + _ = sumN (fun j => sumN (fun i => F i j) n + F n j) m
    rw [sum_swap F m n, sum_add]
theorem sum_first (f : Nat → Rat) : ∀ n, sumN f (n + 1) = f 0 + sumN (fun i => f (i + 1)) n
  | 0 => by
    show (0 : Rat) + f 0 = f 0 + 0
    rw [Rat.zero_add, Rat.add_zero]
  | n + 1 => by
    show sumN f (n + 1) + f (n + 1) = f 0 + (sumN (fun i => f (i + 1)) n + f (n + 1))
    rw [sum_first f n, Rat.add_assoc]
theorem sum_refl (f : Nat → Rat) (n : Nat) : sumN (fun i => f (n - i)) (n + 1) = sumN f (n + 1) := by
  induction n generalizing f with
  | zero => rfl
  | succ n ih =>
    rw [sum_first]
    show f (n + 1) + _ = sumN f (n + 1) + f (n + 1)
    rw [← ih f, Rat.add_comm]
    congr 1
    exact sum_congr fun i _ => by rw [Nat.add_sub_add_right]
theorem sum_tri (G : Nat → Nat → Rat) : ∀ n, sumN (fun i => sumN (fun j => G j (i - j)) (i + 1)) n = sumN (fun j => sumN (G j) (n - j)) n
  | 0 => rfl
  | n + 1 => by
    have e : sumN (fun j => sumN (G j) (n + 1 - j)) (n + 1) = sumN (fun j => sumN (G j) (n - j) + G j (n - j)) (n + 1) := sum_congr fun j hj => by
      rw [show n + 1 - j = (n - j) + 1 by omega]
      rfl
    rw [e, sum_add]
    show sumN _ n + _ = (sumN (fun j => sumN (G j) (n - j)) n + sumN (G n) (n - n)) + _
    rw [sum_tri G n, Nat.sub_self]
    show _ = (_ + (0 : Rat)) + _
    rw [Rat.add_zero]
theorem sum_more {f : Nat → Rat} {n m : Nat} (l : n ≤ m) (h : ∀ i, n ≤ i → f i = 0) : sumN f m = sumN f n := by
  induction l with
  | refl => rfl
  | step l ih =>
    show sumN f _ + f _ = _
    rw [ih, h _ l, Rat.add_zero]
/-- the product of two series -/
def mulS (f g : Ser) : Ser := fun n => sumN (fun i => f i * g (n - i)) (n + 1)
def addS (f g : Ser) : Ser := fun n => f n + g n
def oneS : Ser := fun n => if n = 0 then 1 else 0
theorem mulS_comm (f g : Ser) : mulS f g = mulS g f := by
  funext n
  show _ = sumN (fun i => g i * f (n - i)) (n + 1)
  rw [← sum_refl]
  exact sum_congr fun i hi => by rw [Rat.mul_comm, show n - (n - i) = i by omega]
theorem mulS_assoc (f g h : Ser) : mulS (mulS f g) h = mulS f (mulS g h) := by
  funext n
  have e1 : mulS (mulS f g) h n = sumN (fun i => sumN (fun j => f j * g (i - j) * h (n - j - (i - j))) (i + 1)) (n + 1) := sum_congr fun i hi => by
    show sumN _ (i + 1) * _ = _
    rw [← sum_mulR]
    exact sum_congr fun j hj => by rw [show n - j - (i - j) = n - i by omega]
  rw [e1, sum_tri (fun j k => f j * g k * h (n - j - k))]
  exact sum_congr fun j hj => by
    show _ = f j * sumN _ (n - j + 1)
    rw [← sum_mul, show n + 1 - j = n - j + 1 by omega]
    exact sum_congr fun k _ => Rat.mul_assoc _ _ _
theorem oneS_mul (f : Ser) : mulS oneS f = f := by
  funext n
  show sumN _ (n + 1) = _
  rw [sum_first]
  show oneS 0 * f (n - 0) + _ = _
  rw [sum_zero fun i _ => by show (0 : Rat) * _ = 0; exact Rat.zero_mul _]
  show 1 * f n + 0 = f n
  rw [Rat.one_mul, Rat.add_zero]
theorem mulS_one (f : Ser) : mulS f oneS = f := by rw [mulS_comm, oneS_mul]
theorem mulS_add (f g h : Ser) : mulS (addS f g) h = addS (mulS f h) (mulS g h) := by
  funext n
  show sumN _ _ = sumN _ _ + sumN _ _
  rw [← sum_add]
  exact sum_congr fun i _ => Rat.add_mul _ _ _
def powS (f : Ser) : Nat → Ser
  | 0 => oneS
  | k + 1 => mulS (powS f k) f
theorem powS_one (f : Ser) : powS f 1 = f := oneS_mul f
theorem powS_add (f : Ser) (a : Nat) : ∀ b, powS f (a + b) = mulS (powS f a) (powS f b)
  | 0 => (mulS_one _).symm
  | b + 1 => by
    show mulS (powS f (a + b)) f = mulS (powS f a) (mulS (powS f b) f)
    rw [powS_add f a b, mulS_assoc]
theorem powS_low {f : Ser} (f0 : f 0 = 0) : ∀ (k n : Nat), n < k → powS f k n = 0
  | k + 1, n, h => sum_zero fun i hi => by
    rcases Nat.lt_or_ge i k with c | c
    · rw [powS_low f0 k i c, Rat.zero_mul]
    · rw [show n - i = 0 by omega, f0, Rat.mul_zero]
/-- a series with a series put in -/
def cmpS (u f : Ser) : Ser := fun n => sumN (fun j => u j * powS f j n) (n + 1)
theorem cmpS_to {u f : Ser} (f0 : f 0 = 0) {n N : Nat} (h : n < N) : sumN (fun j => u j * powS f j n) N = cmpS u f n :=
  sum_more h fun i hi => by rw [powS_low f0 i n hi, Rat.mul_zero]
theorem cmpS_add (u w f : Ser) : cmpS (addS u w) f = addS (cmpS u f) (cmpS w f) := by
  funext n
  show sumN _ _ = sumN _ _ + sumN _ _
  rw [← sum_add]
  exact sum_congr fun i _ => Rat.add_mul _ _ _
theorem cmpS_one (f : Ser) : cmpS oneS f = oneS := by
  funext n
  show sumN _ (n + 1) = _
  rw [sum_first, sum_zero fun i _ => by show (0 : Rat) * _ = 0; exact Rat.zero_mul _]
  show 1 * oneS n + 0 = _
  rw [Rat.one_mul, Rat.add_zero]
theorem cmpS_mul {u w f : Ser} (f0 : f 0 = 0) : cmpS (mulS u w) f = mulS (cmpS u f) (cmpS w f) := by
  funext n
  have e1 : cmpS (mulS u w) f n = sumN (fun j => sumN (fun a => u a * w (j - a) * powS f (a + (j - a)) n) (j + 1)) (n + 1) := sum_congr fun j hj => by
    show sumN _ (j + 1) * _ = _
    rw [← sum_mulR]
    exact sum_congr fun a ha => by rw [show a + (j - a) = j by omega]
  rw [e1, sum_tri (fun a b => u a * w b * powS f (a + b) n)]
  have e2 : mulS (cmpS u f) (cmpS w f) n = sumN (fun i => sumN (fun a => sumN (fun b => u a * w b * (powS f a i * powS f b (n - i))) (n + 1)) (n + 1)) (n + 1) := sum_congr fun i hi => by
    show cmpS u f i * cmpS w f (n - i) = _
    rw [← cmpS_to f0 (u := u) (n := i) (N := n + 1) (by omega), ← cmpS_to f0 (u := w) (n := n - i) (N := n + 1) (by omega), ← sum_mulR]
    refine sum_congr fun a _ => ?_
    rw [← sum_mul]
    exact sum_congr fun b _ => by grind
  have e3 : mulS (cmpS u f) (cmpS w f) n = sumN (fun a => sumN (fun b => u a * w b * powS f (a + b) n) (n + 1)) (n + 1) := by
    rw [e2, sum_swap]
    refine sum_congr fun a _ => ?_
    rw [sum_swap]
    refine sum_congr fun b _ => ?_
    rw [sum_mul, powS_add]
    rfl
  rw [e3]
  refine sum_congr fun a ha => (sum_more (by omega) fun b hb => ?_).symm
  rw [powS_low f0 _ _ (by omega), Rat.mul_zero]
theorem cmpS_zero {u f : Ser} : cmpS u f 0 = u 0 := by
  show (0 : Rat) + u 0 * oneS 0 = _
  show (0 : Rat) + u 0 * 1 = _
  rw [Rat.zero_add, Rat.mul_one]
theorem cmpS_pow {f g : Ser} (g0 : g 0 = 0) : ∀ k, cmpS (powS f k) g = powS (cmpS f g) k
  | 0 => cmpS_one g
  | k + 1 => by
    show cmpS (mulS _ _) g = mulS _ _
    rw [cmpS_mul g0, cmpS_pow g0 k]
theorem cmpS_assoc {u f g : Ser} (f0 : f 0 = 0) (g0 : g 0 = 0) : cmpS (cmpS u f) g = cmpS u (cmpS f g) := by
  funext n
  have e1 : cmpS (cmpS u f) g n = sumN (fun j => sumN (fun a => u a * (powS f a j * powS g j n)) (n + 1)) (n + 1) := sum_congr fun j hj => by
    show cmpS u f j * _ = _
    rw [← cmpS_to f0 (u := u) (n := j) (N := n + 1) hj, ← sum_mulR]
    exact sum_congr fun a _ => Rat.mul_assoc _ _ _
  rw [e1, sum_swap]
  refine sum_congr fun a _ => ?_
  rw [sum_mul, ← cmpS_pow g0]
  rfl
def xS : Ser := fun n => if n = 1 then 1 else 0
theorem cmpS_xl (f : Ser) : ∀ n, 0 < n → cmpS xS f n = f n := fun n h => by
  obtain ⟨m, rfl⟩ : ∃ m, n = m + 1 := ⟨n - 1, by omega⟩
  show sumN _ (m + 1 + 1) = _
  rw [sum_first, sum_first, sum_zero fun i _ => by show (0 : Rat) * _ = 0; exact Rat.zero_mul _]
  show (0 : Rat) * _ + (1 * powS f 1 (m + 1) + 0) = _
  rw [powS_one]
  grind
theorem mulS_x (f : Ser) : ∀ n, mulS f xS (n + 1) = f n := fun n => by
  rw [mulS_comm]
  show sumN _ (n + 1 + 1) = _
  rw [sum_first, sum_first, sum_zero fun i _ => by show (0 : Rat) * _ = 0; exact Rat.zero_mul _]
  show (0 : Rat) * _ + (1 * f n + 0) = _
  grind
theorem powS_x : ∀ k n, powS xS k n = if n = k then 1 else 0
  | 0, n => rfl
  | k + 1, 0 => powS_low rfl (k + 1) 0 (Nat.succ_pos k)
  | k + 1, n + 1 => by
    show mulS (powS xS k) xS (n + 1) = _
    rw [mulS_x, powS_x k n]
    by_cases c : n = k
    · rw [if_pos c, if_pos (by omega)]
    · rw [if_neg c, if_neg (by omega)]
theorem cmpS_xr (u : Ser) : cmpS u xS = u := by
  funext n
  show sumN _ n + u n * powS xS n n = _
  rw [powS_x, if_pos rfl, sum_zero fun i hi => by rw [powS_x, if_neg (by omega), Rat.mul_zero], Rat.zero_add, Rat.mul_one]
/-! only the beginning counts -/
def EqTo (n : Nat) (f g : Ser) : Prop := ∀ i, i < n → f i = g i
theorem EqTo.symm {n : Nat} {f g : Ser} (h : EqTo n f g) : EqTo n g f := fun i hi => (h i hi).symm
theorem EqTo.trans {n : Nat} {f g k : Ser} (h : EqTo n f g) (h' : EqTo n g k) : EqTo n f k := fun i hi => (h i hi).trans (h' i hi)
theorem EqTo.le {n m : Nat} {f g : Ser} (h : EqTo n f g) (l : m ≤ n) : EqTo m f g := fun i hi => h i (by omega)
theorem EqTo.mul {n : Nat} {f g k l : Ser} (h : EqTo n f g) (h' : EqTo n k l) : EqTo n (mulS f k) (mulS g l) := fun i hi => sum_congr fun j hj => by rw [h j (by omega), h' (i - j) (by omega)]
theorem EqTo.pow {n : Nat} {f g : Ser} (h : EqTo n f g) : ∀ k, EqTo n (powS f k) (powS g k)
  | 0 => fun _ _ => rfl
  | k + 1 => (EqTo.pow h k).mul h
theorem EqTo.cmp {n : Nat} {u w f g : Ser} (h : EqTo n u w) (h' : EqTo n f g) : EqTo n (cmpS u f) (cmpS w g) := fun i hi => sum_congr fun j hj => by rw [h j (by omega), h'.pow j i hi]
/-! ### lists as series -/
def ser (qs : List Rat) : Ser := fun i => qs.getD i 0
def toL (n : Nat) (f : Ser) : List Rat := (List.range n).map f
theorem toL_len (n : Nat) (f : Ser) : (toL n f).length = n := by unfold toL; rw [List.length_map, List.length_range]
theorem toL_get {n i : Nat} {f : Ser} (h : i < n) : (toL n f)[i]? = some (f i) := by
  unfold toL
  rw [List.getElem?_map, List.getElem?_range h]
  rfl
theorem ser_toL {n : Nat} {f : Ser} : EqTo n (ser (toL n f)) f := fun i hi => by
  show List.getD _ _ _ = _
  rw [List.getD_eq_getElem?_getD, toL_get hi]
  rfl
theorem toL_ser (qs : List Rat) : toL qs.length (ser qs) = qs := by
  apply List.ext_getElem?
  intro i
  rcases Nat.lt_or_ge i qs.length with c | c
  · rw [toL_get c]
    show some (List.getD _ _ _) = _
    rw [List.getD_eq_getElem?_getD, List.getElem?_eq_getElem c]
    rfl
  · rw [List.getElem?_eq_none c, List.getElem?_eq_none (by rw [toL_len]; exact c)]
theorem toL_eq {n : Nat} {f g : Ser} (h : EqTo n f g) : toL n f = toL n g := List.map_congr_left fun i hi => h i (List.mem_range.mp hi)
theorem toL_inj {n : Nat} {f g : Ser} (h : toL n f = toL n g) : EqTo n f g := fun i hi => by
  have := congrArg (fun l : List Rat => l[i]?) h
  rw [toL_get hi, toL_get hi] at this
  exact Option.some.inj this
theorem cvT_sum (us ws : List Rat) (k : Nat) : ∀ j, cvT us ws k j = sumN (fun i => ser us i * ser ws (k - i)) j
  | 0 => rfl
  | j + 1 => by
    show cvT us ws k j + _ = _
    rw [cvT_sum us ws k j]
    rfl
theorem mulL_ser (us ws : List Rat) : mulL us ws = toL us.length (mulS (ser us) (ser ws)) := List.map_congr_left fun k _ => cvT_sum us ws k (k + 1)
theorem toL_take {n m : Nat} (f : Ser) (h : m ≤ n) : (toL n f).take m = toL m f := by
  unfold toL
  rw [← List.map_take, List.take_range, Nat.min_eq_left h]
theorem mulL_toL {n : Nat} (f g : Ser) : mulL (toL n f) (toL n g) = toL n (mulS f g) := by
  rw [mulL_ser, toL_len]
  exact toL_eq (ser_toL.mul ser_toL)
end Kx
end
section
set_option maxHeartbeats 4000000
namespace Kx
open PySem PySem.Spec PyProof.Rows L2
/-- the sum of the first products -/
def dotT (us ws : List Rat) : Nat → Rat
  | 0 => 0
  | j + 1 => dotT us ws j + us.getD j 0 * ws.getD j 0
theorem dotT_sum (us ws : List Rat) : ∀ n, dotT us ws n = sumN (fun i => ser us i * ser ws i) n
  | 0 => rfl
  | n + 1 => by
    show dotT us ws n + _ = _
    rw [dotT_sum us ws n]
    rfl
def dotL (us ws : List Rat) : Rat := dotT us ws (min us.length ws.length)
theorem dotT_z {L B M C : Nat} {us ws : List Rat} (h : AllD L B us) (h' : AllD M C ws) : ∀ j, Dq (L * M) (B + C + j) (dotT us ws j)
  | 0 => Dq.zero
  | j + 1 => (dotT_z h h' j).add (((h.getD j).mul (h'.getD j)).mono (Nat.le_add_right _ j)) (by omega) (by omega)
theorem prod_up {a b : Rat} {S : Nat} (h : a.den * b.den ∣ S) : ((a.num * b.num * ((S : Int) / ((a.den : Int) * (b.den : Int))) : Int) : Rat) = a * b * (S : Rat) := by
  obtain ⟨k, rfl⟩ := h
  have hd : ((a.den * b.den : Nat) : Int) ≠ 0 := by
    have := Nat.mul_ne_zero a.den_nz b.den_nz
    omega
  have e : (((a.den * b.den * k : Nat) : Int) / ((a.den : Int) * (b.den : Int))) = (k : Int) := by
    rw [← Int.natCast_mul, Int.natCast_mul (a.den * b.den) k, Int.mul_ediv_cancel_left _ hd]
  rw [e]
  have ha := up_val (q := a) (L := a.den) (Nat.dvd_refl _)
  have hb := up_val (q := b) (L := b.den) (Nat.dvd_refl _)
  rw [Int.ediv_self (den_ne a), Int.mul_one] at ha
  rw [Int.ediv_self (den_ne b), Int.mul_one] at hb
  rw [Rat.intCast_mul, Rat.intCast_mul, ha, hb, Rat.natCast_mul, Rat.natCast_mul]
  have : ((k : Int) : Rat) = (k : Rat) := rfl
  rw [this]
  grind
theorem quo_up {u : Int} {L S : Nat} {r : Rat} (h : L ∣ S) (L0 : 0 < L) (hu : (u : Rat) = r * (L : Rat)) : ((u * ((S : Int) / (L : Int)) : Int) : Rat) = r * (S : Rat) := by
  obtain ⟨k, rfl⟩ := h
  have e : (((L * k : Nat) : Int) / (L : Int)) = (k : Int) := by
    rw [Int.natCast_mul, Int.mul_ediv_cancel_left _ (by omega)]
  rw [e, Rat.intCast_mul, hu, Rat.natCast_mul]
  have : ((k : Int) : Rat) = (k : Rat) := rfl
  rw [this]
  grind
theorem div_of {u : Int} {L : Nat} {r : Rat} (L0 : 0 < L) (hu : (u : Rat) = r * (L : Rat)) : Rat.divInt u (L : Int) = r := by
  rw [Rat.divInt_eq_div, hu]
  have lz : (L : Rat) ≠ 0 := by
    intro z
    have : L = 0 := by exact_mod_cast z
    omega
  show r * (L : Rat) / (((L : Int)) : Rat) = r
  have : (((L : Int)) : Rat) = (L : Rat) := rfl
  rw [this]
  grind
def spDot (K : PySem.W.Frag) : Sp := fun vs H Q _ => ∃ (x y : V) (qs rs : List Rat) (L B M C : Nat), vs = [x, y] ∧ Ls K H x qs ∧ Ls K H y rs ∧ min qs.length rs.length ≤ 32 ∧ SmL L ∧ B ≤ 100000 ∧ SmL M ∧ C ≤ 100000 ∧ AllD L B qs ∧ AllD M C rs ∧ GivesQ H Q (dotL qs rs)
abbrev nDt : List Str := ["ones", "others", "upper", "lower", "a", "b", "c", "d", "shared"]
section
variable {P : Program} {w : World} {K : PySem.W.Frag} {mg : Str → Option Value} {base : Heap} {f fL o0 : Addr} {fd fdL : FuncData}
theorem scDt : FnScope nDt ["ones", "others"] (defScope F_dot) := ⟨rfl, rfl, rfl, by decide +kernel, rfl, by decide +kernel, by decide +kernel⟩
theorem ok_dot (F : Fun K "dot" "dot" F_dot f fd) (mz : mg "zip" = none) (mLc : mg "lcm" = some (.builtin "math.lcm")) (UR : Use P w K mg base CX0 1 "ratio" ["upper", "lower"] spLowQ []) : FnOk P w K mg base CX0 2 f fd ["ones", "others"] (spDot K) := by
  refine F.ok scDt (fun vs H Q E h => ?_) (fun cdv A outer s H vs Q E hr h => ?_)
  · obtain ⟨x, y, qs, rs, L, B, M, C, rfl, _⟩ := h
    rfl
  obtain ⟨x, y, qs, rs, LL, B, MM, C, rfl, ⟨xa, xs, rfl, hx, nx⟩, ⟨ya, ys, rfl, hy, ny⟩, l1, sL, lB, sM, lC, bq, br, q⟩ := h
  have LMb : LL * MM < 2 ^ 8900 := by
    rw [show (8900 : Nat) = 4450 + 4450 by rfl, Nat.pow_add]
    exact Nat.mul_lt_mul'' sL.2 sM.2
  have lcm_lt : ∀ {L : Nat}, L ∣ LL * MM → L < 2 ^ 8900 := fun h => Nat.lt_of_le_of_lt (Nat.le_of_dvd (Nat.mul_pos sL.1 sM.1) h) LMb
  refine ⟨_, pss_cons (ps_asg (pe_tup (pa_cons pe_int (pa_cons pe_int pa_nil))) (pg_tup rfl (pgs_cons (pg_name (i := 2) scDt.nd rfl (Or.inl rfl)) (pgs_cons (pg_name (i := 3) scDt.nd rfl (Or.inl rfl)) pgs_nil))))
    (pss_cons (ps_for PassesOwn.never rfl (pi_zip rfl mz (pa_cons (pv 0) (pa_cons (pv 1) pa_nil))) (pg_tup rfl (pgs_cons (pg_tup rfl (pgs_cons (pg_name (i := 4) scDt.nd rfl (Or.inl rfl)) (pgs_cons (pg_name (i := 5) scDt.nd rfl (Or.inl rfl)) pgs_nil))) (pgs_cons (pg_tup rfl (pgs_cons (pg_name (i := 6) scDt.nd rfl (Or.inl rfl)) (pgs_cons (pg_name (i := 7) scDt.nd rfl (Or.inl rfl)) pgs_nil))) pgs_nil)))
      (pss_one (ps_if (PW.pt (pw_and (pt_cmpR op_ne (pv 4) pe_int (nomark _)) (pw_and1 (pt_cmpR op_ne (pv 6) pe_int (nomark _)))))
        (pss_cons (ps_set (i := 8) scDt.nd rfl (Or.inl rfl) (pe_callBfun cr_lcm rfl mLc (pa_cons (pv 3) (pa_cons (pe_op op_mulW (pv 5) (pv 7)) pa_nil))))
        (pss_cons (ps_set (i := 2) scDt.nd rfl (Or.inl rfl) (pe_op op_add (pe_op op_mulW (pv 2) (pe_op op_fdivA (pv 8) (pv 3))) (pe_op op_mulW (pe_op op_mulW (pv 4) (pv 6)) (pe_op op_fdivA (pv 8) (pe_op op_mulW (pv 5) (pv 7))))))
        (pss_one (ps_set (i := 3) scDt.nd rfl (Or.inl rfl) (pv 8))))) pss_nil)))
    (pss_one (ps_ret (pe_use UR hr rfl pass0 (pa_cons (pv 2) (pa_cons (pv 3) pa_nil)))))), ?_⟩
  refine ⟨(by show 2 ≤ sizeLine; decide), fun t0 n0 => ?_⟩
  have s0 := new_same n0 (HO.tup [.int 0, .int 1])
  refine ⟨t0, _, rfl, SqT.of upd_same, rfl, _, _, rfl, _, _, rfl, rfl, ?_⟩
  generalize upd H t0 (HO.tup [.int 0, .int 1]) = H0 at s0
  have lx : xs.length = qs.length := nx.1
  have ly : ys.length = rs.length := ny.1
  refine ⟨_, rfl, _, rfl, xa, ya, xs, ys, rfl, SqL.of (s0 _ _ hx), SqL.of (s0 _ _ hy), ?_⟩
  refine for_it (walk_zip (K := K) (a := xa) (b := ya) (xs := xs) (ys := ys) (n := min xs.length ys.length) rfl) (fun i σ H' => Same H H' ∧ ∃ (u : Int) (L : Nat) (v4 v5 v6 v7 v8 : Option V), σ = [some (.ref xa), some (.ref ya), some (.int u), some (.int (L : Nat)), v4, v5, v6, v7, v8] ∧ L ∣ LL * MM ∧ (u : Rat) = dotT qs rs i * (L : Rat)) ⟨s0, 0, 1, none, none, none, none, none, rfl, Nat.one_dvd _, (by show ((0 : Int) : Rat) = 0 * _; rw [Rat.zero_mul]; rfl)⟩ (fun i σ H' _ h => ⟨SqL.of (h.1 _ _ hx), SqL.of (h.1 _ _ hy)⟩) ?_ ?_
  · rintro i z σ H3 H4 hi ⟨s3, u, L, v4, v5, v6, v7, v8, rfl, dL, hu⟩ ⟨T, y, z, rfl, hT, rfl, ey, ez⟩
    have sT := new_same hT (.tup [y, z])
    obtain ⟨a, ea, na⟩ := nx.get ey
    obtain ⟨b, eb, nb⟩ := ny.get ez
    obtain ⟨va, rfl, sa, _⟩ := (na.same (s3.trans sT)).sq
    obtain ⟨vb, rfl, sb, _⟩ := (nb.same (s3.trans sT)).sq
    have za := bq a (List.mem_of_getElem? ea)
    have zb := br b (List.mem_of_getElem? eb)
    have ba : Ok a := za.ok sL lB
    have bb : Ok b := zb.ok sM lC
    have L0 : 0 < L := Nat.pos_of_dvd_of_pos dL (Nat.mul_pos sL.1 sM.1)
    have nxt : dotT qs rs (i + 1) = dotT qs rs i + a * b := by
      show _ + List.getD _ _ _ * List.getD _ _ _ = _
      rw [List.getD_eq_getElem?_getD, List.getD_eq_getElem?_getD, ea, eb]
      rfl
    refine ⟨T, _, rfl, SqT.of upd_same, rfl, _, _, rfl, va, _, rfl, sa, rfl, _, _, rfl, _, _, rfl, rfl, _, _, rfl, vb, _, rfl, sb, rfl, _, _, rfl, _, _, rfl, rfl, rfl, ?_⟩
    have skip : a * b = 0 → L ∣ LL * MM ∧ (u : Rat) = dotT qs rs (i + 1) * (L : Rat) := fun z => ⟨dL, by rw [nxt, z, Rat.add_zero]; exact hu⟩
    refine ⟨_, rfl, rfl, _, rfl, ?_⟩
    by_cases ca : a.num = 0
    · have z : a = 0 := Rat.num_eq_zero.mp ca
      rw [decide_eq_true (congrArg V.int ca)]
      exact iteF (iteF ⟨s3.trans sT, u, L, _, _, _, _, _, rfl, skip (by rw [z, Rat.zero_mul])⟩)
    rw [decide_eq_false (fun e => ca (V.int.inj e))]
    refine iteT ⟨_, rfl, rfl, _, rfl, ?_⟩
    by_cases cb : b.num = 0
    · have z : b = 0 := Rat.num_eq_zero.mp cb
      rw [decide_eq_true (congrArg V.int cb)]
      exact iteF ⟨s3.trans sT, u, L, _, _, _, _, _, rfl, skip (by rw [z, Rat.mul_zero])⟩
    rw [decide_eq_false (fun e => cb (V.int.inj e))]
    have dd : a.den * b.den ∣ LL * MM := by
      exact Nat.mul_dvd_mul (za.dvd sL.1) (zb.dvd sM.1)
    have d0 : 0 < a.den * b.den := Nat.pos_of_dvd_of_pos dd (Nat.mul_pos sL.1 sM.1)
    have Lb := lcm_lt dL
    have db := lcm_lt dd
    have S0 : Nat.lcm L (a.den * b.den) ∣ LL * MM := Nat.lcm_dvd dL dd
    have d1 := Nat.dvd_lcm_left L (a.den * b.den)
    have d2 := Nat.dvd_lcm_right L (a.den * b.den)
    have Sb := lcm_lt S0
    refine iteT ⟨_, rfl, _, rfl, _, rfl, _, _, rfl, rfl, wide_mul ba.dn bb.dn (by decide) (by decide) (by decide), L, a.den * b.den, rfl, Nat.lt_of_lt_of_le Lb (Nat.pow_le_pow_right (by decide) (by decide)), Nat.lt_of_lt_of_le db (Nat.pow_le_pow_right (by decide) (by decide)), L0, d0, ?_⟩
    have ub : u.natAbs < 2 ^ 300000 := Nat.lt_of_lt_of_le ((dotT_z bq br i).part (Nat.mul_pos sL.1 sM.1) dL hu) (Nat.pow_le_pow_right (by decide) (by omega))
    generalize Nat.lcm L (a.den * b.den) = S at *
    have cd : ((S : Nat) : Int) / ((L : Nat) : Int) = ((S / L : Nat) : Int) := rfl
    have ce : ((S : Nat) : Int) / (((a.den : Nat) : Int) * ((b.den : Nat) : Int)) = ((S / (a.den * b.den) : Nat) : Int) := rfl
    have q1 := quo_up d1 L0 hu
    have q2 := prod_up (a := a) (b := b) d2
    refine ⟨_, rfl, _, rfl, _, rfl, (S : Nat), (L : Nat), rfl, rfl, ⟨by omega, Nat.lt_trans (log_bd (by rw [Int.natAbs_natCast]; exact Lb) (by decide)) (by decide)⟩, _, _, rfl, rfl, ?_, ?_⟩
    · rw [Int.fdiv_eq_ediv_of_nonneg _ (by omega), cd]
      refine wide_mul (b := 8900) ub ?_ (by decide) (by decide) (by decide)
      rw [Int.natAbs_natCast]
      exact Nat.lt_of_le_of_lt (Nat.div_le_self _ _) Sb
    refine ⟨_, rfl, _, rfl, a.num, b.num, rfl, rfl, wide_mul ba.1 bb.1 (by decide) (by decide) (by decide), _, rfl, _, rfl, _, rfl, (a.den : Nat), (b.den : Nat), rfl, rfl, wide_mul ba.dn bb.dn (by decide) (by decide) (by decide), (S : Nat), _, rfl, rfl, ⟨by omega, Nat.lt_trans (log_bd (n := 8900) (by rw [← Int.natCast_mul, Int.natAbs_natCast]; exact db) (by decide)) (by decide)⟩, _, _, rfl, rfl, ?_, ?_⟩
    · rw [Int.fdiv_eq_ediv_of_nonneg _ (by omega), ce]
      refine wide_mul (b := 8900) (lt_mul ba.1 bb.1) ?_ (by decide) (by decide) (by decide)
      rw [Int.natAbs_natCast]
      exact Nat.lt_of_le_of_lt (Nat.div_le_self _ _) Sb
    rw [Int.fdiv_eq_ediv_of_nonneg _ (by omega), Int.fdiv_eq_ediv_of_nonneg _ (by omega)]
    refine ⟨_, _, rfl, rfl, _, rfl, s3.trans sT, _, S, _, _, _, _, _, rfl, S0, ?_⟩
    rw [nxt, Rat.intCast_add, q1, q2]
    grind
  · rintro σ H3 ⟨s3, u, L, v4, v5, v6, v7, v8, rfl, dL, hu⟩
    have L0 : 0 < L := Nat.pos_of_dvd_of_pos dL (Nat.mul_pos sL.1 sM.1)
    rw [lx, ly] at hu
    refine ⟨_, rfl, _, rfl, u, (L : Nat), rfl, by omega, Nat.lt_trans (log_bd (n := 8900) (by rw [Int.natAbs_natCast]; exact lcm_lt dL) (by decide)) (by decide), fun t H4 s4 n4 h4 => ?_⟩
    rw [div_of L0 hu] at h4
    exact q t H4 (s3.trans s4) (s3.free n4) h4
end
end Kx
end
section
set_option maxHeartbeats 4000000
namespace Kx
open PySem PySem.Spec PyProof.Rows L2
/-! ### lists of lists -/
def Lsl (K : PySem.W.Frag) (H : Hp) (xs : List V) (rows : List (List Rat)) : Prop := xs.length = rows.length ∧ ∀ (i : Nat) (x : V) (r : List Rat), xs[i]? = some x → rows[i]? = some r → Ls K H x r
def Lss (K : PySem.W.Frag) (H : Hp) (v : V) (rows : List (List Rat)) : Prop := ∃ a xs, v = .ref a ∧ H a = some (.lst xs) ∧ Lsl K H xs rows
def GivesLL (K : PySem.W.Frag) (H : Hp) (Q : VK) (rows : List (List Rat)) : Prop := ∀ b H' xs, Same H H' → H b = none → H' b = some (.lst xs) → Lsl K H' xs rows → Q (.ref b) H'
section
variable {K : PySem.W.Frag} {H H' : Hp}
theorem Lsl.same {xs : List V} {rows : List (List Rat)} (h : Lsl K H xs rows) (s : Same H H') : Lsl K H' xs rows := ⟨h.1, fun i x r h1 h2 => (h.2 i x r h1 h2).same s⟩
theorem Lss.same {v : V} {rows : List (List Rat)} (h : Lss K H v rows) (s : Same H H') : Lss K H' v rows := by
  obtain ⟨a, xs, e, h1, h2⟩ := h
  exact ⟨a, xs, e, s _ _ h1, h2.same s⟩
theorem Lsl.get {xs : List V} {rows : List (List Rat)} (h : Lsl K H xs rows) {i : Nat} {x : V} (hx : xs[i]? = some x) : ∃ r, rows[i]? = some r ∧ Ls K H x r := by
  have hi : i < xs.length := by
    rcases Nat.lt_or_ge i xs.length with c | c
    · exact c
    · rw [List.getElem?_eq_none c] at hx; cases hx
  have e := List.getElem?_eq_getElem (l := rows) (i := i) (by rw [← h.1]; exact hi)
  exact ⟨_, e, h.2 i x _ hx e⟩
theorem Lsl.get' {xs : List V} {rows : List (List Rat)} (h : Lsl K H xs rows) {i : Nat} (hi : i < rows.length) : ∃ x, xs[i]? = some x ∧ Ls K H x rows[i] := by
  have e := List.getElem?_eq_getElem (l := xs) (i := i) (by rw [h.1]; exact hi)
  exact ⟨_, e, h.2 i _ _ e (List.getElem?_eq_getElem hi)⟩
theorem Lsl.snoc {xs : List V} {rows : List (List Rat)} {x : V} {r : List Rat} (h : Lsl K H xs rows) (hx : Ls K H x r) : Lsl K H (xs ++ [x]) (rows ++ [r]) := by
  refine ⟨by rw [List.length_append, List.length_append, h.1]; rfl, fun i y s h1 h2 => ?_⟩
  by_cases c : i < xs.length
  · rw [List.getElem?_append_left c] at h1
    rw [List.getElem?_append_left (by rw [← h.1]; exact c)] at h2
    exact h.2 i y s h1 h2
  · rw [List.getElem?_append_right (by omega)] at h1
    rw [List.getElem?_append_right (by rw [← h.1]; omega), ← h.1] at h2
    match hj : i - xs.length, h1, h2 with
    | 0, h1, h2 =>
      rw [← Option.some.inj (show some x = some y from h1), ← Option.some.inj (show some r = some s from h2)]
      exact hx
    | _ + 1, h1, _ => simp at h1
theorem Ls.butL {v : V} {qs : List Rat} {D : Addr} {l : List V} (h : Ls K H v qs) (hD : H D = some (.lst l)) (n : v ≠ .ref D) (s : But D H H') : Ls K H' v qs := by
  obtain ⟨a, xs, rfl, h1, h2⟩ := h
  exact ⟨a, xs, rfl, s _ _ (fun e => n (by rw [e])) h1, h2.1, fun i x q e1 e2 => (h2.2 i x q e1 e2).butL hD s⟩
end
theorem pil_at {X : Cx} {tg l : Expr} {tl : TE} (K : PySem.W.Frag) (h : X.K = K) (hl : PE X l tl) : PI X tg l (iList K tl) := by
  subst h
  exact pi_list hl
def mixL (n : Nat) (qs : List Rat) (rows : List (List Rat)) : List Rat := (List.range n).map fun i => dotL qs (rows.map fun r => r.getD i 0)
theorem mixL_len (n : Nat) (qs : List Rat) (rows : List (List Rat)) : (mixL n qs rows).length = n := by unfold mixL; rw [List.length_map, List.length_range]
def spMix (K : PySem.W.Frag) : Sp := fun vs H Q _ => ∃ (x y : V) (qs : List Rat) (rows : List (List Rat)) (n L B M C : Nat), vs = [x, y] ∧ Ls K H x qs ∧ Lss K H y rows ∧ 1 ≤ rows.length ∧ rows.length ≤ 32 ∧ n ≤ 30 ∧ (∀ r ∈ rows, r.length = n) ∧ SmL L ∧ B ≤ 100000 ∧ SmL M ∧ C ≤ 100000 ∧ AllD L B qs ∧ (∀ r ∈ rows, AllD M C r) ∧ GivesL K H Q (mixL n qs rows)
abbrev scMi : Scope := { kind := .function, names := [(".0", .local), ("at", .cell), ("dot", .globalImplicit), ("factors", .cell), ("lists", .cell)], isGenerator := false, isCoroutine := false }
abbrev nMx : List Str := ["factors", "lists", "at", "numbers"]
section
variable {P : Program} {w : World} {K : PySem.W.Frag} {mg : Str → Option Value} {base : Heap} {f fL o0 : Addr} {fd fdL : FuncData}
theorem scMx : FnScope nMx ["factors", "lists"] (defScope F_mixed) := ⟨rfl, rfl, rfl, by decide +kernel, rfl, by decide +kernel, by decide +kernel⟩
theorem ok_mixed (F : Fun K "mixed" "mixed" F_mixed f fd) (mn : mg "len" = none) (mr : mg "range" = none) (UD : Use P w K mg base CX0 2 "dot" ["ones", "others"] (spDot K) []) : FnOk P w K mg base CX0 3 f fd ["factors", "lists"] (spMix K) := by
  refine F.ok scMx (fun vs H Q E h => ?_) (fun cdv A outer s H vs Q E hr h => ?_)
  · obtain ⟨x, y, qs, rows, n, L, B, M, C, rfl, _⟩ := h
    rfl
  obtain ⟨x, y, qs, rows, n, L, B, M, C, rfl, lx, ly, r1, r32, n30, rn, sL, lB, sM, lC, bq, br, q⟩ := h
  refine ⟨_, pss_one (ps_ret (pe_lc (own := [("at", 2)]) (g := gName 2) (tt := tYes) rfl scMx.nd (pi_range1 rfl mr (pa_cons (pe_callB call_len_seq rfl mn PySem.boot_len (pa_cons (pe_ix ix_list (pv 1) pe_int (fun _ _ => rfl)) pa_nil)) pa_nil)) (blkOk_by (N := nMx) (sc := defScope F_mixed) (by decide +kernel))
      (fun _ _ _ _ _ => pg_name (i := 2) scMx.nd rfl (Or.inr rfl)) (fun _ _ _ _ _ => pts_nil)
      (fun _ _ _ _ _ => pe_use UD hr rfl pass0 (pa_cons (pv 0) (pa_cons (pe_lc (own := [("numbers", 3)]) (g := gName 3) (tt := tYes) rfl scMx.nd (pil_at K rfl (pv 1)) (blkOk_by (N := nMx) (sc := scMi) (by decide +kernel))
        (fun _ _ _ _ _ => pg_name (i := 3) scMx.nd rfl (Or.inl rfl)) (fun _ _ _ _ _ => pts_nil) (fun _ _ _ _ _ => pe_ix (ixl_at K rfl) (pv 3) (pv 2) (fun _ _ => rfl))) pa_nil))))), ?_⟩
  obtain ⟨xa, xs, rfl, hx, nx⟩ := lx
  obtain ⟨ya, ys, rfl, hy, ny⟩ := ly
  have l0 := ny.1
  obtain ⟨y0, e0', hy0⟩ := ny.get' (i := 0) (by omega)
  obtain ⟨za, zs, rfl, hz, nz⟩ := hy0
  have zl : zs.length = n := by rw [nz.1]; exact rn _ (List.getElem_mem _)
  refine ⟨_, rfl, ya, ys, 0, _, rfl, rfl, SqL.of hy, at_of (j := 0) rfl e0', za, zs, rfl, .inl (SqL.of hz), ?_⟩
  refine ⟨_, rfl, by omega, by omega, fun D nD => ?_⟩
  rw [zl]
  refine lc_nums (K := K) (walk_range (lo := 0) (n := (((n : Nat) : Int)).toNat)) (mixL n qs rows) (by rw [mixL_len, Int.toNat_natCast]) nD (by omega) (fun _ _ => trivial) ?_ (fun H' zs s h m => q D H' zs s nD h m)
  rintro i r x H2 H3 k hq s2 ⟨rfl, rfl⟩ hk
  have hi : i < n := by
    rcases Nat.lt_or_ge i n with c | c
    · exact c
    · rw [List.getElem?_eq_none (by rw [mixL_len]; exact c)] at hq; cases hq
  have er : dotL qs (rows.map fun r => r.getD i 0) = r := by
    unfold mixL at hq
    rw [List.getElem?_map, List.getElem?_range hi] at hq
    exact Option.some.inj hq
  refine ⟨rfl, _, rfl, _, rfl, ya, rfl, ⟨_, SqL.of (s2 _ _ hy)⟩, fun D2 nD2 => ?_⟩
  refine lc_nums (K := K) (walk_list (K := K) (a := ya) (xs := ys)) (rows.map fun r => r.getD i 0) (by rw [List.length_map]; omega) nD2 (by omega) (fun H' s => SqL.of (s _ _ (s2 _ _ hy))) ?_ ?_
  · rintro j r' x H4 H5 k2 hq2 s4 ⟨rfl, hx2⟩ hk2
    obtain ⟨row, erow, lrow⟩ := ny.get hx2
    obtain ⟨ra, rxs, rfl, hrx, nrx⟩ := lrow
    rw [List.getElem?_map, erow] at hq2
    have e2 : row.getD i 0 = r' := Option.some.inj hq2
    have rl := rn row (List.mem_of_getElem? erow)
    obtain ⟨z, ez, nz2⟩ := nrx.get' (i := i) (by omega)
    have e3 : row[i] = r' := by rw [← e2, List.getD_eq_getElem?_getD, List.getElem?_eq_getElem (by omega)]; rfl
    rw [e3] at nz2
    exact ⟨rfl, _, rfl, _, rfl, ra, rxs, 0 + (i : Int), z, rfl, rfl, SqL.of (s4 _ _ (s2 _ _ hrx)), at_of (j := i) (by omega) ez, hk2 _ _ (Same.refl _) (nz2.same (s2.trans s4))⟩
  · intro H4 ws s4 h4 m4
    refine ⟨_, _, qs, _, L, B, M, C, rfl, ⟨xa, xs, rfl, s4 _ _ (s2 _ _ hx), nx.same (s2.trans s4)⟩, ⟨D2, ws, rfl, h4, m4⟩, ?_, sL, lB, sM, lC, bq, ?_, ?_⟩
    · rw [List.length_map]
      omega
    · intro p hp
      obtain ⟨row, hrow, rfl⟩ := List.mem_map.mp hp
      exact (br row hrow).getD i
    · intro t H5 s5 n5 h5
      rw [er] at h5
      exact hk _ _ (s4.trans s5) (.at h5)
end
end Kx
end
section
set_option maxHeartbeats 4000000
namespace Kx
open PySem PySem.Spec PyProof.Rows L2
theorem sll_at {X : Cx} (K : PySem.W.Frag) (h : X.K = K) : SlR X (rSlL K) := by
  subst h
  exact sl_list
/-- .. with the new list seen at each turn -/
theorem lc_accD {J : It} {n : Nat} {G : Hp → Prop} {Y : Nat → Hp → V → Hp → Prop} (w : Walk J n G Y) {g : TG} {te : TE} {vs : List Nat} {σ : L2.St} {H1 : Hp} {D : Addr} {Qd : Hp → Prop} (R : Nat → Hp → V → Prop)
    (mono : ∀ i H H' y l, R i H y → H D = some (.lst l) → But D H H' → R i H' y) (nD : H1 D = none) (hn : n ≤ 900) (hG : ∀ H, Same H1 H → G H)
    (hs : ∀ i x H H' (k : V → Hp → Prop), i < n → Same H1 H → (∃ l, H D = some (.lst l)) → Y i H x H' → (∀ y H4, Same H H4 → R i H4 y → k y H4) → g x (wipe σ vs) H' fun σ2 H2 => wipe σ2 vs = wipe σ vs ∧ te σ2 H2 k)
    (hd : ∀ H xs, Same H1 H → H D = some (.lst xs) → xs.length = n → (∀ (i : Nat) y, xs[i]? = some y → R i H y) → Qd H) :
    ∃ W : Nat → Nat → Hp → Prop, (∃ m, W 0 m (upd H1 D (.lst []))) ∧ ∀ i m H, W i m H →
      (J.stop i H ∧ Qd H) ∨ (J.go i H ∧ ∃ Nx : Hp → Prop, (∀ H', Nx H' → ∃ m', m' < m ∧ W (i + 1) m' H') ∧ ∀ x H', J.yld i H x H' → g x (wipe σ vs) H' fun σ2 H2 => wipe σ2 vs = wipe σ vs ∧ tYes σ2 H2 fun b H3 =>
        if b = true then te σ2 H3 fun y H4 => ∃ acc, H4 D = some (.lst acc) ∧ acc.length < sizeLine ∧ Nx (upd H4 D (.lst (acc ++ [y]))) else Nx H3) := by
  refine lc_it w (fun i H => Same H1 H ∧ ∃ xs, H D = some (.lst xs) ∧ xs.length = i ∧ ∀ (j : Nat) y, xs[j]? = some y → R j H y) ⟨new_same nD _, [], upd_same, rfl, fun j y h => by simp at h⟩ (fun i H _ h => hG H h.1) ?_ ?_
  · rintro i x H H' hi ⟨s1, xs, hx, hl, hR⟩ y
    have z := hs i x H H' (fun y H4 => ∃ acc, H4 D = some (.lst acc) ∧ acc.length < sizeLine ∧ (Same H1 (upd H4 D (.lst (acc ++ [y]))) ∧ ∃ xs, (upd H4 D (.lst (acc ++ [y]))) D = some (.lst xs) ∧ xs.length = i + 1 ∧ ∀ (j : Nat) z, xs[j]? = some z → R j (upd H4 D (.lst (acc ++ [y]))) z)) hi s1 ⟨xs, hx⟩ y (fun y H4 s4 r4 => ?_)
    · exact z
    · have h4 := s4 _ _ hx
      refine ⟨xs, h4, small1000 (by omega), fun e o h => ?_, xs ++ [y], upd_same, by rw [List.length_append, hl]; rfl, fun j z hz => ?_⟩
      · rw [upd_ne (ne_of_none h nD)]
        exact s4 _ _ (s1 _ _ h)
      · have sm : But D H4 (upd H4 D (.lst (xs ++ [y]))) := fun e o n h => by rw [upd_ne n]; exact h
        by_cases c : j < xs.length
        · rw [List.getElem?_append_left c] at hz
          exact mono j H _ z _ (hR j z hz) hx ((But.same s4).trans sm)
        · rw [List.getElem?_append_right (by omega)] at hz
          match hj : j - xs.length, hz with
          | 0, hz =>
            rw [← Option.some.inj (show some y = some z from hz)]
            obtain rfl : j = i := by omega
            exact mono j H4 _ _ _ r4 h4 sm
          | _ + 1, hz => simp at hz
  · rintro H ⟨s1, xs, hx, hl, hR⟩
    exact hd H xs s1 hx hl hR
/-- .. lists of numbers -/
theorem lc_rows {K : PySem.W.Frag} {J : It} {n : Nat} {G : Hp → Prop} {Y : Nat → Hp → V → Hp → Prop} (w : Walk J n G Y) {g : TG} {te : TE} {vs : List Nat} {σ : L2.St} {H1 : Hp} {D : Addr} {Qd : Hp → Prop} (rows : List (List Rat))
    (hl : rows.length = n) (nD : H1 D = none) (hn : n ≤ 900) (hG : ∀ H, Same H1 H → G H)
    (hs : ∀ i r x H H' (k : V → Hp → Prop), rows[i]? = some r → Same H1 H → Y i H x H' → (∀ b H4, Same H H4 → H b = none → Ls K H4 (.ref b) r → k (.ref b) H4) → g x (wipe σ vs) H' fun σ2 H2 => wipe σ2 vs = wipe σ vs ∧ te σ2 H2 k)
    (hd : ∀ H xs, Same H1 H → H D = some (.lst xs) → Lsl K H xs rows → (∀ x ∈ xs, x ≠ .ref D) → Qd H) :
    ∃ W : Nat → Nat → Hp → Prop, (∃ m, W 0 m (upd H1 D (.lst []))) ∧ ∀ i m H, W i m H →
      (J.stop i H ∧ Qd H) ∨ (J.go i H ∧ ∃ Nx : Hp → Prop, (∀ H', Nx H' → ∃ m', m' < m ∧ W (i + 1) m' H') ∧ ∀ x H', J.yld i H x H' → g x (wipe σ vs) H' fun σ2 H2 => wipe σ2 vs = wipe σ vs ∧ tYes σ2 H2 fun b H3 =>
        if b = true then te σ2 H3 fun y H4 => ∃ acc, H4 D = some (.lst acc) ∧ acc.length < sizeLine ∧ Nx (upd H4 D (.lst (acc ++ [y]))) else Nx H3) := by
  refine lc_accD w (fun i H y => y ≠ .ref D ∧ ∀ r, rows[i]? = some r → Ls K H y r) (fun i H H' y l h hD s => ⟨h.1, fun r hr => (h.2 r hr).butL hD h.1 s⟩) nD hn hG (fun i x H H' k hi s hD y hk => ?_) (fun H xs s h l hR => hd H xs s h ⟨by rw [l, hl], fun i x q h1 h2 => (hR i x h1).2 q h2⟩ fun x hx => ?_)
  · have e := List.getElem?_eq_getElem (l := rows) (i := i) (by omega)
    obtain ⟨l, hl⟩ := hD
    refine hs i _ x H H' k e s y fun b H4 s4 n4 r4 => hk _ H4 s4 ⟨fun z => ?_, fun q hq => ?_⟩
    · rw [V.ref.inj z, hl] at n4
      cases n4
    · rw [e] at hq
      rw [← Option.some.inj hq]
      exact r4
  · obtain ⟨i, hi⟩ := List.getElem?_of_mem hx
    exact (hR i x hi).1
def powL (u : List Rat) : Nat → List Rat
  | 0 => u
  | k + 1 => mulL (powL u k) u
theorem mulL_len (u w : List Rat) : (mulL u w).length = u.length := by unfold mulL; rw [List.length_map, List.length_range]
theorem powL_len (u : List Rat) : ∀ k, (powL u k).length = u.length
  | 0 => rfl
  | k + 1 => by
    show (mulL _ _).length = _
    rw [mulL_len, powL_len u k]
theorem powL_toL {n : Nat} (f : Ser) : ∀ k, powL (toL n f) k = toL n (powS f (k + 1))
  | 0 => by
    show toL n f = toL n (powS f 1)
    rw [powS_one]
  | k + 1 => by
    show mulL (powL (toL n f) k) (toL n f) = toL n (mulS (powS f (k + 1)) f)
    rw [powL_toL f k, mulL_toL]
def tabL (qs : List Rat) : List (List Rat) := (List.range qs.length).map fun k => (powL (0 :: qs) k).drop 1
theorem tabL_len (qs : List Rat) : (tabL qs).length = qs.length := by unfold tabL; rw [List.length_map, List.length_range]
theorem tabL_row {qs : List Rat} : ∀ r ∈ tabL qs, r.length = qs.length := fun r hr => by
  obtain ⟨k, _, rfl⟩ := List.mem_map.mp hr
  rw [List.length_drop, powL_len]
  rfl
/-- all powers over one lower part -/
def PowD (L B : Nat) (rs : List Rat) : Prop := ∀ k, k < rs.length → AllD L B (powL (0 :: rs) k)
theorem tabL_d {L B : Nat} {rs : List Rat} (h : PowD L B rs) : ∀ r ∈ tabL rs, AllD L B r := fun r hr => by
  unfold tabL at hr
  obtain ⟨k, hk, rfl⟩ := List.mem_map.mp hr
  exact fun q hq => h k (List.mem_range.mp hk) q (List.mem_of_mem_drop hq)
def spTab (K : PySem.W.Frag) : Sp := fun vs H Q _ => ∃ (x : V) (qs : List Rat) (L B : Nat), vs = [x] ∧ Ls K H x qs ∧ 1 ≤ qs.length ∧ qs.length ≤ 24 ∧ SmL L ∧ B ≤ 100000 ∧ PowD L B qs ∧ GivesLL K H Q (tabL qs)
abbrev nTb : List Str := ["numbers", "step", "powers", "power"]
section
variable {P : Program} {w : World} {K : PySem.W.Frag} {mg : Str → Option Value} {base : Heap} {f fL o0 : Addr} {fd fdL : FuncData}
theorem scTb : FnScope nTb ["numbers"] (defScope F_table_lines) := ⟨rfl, rfl, rfl, by decide +kernel, rfl, by decide +kernel, by decide +kernel⟩
theorem ok_tab (F : Fun K "table_lines" "table_lines" F_table_lines f fd) (k0 : KP K o0 0 1) (mZ : mg "ZERO" = some (.ref o0)) (mn : mg "len" = none) (UM : Use P w K mg base CX0 2 "multiplied" ["one", "other"] (spMulL K) []) : FnOk P w K mg base CX0 3 f fd ["numbers"] (spTab K) := by
  refine F.ok scTb (fun vs H Q E h => ?_) (fun cdv A outer s H vs Q E hr h => ?_)
  · obtain ⟨x, qs, L, B, rfl, _⟩ := h
    rfl
  obtain ⟨x, qs, L, B, rfl, ⟨xa, xs, rfl, hx, nx⟩, l1, l24, sL, lB, bq, q⟩ := h
  refine ⟨_, pss_cons (ps_set (i := 1) scTb.nd rfl (Or.inl rfl) (pe_op op_cat (pe_lst (pa_cons (C8.pe_gc (v := .ref o0) rfl ⟨_, mZ, rfl⟩) pa_nil)) (pv 0)))
    (pss_cons (ps_set (i := 2) scTb.nd rfl (Or.inl rfl) (pe_lst (pa_cons (pv 1) pa_nil)))
    (pss_cons (ps_while PassesOwn.never (pt_cmpR op_lt (pe_callB call_len_seq rfl mn PySem.boot_len (pa_cons (pv 2) pa_nil)) (pe_callB call_len_seq rfl mn PySem.boot_len (pa_cons (pv 0) pa_nil)) (nomark _))
      (pss_one (ps_expr (pe_bm PySem.F.plainAttrs_list PySem.F.slot_list_append PySem.F.type_list_append mt_append (pv 2) (pa_cons (pe_use UM hr rfl pass0 (pa_cons (pe_ix ix_list (pv 2) (pe_un un_neg pe_int) (fun _ _ => rfl)) (pa_cons (pv 1) pa_nil))) pa_nil)))))
    (pss_one (ps_ret (pe_lc (own := [("power", 3)]) (g := gName 3) (tt := tYes) rfl scTb.nd (pi_list (pv 2)) (blkOk_by (N := nTb) (sc := defScope F_table_lines) (by decide +kernel))
      (fun _ _ _ _ _ => pg_name (i := 3) scTb.nd rfl (Or.inl rfl)) (fun _ _ _ _ _ => pts_nil) (fun _ _ _ _ _ => pe_slice (sll_at K rfl) (pv 3) (po_some pe_int) po_none)))))), ?_⟩
  have lx : xs.length = qs.length := nx.1
  refine ⟨(by show 1 ≤ sizeLine; decide), fun a na => ⟨_, rfl, a, xa, _, _, rfl, rfl, upd_same, new_same na _ _ _ hx, Nat.le_of_lt (small1000 (by show 1 + _ ≤ _; omega)), fun d nd => ?_⟩⟩
  have s1 := new_same na (.lst [V.ref o0])
  have s2 := s1.trans (new_same nd (.lst ([V.ref o0] ++ xs)))
  have ed : upd (upd H a (.lst [V.ref o0])) d (.lst ([V.ref o0] ++ xs)) d = some (.lst ([V.ref o0] ++ xs)) := upd_same
  have n1 : Nl K (upd (upd H a (.lst [V.ref o0])) d (.lst ([V.ref o0] ++ xs))) ([V.ref o0] ++ xs) (0 :: qs) := Nl.cons ⟨o0, rfl, .inr k0⟩ (nx.same s2)
  generalize upd (upd H a (.lst [V.ref o0])) d (.lst ([V.ref o0] ++ xs)) = H1 at s2 ed n1
  generalize [V.ref o0] ++ xs = us at ed n1
  have lu : us.length = qs.length + 1 := n1.1
  refine ⟨_, rfl, (by show 1 ≤ sizeLine; decide), fun pa np => ?_⟩
  have z0 : AllD L B (0 :: qs) := bq 0 (by omega)
  have s3 := new_same np (.lst [V.ref d])
  have nd3 : d ≠ pa := fun z => by rw [z, np] at ed; cases ed
  refine ⟨fun m σ H' => Same H1 H' ∧ σ = [some (.ref xa), some (.ref d), some (.ref pa), none] ∧ ∃ k ps, k ≤ qs.length ∧ 1 ≤ k ∧ m = qs.length - k ∧ H' pa = some (.lst ps) ∧ Lsl K H' ps ((List.range k).map (powL (0 :: qs))) ∧ ∀ x ∈ ps, x ≠ .ref pa, ⟨_, s3, rfl, 1, [.ref d], l1, Nat.le_refl _, rfl, upd_same, ⟨rfl, ?_⟩, ?_⟩, ?_⟩
  · intro i x r h1 h2
    match i, h1, h2 with
    | 0, h1, h2 =>
      obtain rfl : V.ref d = x := Option.some.inj h1
      obtain rfl : powL (0 :: qs) 0 = r := Option.some.inj h2
      exact ⟨d, us, rfl, s3 _ _ ed, n1.same s3⟩
    | _ + 1, h1, _ => simp at h1
  · intro x hx e
    obtain rfl := List.mem_singleton.mp hx
    exact nd3 (V.ref.inj e)
  rintro m σ H' ⟨s4, rfl, k, ps, kq, k1, rfl, hp, np', hne⟩
  have lp : ps.length = k := by rw [np'.1, List.length_map, List.length_range]
  have hx4 := s4 _ _ (s2 _ _ hx)
  refine ⟨_, rfl, pa, ps, rfl, .inl (SqL.of hp), _, rfl, xa, xs, rfl, .inl (SqL.of hx4), _, _, rfl, rfl, _, rfl, ite2 (fun c => ?_) (fun c => ?_)⟩
  · have c' : ps.length < xs.length := by
      have := of_decide_eq_true c
      omega
    refine ⟨fun σ' H2 => Same H1 H2 ∧ σ' = [some (.ref xa), some (.ref d), some (.ref pa), none] ∧ ∃ ps2, H2 pa = some (.lst ps2) ∧ Lsl K H2 ps2 ((List.range (k + 1)).map (powL (0 :: qs))) ∧ ∀ x ∈ ps2, x ≠ .ref pa, ?_, ?_⟩
    · rintro σ' H2 ⟨t1, rfl, ps2, t2, t3, t4⟩
      exact ⟨qs.length - (k + 1), by omega, t1, rfl, k + 1, ps2, by omega, by omega, rfl, t2, t3, t4⟩
    · obtain ⟨y, ey, ly⟩ := np'.get' (i := k - 1) (by rw [List.length_map, List.length_range]; omega)
      have er : ((List.range k).map (powL (0 :: qs)))[k - 1]'(by rw [List.length_map, List.length_range]; omega) = powL (0 :: qs) (k - 1) := by
        rw [List.getElem_map, List.getElem_range]
      rw [er] at ly
      have ed4 := s4 _ _ ed
      have n4 := n1.same s4
      refine ⟨_, rfl, .inl ⟨rfl, _, SqL.of hp⟩, _, rfl, _, rfl, pa, ps, -1, y, rfl, rfl, SqL.of hp, ?_, _, rfl, y, _, powL (0 :: qs) (k - 1), 0 :: qs, L, B, L, B, rfl, ly, ⟨d, us, rfl, ed4, n4⟩, powL_len _ _, by rw [powL_len, List.length_cons]; omega, sL, lB, sL, lB, bq (k - 1) (by omega), z0, fun b H5 zs s5 nb hb mz => ?_⟩
      · show (ixN ps.length (-1)).bind _ = _
        have : ixN ps.length (-1) = some (ps.length - 1) := by
          unfold ixN
          rw [if_neg (by decide)]
          split
          · congr 1; omega
          · omega
        rw [this, lp]
        exact ey
      · have hp5 := s5 _ _ hp
        have nb' : b ≠ pa := fun z => by rw [z, hp] at nb; cases nb
        refine ⟨pa, ps, _, rfl, rfl, hp5, small1000 (by omega), ?_, rfl, ps ++ [.ref b], upd_same, ?_, ?_⟩
        · intro c o hc
          have nc : c ≠ pa := fun z => by rw [z, np] at hc; cases hc
          rw [upd_ne nc]
          exact s5 _ _ (s4 _ _ hc)
        · have bu : But pa H5 (upd H5 pa (.lst (ps ++ [V.ref b]))) := fun e o n h => by rw [upd_ne n]; exact h
          have L5 := np'.same s5
          have r1 : (List.range (k + 1)).map (powL (0 :: qs)) = (List.range k).map (powL (0 :: qs)) ++ [mulL (powL (0 :: qs) (k - 1)) (0 :: qs)] := by
            rw [List.range_succ, List.map_append]
            obtain ⟨j, rfl⟩ : ∃ j, k = j + 1 := ⟨k - 1, by omega⟩
            rfl
          rw [r1]
          refine Lsl.snoc ⟨L5.1, fun i x r h1 h2 => (L5.2 i x r h1 h2).butL hp5 (hne x (List.mem_of_getElem? h1)) bu⟩ ?_
          exact (Ls.butL ⟨b, zs, rfl, hb, mz⟩ hp5 (fun z => nb' (V.ref.inj z)) bu)
        · intro x hx
          rcases List.mem_append.mp hx with hx | hx
          · exact hne x hx
          · obtain rfl := List.mem_singleton.mp hx
            exact fun z => nb' (V.ref.inj z)
  · have c' : ¬ (ps.length : Int) < (xs.length : Nat) := of_decide_eq_false (Bool.eq_false_iff.mpr c)
    have kl : k = qs.length := by omega
    refine ⟨_, rfl, pa, rfl, ⟨_, SqL.of hp⟩, fun D nD => ?_⟩
    refine lc_rows (K := K) (walk_list (K := K) (a := pa) (xs := ps)) (tabL qs) (by rw [tabL_len]; omega) nD (by omega) (fun H' s => SqL.of (s _ _ hp)) ?_ (fun H5 zs s h m _ => q D H5 zs ((s2.trans s4).trans s) ((s2.trans s4).free nD) h m)
    rintro i r x H2 H3 k' hq s5 ⟨rfl, hx2⟩ hk
    obtain ⟨r0, er0, lr0⟩ := np'.get hx2
    have hi : i < k := by
      rcases Nat.lt_or_ge i k with c | c
      · exact c
      · rw [List.getElem?_eq_none (by rw [List.length_map, List.length_range]; exact c)] at er0; cases er0
    have e1 : powL (0 :: qs) i = r0 := by
      rw [List.getElem?_map, List.getElem?_range hi] at er0
      exact Option.some.inj er0
    have e2 : (powL (0 :: qs) i).drop 1 = r := by
      unfold tabL at hq
      rw [List.getElem?_map, List.getElem?_range (by omega)] at hq
      exact Option.some.inj hq
    obtain ⟨ra, rxs, rfl, hra, nra⟩ := lr0.same s5
    refine ⟨rfl, _, rfl, 1, rfl, ra, rxs, rfl, SqL.of hra, fun p np5 => ?_⟩
    rw [show cutV rxs (some 1) none = rxs.drop 1 from cut_drop rxs 1]
    refine hk p _ (new_same np5 _) np5 ⟨p, _, rfl, upd_same, ?_⟩
    rw [← e2, e1]
    exact (nra.drop 1).same (new_same np5 _)
end
end Kx
end
section
set_option maxHeartbeats 4000000
namespace Kx
open PySem PySem.Spec PyProof.Rows L2 RZ
/-! ### steps as series -/
def toT (n : Nat) (F : Ser) : List Rat := (List.range n).map fun i => F (i + 1)
def serS (qs : List Rat) : Ser := ser (0 :: qs)
theorem toT_len (n : Nat) (F : Ser) : (toT n F).length = n := by unfold toT; rw [List.length_map, List.length_range]
theorem toT_get {n i : Nat} {F : Ser} (h : i < n) : (toT n F)[i]? = some (F (i + 1)) := by
  unfold toT
  rw [List.getElem?_map, List.getElem?_range h]
  rfl
theorem toT_toL {n : Nat} (F : Ser) : F 0 :: toT n F = toL (n + 1) F := by
  unfold toT toL
  rw [List.range_succ_eq_map, List.map_cons, List.map_map]
  rfl
theorem toT_drop {n : Nat} (F : Ser) : toT n F = (toL (n + 1) F).drop 1 := by rw [← toT_toL]; rfl
theorem toT_eq {n : Nat} {F G : Ser} (h : EqTo (n + 1) F G) : toT n F = toT n G := List.map_congr_left fun i hi => h (i + 1) (by have := List.mem_range.mp hi; omega)
theorem toT_take {n m : Nat} (F : Ser) (h : m ≤ n) : (toT n F).take m = toT m F := by
  unfold toT
  rw [← List.map_take, List.take_range, Nat.min_eq_left h]
theorem serS_zero (qs : List Rat) : serS qs 0 = 0 := rfl
theorem serS_toT {n : Nat} {F : Ser} (h : F 0 = 0) : EqTo (n + 1) (serS (toT n F)) F := by
  unfold serS
  have := toT_toL (n := n) F
  rw [h] at this
  rw [this]
  exact ser_toL
theorem toT_serS (qs : List Rat) : toT qs.length (serS qs) = qs := by
  rw [toT_drop]
  unfold serS
  have : qs.length + 1 = (0 :: qs).length := rfl
  rw [this, toL_ser]
  rfl
/-- a row, or a step with its number at the place 0, behind a step -/
def bhdL (us rs : List Rat) : List Rat := toL us.length (cmpS (ser us) (serS rs))
def cmpL (qs rs : List Rat) : List Rat := toT qs.length (cmpS (serS qs) (serS rs))
theorem bhdL_len (us rs : List Rat) : (bhdL us rs).length = us.length := toL_len _ _
theorem cmpL_len (qs rs : List Rat) : (cmpL qs rs).length = qs.length := toT_len _ _
theorem pow_at {rs : List Rat} {j i : Nat} (h : i < rs.length) : ((powL (0 :: rs) j).drop 1).getD i 0 = powS (serS rs) (j + 1) (i + 1) := by
  have e : (0 :: rs) = toL (rs.length + 1) (serS rs) := (toL_ser (0 :: rs)).symm
  rw [List.getD_eq_getElem?_getD, List.getElem?_drop]
  rw [e, powL_toL, Nat.add_comm 1 i, toL_get (by omega)]
  rfl
theorem mix_at {qs rs : List Rat} (l : qs.length = rs.length) {i : Nat} (hi : i < rs.length) (q0 : Rat) : dotL qs ((tabL rs).map fun r => r.getD i 0) = cmpS (ser (q0 :: qs)) (serS rs) (i + 1) := by
  rw [← cmpS_to (serS_zero rs) (show i + 1 < rs.length + 1 by omega), sum_first]
  unfold dotL
  rw [List.length_map, tabL_len, l, Nat.min_self, dotT_sum]
  have z : ser (q0 :: qs) 0 * powS (serS rs) 0 (i + 1) = 0 := Rat.mul_zero _
  rw [z, Rat.zero_add]
  refine sum_congr fun j hj => ?_
  have e : ser ((tabL rs).map fun r => r.getD i 0) j = powS (serS rs) (j + 1) (i + 1) := by
    rw [← pow_at hi]
    show List.getD _ _ _ = _
    unfold tabL
    rw [List.getD_eq_getElem?_getD, List.getElem?_map, List.getElem?_map, List.getElem?_range hj]
    rfl
  rw [e]
  rfl
theorem mix_step {qs rs : List Rat} (l : qs.length = rs.length) : mixL rs.length qs (tabL rs) = cmpL qs rs := by
  unfold cmpL
  rw [l]
  exact List.map_congr_left fun i hi => mix_at l (List.mem_range.mp hi) 0
theorem mix_row {q0 : Rat} {qs rs : List Rat} (l : qs.length = rs.length) : q0 :: mixL rs.length qs (tabL rs) = bhdL (q0 :: qs) rs := by
  unfold bhdL
  rw [List.length_cons, ← toT_toL, cmpS_zero, l]
  congr 1
  exact List.map_congr_left fun i hi => mix_at l (List.mem_range.mp hi) q0
theorem cmpL_bhd (qs rs : List Rat) : bhdL (0 :: qs) rs = 0 :: cmpL qs rs := by
  unfold bhdL cmpL
  rw [List.length_cons, ← toT_toL, cmpS_zero]
  rfl
theorem dotL_d {L B M C : Nat} {us ws : List Rat} (h : AllD L B us) (h' : AllD M C ws) (l : min us.length ws.length ≤ 32) : Dq (L * M) (B + C + 32) (dotL us ws) := (dotT_z h h' _).mono (by omega)
theorem mixL_d {n L B M C : Nat} {qs : List Rat} {rows : List (List Rat)} (h : AllD L B qs) (h' : ∀ r ∈ rows, AllD M C r) (l : rows.length ≤ 32) : AllD (L * M) (B + C + 32) (mixL n qs rows) := by
  intro q hq
  obtain ⟨i, _, rfl⟩ := List.mem_map.mp hq
  refine dotL_d h (fun p hp => ?_) (by rw [List.length_map]; omega)
  obtain ⟨r, hr, rfl⟩ := List.mem_map.mp hp
  exact (h' r hr).getD i
end Kx
end
section
set_option maxHeartbeats 4000000
namespace Kx
open PySem PySem.Spec PyProof.Rows L2 RZ
/-! ### polynomials in one unknown: what holds at all numbers 0, 1, 2, .. holds at all fractions -/
def evP : List Rat → Rat → Rat
  | [], _ => 0
  | c :: cs, t => c + t * evP cs t
def Pl (p : Rat → Rat) : Prop := ∃ cs, ∀ t, p t = evP cs t
theorem Pl.const (c : Rat) : Pl fun _ => c := ⟨[c], fun t => by
  show c = c + t * 0
  rw [Rat.mul_zero, Rat.add_zero]⟩
theorem Pl.id : Pl fun t => t := ⟨[0, 1], fun t => by
  show t = 0 + t * (1 + t * 0)
  grind⟩
def adP : List Rat → List Rat → List Rat
  | [], ds => ds
  | cs, [] => cs
  | c :: cs, d :: ds => (c + d) :: adP cs ds
theorem adP_ev : ∀ (cs ds : List Rat) (t : Rat), evP (adP cs ds) t = evP cs t + evP ds t
  | [], ds, t => by
    show evP ds t = 0 + evP ds t
    rw [Rat.zero_add]
  | c :: cs, [], t => by
    show evP (c :: cs) t = evP (c :: cs) t + 0
    rw [Rat.add_zero]
  | c :: cs, d :: ds, t => by
    show c + d + t * evP (adP cs ds) t = c + t * evP cs t + (d + t * evP ds t)
    rw [adP_ev cs ds t]
    grind
theorem Pl.add {p q : Rat → Rat} (h : Pl p) (h' : Pl q) : Pl fun t => p t + q t := by
  obtain ⟨cs, e⟩ := h
  obtain ⟨ds, e'⟩ := h'
  exact ⟨adP cs ds, fun t => by
    show p t + q t = _
    rw [adP_ev, e, e']⟩
theorem Pl.smul (c : Rat) {p : Rat → Rat} (h : Pl p) : Pl fun t => c * p t := by
  obtain ⟨cs, e⟩ := h
  refine ⟨cs.map (c * ·), fun t => ?_⟩
  show c * p t = _
  rw [e]
  clear e
  induction cs with
  | nil => exact Rat.mul_zero c
  | cons d ds ih =>
    show c * (d + t * evP ds t) = c * d + t * evP (ds.map (c * ·)) t
    rw [← ih]
    grind
theorem Pl.mulX {p : Rat → Rat} (h : Pl p) : Pl fun t => t * p t := by
  obtain ⟨cs, e⟩ := h
  exact ⟨0 :: cs, fun t => by
    show t * p t = 0 + t * evP cs t
    rw [e, Rat.zero_add]⟩
theorem Pl.of_eq {p q : Rat → Rat} (h : Pl p) (e : ∀ t, q t = p t) : Pl q := by
  obtain ⟨cs, h⟩ := h
  exact ⟨cs, fun t => (e t).trans (h t)⟩
theorem Pl.mul {p q : Rat → Rat} (h : Pl p) (h' : Pl q) : Pl fun t => p t * q t := by
  obtain ⟨cs, e⟩ := h
  have : Pl fun t => evP cs t * q t := by
    clear e
    induction cs with
    | nil => exact (Pl.const 0).of_eq fun t => Rat.zero_mul _
    | cons c cs ih =>
      refine ((h'.smul c).add ih.mulX).of_eq fun t => ?_
      show (c + t * evP cs t) * q t = c * q t + t * (evP cs t * q t)
      grind
  refine this.of_eq fun t => ?_
  show p t * q t = evP cs t * q t
  rw [e]
theorem Pl.comp {p q : Rat → Rat} (h : Pl p) (h' : Pl q) : Pl fun t => p (q t) := by
  obtain ⟨cs, e⟩ := h
  have : Pl fun t => evP cs (q t) := by
    clear e
    induction cs with
    | nil => exact Pl.const 0
    | cons c cs ih => exact (Pl.const c).add (h'.mul ih)
  exact this.of_eq fun t => e _
theorem Pl.sum {f : Nat → Rat → Rat} : ∀ n, (∀ i, i < n → Pl (f i)) → Pl fun t => sumN (fun i => f i t) n
  | 0, _ => Pl.const 0
  | n + 1, h => (Pl.sum n fun i hi => h i (by omega)).add (h n (by omega))
/-- without the factor t - a -/
theorem evP_div (a : Rat) : ∀ cs : List Rat, ∃ ds, ds.length ≤ cs.length - 1 ∧ ∀ t, evP cs t = evP cs a + (t - a) * evP ds t
  | [] => ⟨[], Nat.le_refl _, fun t => by
    show (0 : Rat) = 0 + (t - a) * 0
    grind⟩
  | [c] => ⟨[], Nat.le_refl _, fun t => by
    show c + t * 0 = c + a * 0 + (t - a) * 0
    grind⟩
  | c :: d :: cs => by
    obtain ⟨ds, l, e⟩ := evP_div a (d :: cs)
    refine ⟨evP (d :: cs) a :: ds, ?_, fun t => ?_⟩
    · have l' : ds.length ≤ cs.length := l
      show ds.length + 1 ≤ cs.length + 1
      omega
    · show c + t * evP (d :: cs) t = c + a * evP (d :: cs) a + (t - a) * (evP (d :: cs) a + t * evP ds t)
      rw [e t]
      grind
theorem evP_zero : ∀ (n : Nat) (cs : List Rat) (m : Nat), cs.length ≤ n → (∀ k : Nat, m ≤ k → evP cs (k : Rat) = 0) → ∀ t, evP cs t = 0
  | 0, cs, _, l, _, t => by
    rw [List.eq_nil_of_length_eq_zero (Nat.le_zero.mp l)]
    rfl
  | n + 1, cs, m, l, h, t => by
    obtain ⟨ds, ld, e⟩ := evP_div (m : Rat) cs
    have z : ∀ k : Nat, m + 1 ≤ k → evP ds (k : Rat) = 0 := fun k hk => by
      have e1 := e (k : Rat)
      rw [h k (by omega), h m (Nat.le_refl _), Rat.zero_add] at e1
      have ne : (k : Rat) - (m : Rat) ≠ 0 := fun z => by
        have e2 : (k : Rat) = (m : Rat) := by grind
        have := Rat.natCast_inj.mp e2
        omega
      rcases Rat.mul_eq_zero.mp e1.symm with c | c
      · exact absurd c ne
      · exact c
    rw [e t, h m (Nat.le_refl _), evP_zero n ds (m + 1) (by omega) z t, Rat.mul_zero, Rat.add_zero]
theorem Pl.eq {p q : Rat → Rat} (hp : Pl p) (hq : Pl q) (h : ∀ n : Nat, p (n : Rat) = q (n : Rat)) (t : Rat) : p t = q t := by
  obtain ⟨cs, e⟩ := hp.add (hq.smul (-1))
  have := evP_zero cs.length cs 0 (Nat.le_refl _) (fun k _ => by
    rw [← e]
    show p (k : Rat) + -1 * q (k : Rat) = 0
    rw [h k]
    grind) t
  rw [← e] at this
  have this : p t + -1 * q t = 0 := this
  grind
/-! ### series whose numbers are polynomials -/
def PlS (F : Rat → Ser) : Prop := ∀ i, Pl fun t => F t i
theorem PlS.const (F : Ser) : PlS fun _ => F := fun i => Pl.const (F i)
theorem PlS.mul {F G : Rat → Ser} (h : PlS F) (h' : PlS G) : PlS fun t => mulS (F t) (G t) := fun k => Pl.sum (k + 1) fun i _ => (h i).mul (h' (k - i))
theorem PlS.pow {F : Rat → Ser} (h : PlS F) : ∀ k, PlS fun t => powS (F t) k
  | 0 => PlS.const oneS
  | k + 1 => (PlS.pow h k).mul h
theorem PlS.cmp {F G : Rat → Ser} (h : PlS F) (h' : PlS G) : PlS fun t => cmpS (F t) (G t) := fun n => Pl.sum (n + 1) fun j _ => (h j).mul (h'.pow j n)
/-! ### binomials -/
def bnR (t : Rat) : Nat → Rat
  | 0 => 1
  | k + 1 => bnR t k * ((t - ((k : Nat) : Rat)) / (((k + 1 : Nat)) : Rat))
theorem bn_pl : ∀ k, Pl fun t => bnR t k
  | 0 => Pl.const 1
  | k + 1 => (bn_pl k).mul (((Pl.id.add (Pl.const (-((k : Nat) : Rat)))).smul ((((k + 1 : Nat)) : Rat)⁻¹)).of_eq fun t => by
      rw [Rat.div_def]
      grind)
theorem nat_ne {k : Nat} (h : k ≠ 0) : ((k : Nat) : Rat) ≠ 0 := fun z => h (by
  have : ((k : Nat) : Rat) = ((0 : Nat) : Rat) := z
  exact Rat.natCast_inj.mp this)
theorem bn_step (t : Rat) (k : Nat) : bnR t (k + 1) * ((k + 1 : Nat) : Rat) = bnR t k * (t - (k : Rat)) := by
  show bnR t k * ((t - ((k : Nat) : Rat)) / (((k + 1 : Nat)) : Rat)) * _ = _
  rw [Rat.mul_assoc, Rat.div_mul_cancel (nat_ne (by omega))]
theorem bn_pascal (t : Rat) : ∀ k, bnR (t + 1) (k + 1) = bnR t (k + 1) + bnR t k
  | 0 => by
    show 1 * ((t + 1 - ((0 : Nat) : Rat)) / ((1 : Nat) : Rat)) = 1 * ((t - ((0 : Nat) : Rat)) / ((1 : Nat) : Rat)) + 1
    have e0 : ((0 : Nat) : Rat) = 0 := rfl
    have e1 : ((1 : Nat) : Rat) = 1 := rfl
    rw [e0, e1, Rat.div_def, Rat.div_def, show (1 : Rat)⁻¹ = 1 by decide +kernel]
    grind
  | k + 1 => by
    have n2 := nat_ne (show k + 2 ≠ 0 by omega)
    have ih := bn_pascal t k
    have h1 := bn_step (t + 1) (k + 1)
    have h2 := bn_step t (k + 1)
    have h3 := bn_step t k
    have c1 : ((k + 1 : Nat) : Rat) = (k : Rat) + 1 := Rat.natCast_add k 1
    have c2 : ((k + 1 + 1 : Nat) : Rat) = (k : Rat) + 2 := Rat.natCast_add k 2
    have c2' : ((k + 2 : Nat) : Rat) = (k : Rat) + 2 := Rat.natCast_add k 2
    rw [c1] at h1 h2 h3
    rw [c2] at h1 h2
    rw [c2'] at n2
    rw [ih] at h1
    have e : bnR (t + 1) (k + 1 + 1) * ((k : Rat) + 2) = (bnR t (k + 1 + 1) + bnR t (k + 1)) * ((k : Rat) + 2) := by grind
    have := congrArg (· * ((k : Rat) + 2)⁻¹) e
    simp only [Rat.mul_assoc, Rat.mul_inv_cancel _ n2, Rat.mul_one] at this
    exact this
theorem bn_zero : ∀ k, bnR 0 (k + 1) = 0
  | 0 => by
    show 1 * ((0 - ((0 : Nat) : Rat)) / ((1 : Nat) : Rat)) = 0
    decide +kernel
  | k + 1 => by
    show bnR 0 (k + 1) * _ = 0
    rw [bn_zero k, Rat.zero_mul]
end Kx
end
section
set_option maxHeartbeats 4000000
namespace Kx
open PySem PySem.Spec PyProof.Rows L2 RZ
/-! ### differences of a series along a slow step, and its powers by fractions -/
def dfS (f h : Ser) : Ser := fun n => cmpS h f n - h n
def dfK (f : Ser) : Nat → Ser
  | 0 => xS
  | k + 1 => dfS f (dfK f k)
def pwF (f : Ser) (t : Rat) (N : Nat) : Ser := fun i => sumN (fun k => bnR t k * dfK f k i) N
def itS (f : Ser) : Nat → Ser
  | 0 => xS
  | n + 1 => cmpS (itS f n) f
theorem pow_d1 {f : Ser} (f0 : f 0 = 0) (f1 : f 1 = 1) : ∀ k, powS f k k = 1
  | 0 => rfl
  | k + 1 => by
    show sumN (fun i => powS f k i * f (k + 1 - i)) k + powS f k k * f (k + 1 - k) + powS f k (k + 1) * f (k + 1 - (k + 1)) = 1
    rw [sum_zero fun i hi => by rw [powS_low f0 k i hi, Rat.zero_mul], pow_d1 f0 f1 k, show k + 1 - k = 1 by omega, show k + 1 - (k + 1) = 0 by omega, f0, f1]
    grind
theorem df_low {f : Ser} (f0 : f 0 = 0) (f1 : f 1 = 1) : ∀ k i, i ≤ k → dfK f k i = 0
  | 0, i, h => by
    obtain rfl : i = 0 := by omega
    rfl
  | k + 1, i, h => by
    show sumN (fun j => dfK f k j * powS f j i) i + dfK f k i * powS f i i - dfK f k i = 0
    rw [sum_zero fun j hj => by rw [df_low f0 f1 k j (by omega), Rat.zero_mul], pow_d1 f0 f1]
    grind
theorem df_zero {f : Ser} (f0 : f 0 = 0) : ∀ k, dfK f k 0 = 0
  | 0 => rfl
  | k + 1 => by
    show cmpS (dfK f k) f 0 - dfK f k 0 = 0
    rw [cmpS_zero]
    grind
theorem df_one {f : Ser} (f0 : f 0 = 0) (f1 : f 1 = 1) (k : Nat) : dfK f (k + 1) 1 = 0 := df_low f0 f1 (k + 1) 1 (by omega)
theorem cmp_sum (c : Nat → Rat) (g : Nat → Ser) (f : Ser) (N n : Nat) : cmpS (fun i => sumN (fun k => c k * g k i) N) f n = sumN (fun k => c k * cmpS (g k) f n) N := by
  have e1 : cmpS (fun i => sumN (fun k => c k * g k i) N) f n = sumN (fun j => sumN (fun k => c k * (g k j * powS f j n)) N) (n + 1) := sum_congr fun j _ => by
    rw [← sum_mulR]
    exact sum_congr fun k _ => Rat.mul_assoc _ _ _
  rw [e1, sum_swap]
  exact sum_congr fun k _ => sum_mul (c k) _ _
theorem pw_tele (f : Ser) (t : Rat) (i : Nat) : ∀ N, sumN (fun k => bnR t k * (dfK f (k + 1) i + dfK f k i)) (N + 1) = sumN (fun k => bnR (t + 1) k * dfK f k i) (N + 1) + bnR t N * dfK f (N + 1) i
  | 0 => by
    show (0 : Rat) + 1 * (dfK f 1 i + dfK f 0 i) = 0 + 1 * dfK f 0 i + 1 * dfK f 1 i
    grind
  | N + 1 => by
    show sumN _ (N + 1) + bnR t (N + 1) * (dfK f (N + 1 + 1) i + dfK f (N + 1) i) = sumN _ (N + 1) + bnR (t + 1) (N + 1) * dfK f (N + 1) i + _
    rw [pw_tele f t i N, bn_pascal]
    grind
theorem pw_up {f : Ser} (f0 : f 0 = 0) (f1 : f 1 = 1) (t : Rat) {N i : Nat} (hN : 1 ≤ N) (hi : i ≤ N) : cmpS (pwF f t N) f i = pwF f (t + 1) N i := by
  obtain ⟨N, rfl⟩ : ∃ m, N = m + 1 := ⟨N - 1, by omega⟩
  show cmpS (fun i => sumN (fun k => bnR t k * dfK f k i) (N + 1)) f i = _
  rw [cmp_sum]
  have e : sumN (fun k => bnR t k * cmpS (dfK f k) f i) (N + 1) = sumN (fun k => bnR t k * (dfK f (k + 1) i + dfK f k i)) (N + 1) := sum_congr fun k _ => by
    show _ = bnR t k * (cmpS (dfK f k) f i - dfK f k i + dfK f k i)
    grind
  rw [e, pw_tele, df_low f0 f1 (N + 1) i hi, Rat.mul_zero, Rat.add_zero]
  rfl
theorem pw_0 (f : Ser) {N : Nat} (hN : 1 ≤ N) : pwF f 0 N = xS := by
  obtain ⟨N, rfl⟩ : ∃ m, N = m + 1 := ⟨N - 1, by omega⟩
  funext i
  show sumN (fun k => bnR 0 k * dfK f k i) (N + 1) = _
  rw [sum_first, sum_zero fun k _ => by rw [bn_zero, Rat.zero_mul]]
  show 1 * xS i + 0 = xS i
  grind
theorem pw_00 {f : Ser} (f0 : f 0 = 0) (t : Rat) (N : Nat) : pwF f t N 0 = 0 := sum_zero fun k _ => by rw [df_zero f0, Rat.mul_zero]
theorem pw_01 {f : Ser} (f0 : f 0 = 0) (f1 : f 1 = 1) (t : Rat) {N : Nat} (hN : 1 ≤ N) : pwF f t N 1 = 1 := by
  obtain ⟨N, rfl⟩ : ∃ m, N = m + 1 := ⟨N - 1, by omega⟩
  show sumN (fun k => bnR t k * dfK f k 1) (N + 1) = _
  rw [sum_first, sum_zero fun k _ => by rw [df_one f0 f1, Rat.mul_zero]]
  show 1 * (1 : Rat) + 0 = 1
  grind
theorem it_00 {f : Ser} : ∀ n, itS f n 0 = 0
  | 0 => rfl
  | n + 1 => by
    show cmpS _ _ 0 = 0
    rw [cmpS_zero, it_00 n]
theorem pw_nat {f : Ser} (f0 : f 0 = 0) (f1 : f 1 = 1) {N : Nat} (hN : 1 ≤ N) : ∀ n : Nat, EqTo (N + 1) (pwF f ((n : Nat) : Rat) N) (itS f n)
  | 0 => fun i _ => by
    show pwF f ((0 : Nat) : Rat) N i = xS i
    rw [show ((0 : Nat) : Rat) = 0 from rfl, pw_0 f hN]
  | n + 1 => fun i hi => by
    rw [show ((n + 1 : Nat) : Rat) = (n : Rat) + 1 from Rat.natCast_add n 1, ← pw_up f0 f1 _ hN (by omega)]
    exact EqTo.cmp (pw_nat f0 f1 hN n) (fun _ _ => rfl) i hi
theorem pw_pl (f : Ser) (N : Nat) : PlS fun t => pwF f t N := fun i => Pl.sum N fun k _ => (bn_pl k).mul (Pl.const (dfK f k i))
theorem pw_cmp_nat {f : Ser} (f0 : f 0 = 0) (f1 : f 1 = 1) {N : Nat} (hN : 1 ≤ N) (s : Rat) : ∀ n : Nat, EqTo (N + 1) (cmpS (pwF f s N) (itS f n)) (pwF f (s + (n : Rat)) N)
  | 0 => fun i _ => by
    show cmpS _ xS i = _
    rw [cmpS_xr, show ((0 : Nat) : Rat) = 0 from rfl, Rat.add_zero]
  | n + 1 => fun i hi => by
    show cmpS _ (cmpS (itS f n) f) i = _
    rw [← cmpS_assoc (it_00 n) f0, EqTo.cmp (pw_cmp_nat f0 f1 hN s n) (fun _ _ => rfl) i hi, pw_up f0 f1 _ hN (by omega), show ((n + 1 : Nat) : Rat) = (n : Rat) + 1 from Rat.natCast_add n 1, Rat.add_assoc]
/-- f^s behind f^t -/
theorem pw_cmp {f : Ser} (f0 : f 0 = 0) (f1 : f 1 = 1) {N : Nat} (hN : 1 ≤ N) (s t : Rat) : EqTo (N + 1) (cmpS (pwF f s N) (pwF f t N)) (pwF f (s + t) N) := fun i hi =>
  Pl.eq (p := fun t => cmpS (pwF f s N) (pwF f t N) i) (q := fun t => pwF f (s + t) N i) ((PlS.const _).cmp (pw_pl f N) i) ((pw_pl f N i).comp ((Pl.const s).add Pl.id)) (fun n => by
    show cmpS _ _ i = _
    rw [EqTo.cmp (fun _ _ => rfl) (pw_nat f0 f1 hN n) i hi]
    exact pw_cmp_nat f0 f1 hN s n i hi) t
/-- f^s to the power t -/
theorem pw_of_pw {f : Ser} (f0 : f 0 = 0) (f1 : f 1 = 1) {N : Nat} (hN : 1 ≤ N) (s t : Rat) : EqTo (N + 1) (pwF (pwF f s N) t N) (pwF f (s * t) N) := fun i hi => by
  have g0 := pw_00 f0 s N
  have g1 := pw_01 f0 f1 s hN
  have nat : ∀ n : Nat, EqTo (N + 1) (itS (pwF f s N) n) (pwF f (s * (n : Rat)) N) := fun n => by
    induction n with
    | zero =>
      intro i _
      show xS i = _
      rw [show ((0 : Nat) : Rat) = 0 from rfl, Rat.mul_zero, pw_0 f hN]
    | succ n ih =>
      intro i hi
      show cmpS _ _ i = _
      rw [EqTo.cmp ih (fun _ _ => rfl) i hi, pw_cmp f0 f1 hN _ _ i hi, show ((n + 1 : Nat) : Rat) = (n : Rat) + 1 from Rat.natCast_add n 1, Rat.mul_add, Rat.mul_one]
  exact Pl.eq (p := fun t => pwF (pwF f s N) t N i) (q := fun t => pwF f (s * t) N i) (pw_pl _ N i) ((pw_pl f N i).comp (Pl.id.smul s)) (fun n => by
    show pwF _ _ N i = _
    rw [pw_nat g0 g1 hN n i hi]
    exact nat n i hi) t
/-- f^(-t) behind f^t -/
theorem pw_neg_cmp {f : Ser} (f0 : f 0 = 0) (f1 : f 1 = 1) {N : Nat} (hN : 1 ≤ N) (t : Rat) : EqTo (N + 1) (cmpS (pwF f (-t) N) (pwF f t N)) xS := fun i hi => by
  rw [pw_cmp f0 f1 hN _ _ i hi, show -t + t = 0 by grind, pw_0 f hN]
end Kx
end
section
set_option maxHeartbeats 4000000
namespace Kx
open PySem PySem.Spec PyProof.Rows L2 RZ
theorem reps {K : PySem.W.Frag} {H : Hp} {v : V} {q : Rat} (h : Nq K H v q) (n : Nat) : Nl K H (List.replicate n v) (List.replicate n q) := by
  refine ⟨by rw [List.length_replicate, List.length_replicate], fun i x r h1 h2 => ?_⟩
  rw [List.getElem?_replicate] at h1 h2
  by_cases c : i < n
  · rw [if_pos c] at h1 h2
    rw [← Option.some.inj h1, ← Option.some.inj h2]
    exact h
  · rw [if_neg c] at h1
    cases h1
theorem zeros {K : PySem.W.Frag} {H : Hp} {v : V} (h : Nq K H v 0) (n : Nat) : Nl K H (List.replicate n v) (List.replicate n 0) := reps h n
/-! ### three more errors -/
section
variable {P : Program} {w : World} {K : PySem.W.Frag} {mg : Str → Option Value} {base : Heap} {f C : Addr} {fd : FuncData}
theorem scI_NotSlow : FnScope ["self", "first"] ["self", "first"] (defScope C_NotSlow_init) := ⟨rfl, rfl, rfl, by decide +kernel, rfl, by decide +kernel, by decide +kernel⟩
theorem init_NotSlow (F : Fun K "__init__" "NotSlow.__init__" C_NotSlow_init f fd) (T : XC K C) (n0 : PySem.W.findIn K (.ref C) "code" = some none) (n1 : PySem.W.findIn K (.ref C) "first" = some none) : FnOk P w K mg base CX0 1 f fd ["self", "first"] (spIn C 1 (fs1 "NotSlow" "first")) := by
  refine F.ok scI_NotSlow (fun vs H Q E h => ?_) (fun cdv A outer s H vs Q E hr h => ?_)
  · obtain ⟨a, ws, rfl, l, _⟩ := h
    exact congrArg Nat.succ l
  obtain ⟨a, ws, rfl, l, ha, q⟩ := h
  obtain ⟨v, rfl⟩ : ∃ v, ws = [v] := by match ws, l with | [v], _ => exact ⟨v, rfl⟩
  refine ⟨_, pss_cons (ps_xst (pv 0) pe_str) (pss_one (ps_xst (pv 0) (pv 1))), ?_⟩
  refine ⟨_, rfl, a, _, rfl, T, n0, .inl ⟨ha, fun e H1 ne he h1 h2 h3 => ?_⟩⟩
  refine ⟨_, rfl, _, rfl, a, _, rfl, T, n1, .inr ⟨e, _, h1, h2, (by show 1 ≤ 900; decide), ?_⟩⟩
  exact q e _ ne he (by rw [upd_ne (Ne.symm ne)]; exact h1) (by rw [upd_same]; rfl) (fun b b1 b2 => by rw [upd_ne b2]; exact h3 b b1 b2)
end
/-! ### slow or not -/
def spSn (K : PySem.W.Frag) : Sp := fun vs H Q _ => ∃ n : Nat, vs = [.int (n : Nat)] ∧ 2 ≤ n ∧ n ≤ 24 ∧ GivesL K H Q (1 :: List.replicate (n - 1) 0)
def spCkS (K : PySem.W.Frag) (S CN : Addr) : Sp := fun vs H Q E => ∃ (v : V) (qs : List Rat), vs = [v] ∧ StAt K S H v qs ∧ (serS qs 1 = 1 → Q .non H) ∧ (serS qs 1 ≠ 1 → ∀ x0, Nq K H x0 (serS qs 1) → Air H CN (fs1 "NotSlow" "first" [x0]) E)
section
variable {P : Program} {w : World} {K : PySem.W.Frag} {mg : Str → Option Value} {base : Heap} {f C S CF CO CN o0 o1 : Addr} {fd : FuncData} {H : Hp}
theorem scSn : FnScope ["order"] ["order"] (defScope F_still_numbers) := ⟨rfl, rfl, rfl, by decide +kernel, rfl, by decide +kernel, by decide +kernel⟩
theorem ok_stilln (G : Fun K "still_numbers" "still_numbers" F_still_numbers f fd) (k1 : KP K o1 1 1) (k0 : KP K o0 0 1) (mZ : mg "ZERO" = some (.ref o0)) (mO : mg "ONE" = some (.ref o1)) : FnOk P w K mg base CX0 1 f fd ["order"] (spSn K) := by
  refine G.ok scSn (fun vs H Q E h => ?_) (fun cdv A outer s H vs Q E hr h => ?_)
  · obtain ⟨n, rfl, _⟩ := h
    rfl
  obtain ⟨n, rfl, h2, h24, q⟩ := h
  refine ⟨_, pss_one (ps_ret (pe_op op_cat (pe_lst (pa_cons (C8.pe_gc (v := .ref o1) rfl ⟨_, mO, rfl⟩) pa_nil)) (pe_op op_rep (pe_lst (pa_cons (C8.pe_gc (v := .ref o0) rfl ⟨_, mZ, rfl⟩) pa_nil)) (pe_op op_sub (pv 0) pe_int)))), ?_⟩
  refine ⟨(by show 1 ≤ sizeLine; decide), fun a na => ⟨(by show 1 ≤ sizeLine; decide), fun b nb => ⟨_, rfl, (n : Int), 1, rfl, rfl, b, ((n : Int) - 1), [.ref o0], rfl, rfl, upd_same, by omega, by omega, (by show 1 * _ ≤ sizeLine; exact Nat.le_of_lt (small1000 (by omega))), fun c nc => ?_⟩⟩⟩
  have rep : (List.replicate ((n : Int) - 1).toNat [V.ref o0]).flatten = List.replicate (n - 1) (.ref o0) := by
    rw [List.flatten_replicate_singleton]
    congr 1
    omega
  rw [rep]
  refine ⟨a, c, _, _, rfl, rfl, new_same nc _ _ _ (new_same nb _ _ _ upd_same), upd_same, Nat.le_of_lt (small1000 (by rw [List.length_replicate]; show 1 + _ ≤ _; omega)), fun d nd => ?_⟩
  refine q d _ _ ((new_same na _).trans ((new_same nb _).trans ((new_same nc _).trans (new_same nd _)))) ?_ upd_same ?_
  · exact (new_same na (.lst [V.ref o1])).free ((new_same nb _).free ((new_same nc _).free nd))
  · exact Nl.cons ⟨o1, rfl, .inr k1⟩ (zeros ⟨o0, rfl, .inr k0⟩ _)
theorem StAt.ld {v : V} {qs : List Rat} (h : StAt K S H v qs) : ∃ (x dx : Addr) (fs : List (Str × V)) (x0 : V), v = .ref x ∧ H x = some (.ins S dx fs) ∧ fs.lookup ("lead" : Str) = some x0 ∧ Nq K H x0 (serS qs 1) ∧ fs.lookup ("numbers" : Str) = none ∧ fs.lookup ("power" : Str) = none := by
  obtain ⟨x, dx, b, xs, x0, fv, sv, e, h1, h2, h3, h4, h5, h6⟩ := h
  obtain ⟨y0, e0, n0⟩ := h3.get' (i := 0) (by omega)
  rw [h4] at e0
  obtain rfl := Option.some.inj e0
  have g0 : serS qs 1 = qs[0] := by
    show qs.getD 0 0 = _
    rw [List.getD_eq_getElem?_getD, List.getElem?_eq_getElem (by omega)]
    rfl
  exact ⟨x, dx, _, x0, e, h1, rfl, by rw [g0]; exact n0, rfl, rfl⟩
theorem StAt.le {v : V} {qs : List Rat} (h : StAt K S H v qs) : 2 ≤ qs.length ∧ qs.length ≤ 24 := by
  obtain ⟨_, _, _, _, _, _, _, _, _, _, _, _, h5, h6⟩ := h
  exact ⟨h5, h6⟩
theorem scCkS : FnScope ["step"] ["step"] (defScope F_check_slow) := ⟨rfl, rfl, rfl, by decide +kernel, rfl, by decide +kernel, by decide +kernel⟩
theorem ok_cslow (G : Fun K "check_slow" "check_slow" F_check_slow f fd) (k : StepK P w K mg base C S CF CO) (k1 : KP K o1 1 1) (mO : mg "ONE" = some (.ref o1)) (Z : ErrC P w K mg base "NotSlow" 1 (fs1 "NotSlow" "first") CN) : FnOk P w K mg base (L2.CX P w) 3 f fd ["step"] (spCkS K S CN) := by
  refine G.okX scCkS (fun vs H Q E h => ?_) (fun cdv A outer s H vs Q E hr h => ?_)
  · obtain ⟨v, qs, rfl, _⟩ := h
    rfl
  obtain ⟨v, qs, rfl, hX, h1, h2⟩ := h
  obtain ⟨x, dx, fs, x0, rfl, hx, fl, nq, _⟩ := hX.ld
  obtain ⟨fI, fdI, ps, i1, i2, i3, i4⟩ := Z.i
  refine ⟨_, pss_one (ps_if (pt_cmpR (op_neD hr.units) (pe_fld (pv 0) rfl) (C8.pe_gc (v := .ref o1) rfl ⟨_, mO, rfl⟩) (nomark _)) (pss_one (ps_raise rfl (takes_of rfl rfl rfl rfl) (pmk_xo Z.T Z.ty i1 i2 i3 (hr.mono (by decide)) i4 pass0 rfl Z.m (pa_cons (pe_fld (pv 0) rfl) pa_nil)))) pss_nil), ?_⟩
  refine ⟨_, rfl, x, S, dx, _, _, rfl, hx, k.c, k.nA _ (by simp [stN]), fl, tupQ (serS qs 1), tupQ 1, nq.dp, k1.dp _, rfl, rfl, _, rfl, ?_⟩
  rw [eqv_num]
  by_cases c : serS qs 1 = 1
  · rw [decide_eq_true c]
    exact iteF (h1 c)
  · rw [decide_eq_false c]
    exact iteT ⟨_, rfl, x, S, dx, _, _, rfl, hx, k.c, k.nA _ (by simp [stN]), fl, (by show 1 ≤ 1000; decide), fun a na => air_of (C := CN) (n := 1) (ws := [x0]) na rfl (h2 c x0 nq)⟩
end
end Kx
end
section
set_option maxHeartbeats 4000000
namespace Kx
open PySem PySem.Spec PyProof.Rows L2 RZ
/-! ### a list, D of it, D of D of it and so on -/
def dsL (n : Nat) (rows : List (List Rat)) (r0 : List Rat) : Nat → List Rat
  | 0 => r0
  | k + 1 => (mixL n (dsL n rows r0 k) rows).zipWith (· - ·) (dsL n rows r0 k)
theorem dsL_len {n : Nat} {rows : List (List Rat)} {r0 : List Rat} (h : r0.length = n) : ∀ k, (dsL n rows r0 k).length = n
  | 0 => h
  | k + 1 => by
    show (List.zipWith _ _ _).length = n
    rw [List.length_zipWith, mixL_len, dsL_len h k, Nat.min_self]
def zr (qs : List Rat) : Bool := qs.all fun q => decide (q = 0)
def spDfs (K : PySem.W.Frag) : Sp := fun vs H Q _ => ∃ (x y : V) (r0 : List Rat) (rows : List (List Rat)) (n L B M C N : Nat), vs = [x, y] ∧ Ls K H x r0 ∧ Lss K H y rows ∧ r0.length = n ∧ 1 ≤ rows.length ∧ rows.length ≤ 24 ∧ (∀ r ∈ rows, r.length = n) ∧ n ≤ 24 ∧ SmL L ∧ B ≤ 100000 ∧ SmL M ∧ C ≤ 100000 ∧
  (∀ r ∈ rows, AllD M C r) ∧ (∀ k, k ≤ N → AllD L B (dsL n rows r0 k)) ∧ (∀ k, k < N → AllO (mixL n (dsL n rows r0 k) rows)) ∧ N ≤ 24 ∧ zr (dsL n rows r0 N) = true ∧
  ∀ N', N' ≤ N → zr (dsL n rows r0 N') = true → GivesLL K H Q ((List.range (N' + 1)).map (dsL n rows r0))
abbrev nDf : List Str := ["numbers", "lines", "found"]
def bnL (t : Rat) (m : Nat) : List Rat := (List.range m).map (bnR t)
theorem bnL_len (t : Rat) (m : Nat) : (bnL t m).length = m := by unfold bnL; rw [List.length_map, List.length_range]
/-- what the binomials of t want up to m -/
structure BnOk (t : Rat) (m : Nat) : Prop where
  b : ∀ k, k < m → Ok (bnR t k)
  d : ∀ k, k + 1 < m → Ok (t - (k : Rat))
  q : ∀ k, k + 1 < m → Ok ((t - (k : Rat)) / ((k + 1 : Nat) : Rat))
def spBns (K : PySem.W.Frag) : Sp := fun vs H Q _ => ∃ (x : V) (t : Rat) (m : Nat), vs = [x, .int (m : Nat)] ∧ Nq K H x t ∧ 1 ≤ m ∧ m ≤ 30 ∧ Ok t ∧ BnOk t m ∧ GivesL K H Q (bnL t m)
abbrev nBn : List Str := ["t", "many", "found", "j"]
def spBpw (K : PySem.W.Frag) : Sp := fun vs H Q _ => ∃ (x y : V) (t : Rat) (rows : List (List Rat)) (n L B M C : Nat), vs = [x, y] ∧ Lss K H x rows ∧ Nq K H y t ∧ 1 ≤ rows.length ∧ rows.length ≤ 30 ∧ n ≤ 30 ∧ (∀ r ∈ rows, r.length = n) ∧ Ok t ∧ BnOk t rows.length ∧ SmL L ∧ B ≤ 100000 ∧ SmL M ∧ C ≤ 100000 ∧ AllD L B (bnL t rows.length) ∧ (∀ r ∈ rows, AllD M C r) ∧ GivesL K H Q (mixL n (bnL t rows.length) rows)
theorem nat_num (k : Nat) : ((k : Nat) : Rat).num = (k : Int) ∧ ((k : Nat) : Rat).den = 1 := ⟨rfl, rfl⟩
theorem Nq.nat {K : PySem.W.Frag} {H : Hp} {t : Addr} {k : Nat} (h : H t = some (.tup [.int (k : Nat), .int 1])) : Nq K H (.ref t) ((k : Nat) : Rat) := ⟨t, rfl, .inl h⟩
theorem Ok.nat {k : Nat} (h : k < 2 ^ 30) : Ok ((k : Nat) : Rat) := ⟨by
  show ((k : Nat) : Int).natAbs < _
  rw [Int.natAbs_natCast]
  exact Nat.lt_of_lt_of_le h (Nat.pow_le_pow_right (by decide) (by decide)), by
  show 1 < _
  exact Nat.lt_of_lt_of_le (show 1 < 2 ^ 1 by decide) (Nat.pow_le_pow_right (by decide) (by decide))⟩
section
variable {P : Program} {w : World} {K : PySem.W.Frag} {mg : Str → Option Value} {base : Heap} {f C S CF CO CN o0 o1 : Addr} {fd : FuncData} {H : Hp}
theorem scDf : FnScope nDf ["numbers", "lines"] (defScope F_differences) := ⟨rfl, rfl, rfl, by decide +kernel, rfl, by decide +kernel, by decide +kernel⟩
theorem last_ix {ps : List V} {k : Nat} (lp : ps.length = k + 1) {y : V} (ey : ps[k]? = some y) : (ixN ps.length (-1)).bind (fun i => ps[i]?) = some y := by
  have : ixN ps.length (-1) = some (ps.length - 1) := by
    unfold ixN
    rw [if_neg (by decide)]
    split
    · congr 1; omega
    · omega
  rw [this, lp]
  exact ey
theorem ok_dfs (F : Fun K "differences" "differences" F_differences f fd) (UZ : Use P w K mg base CX0 1 "is_zero" ["numbers"] (spIz K) []) (UM : Use P w K mg base CX0 3 "mixed" ["factors", "lists"] (spMix K) []) (UD : Use P w K mg base CX0 2 "differences_of" ["one", "other"] (spTwoL K (· - ·)) []) : FnOk P w K mg base CX0 4 f fd ["numbers", "lines"] (spDfs K) := by
  refine F.ok scDf (fun vs H Q E h => ?_) (fun cdv A outer s H vs Q E hr h => ?_)
  · obtain ⟨x, y, r0, rows, n, L, B, M, C, N, rfl, _⟩ := h
    rfl
  obtain ⟨x, y, r0, rows, n, L, B, M, C, N, rfl, lx, ly, ln, r1, r24, rn, n24, sL, lB, sM, lC, zm, zd, om, N24, zN, q⟩ := h
  have hr1 := hr.mono (show 1 ≤ 3 by decide)
  have hr2 := hr.mono (show 2 ≤ 3 by decide)
  refine ⟨_, pss_cons (ps_set (i := 2) scDf.nd rfl (Or.inl rfl) (pe_lst (pa_cons (pv 0) pa_nil)))
    (pss_cons (ps_while PassesOwn.never (pt_not (pt_val (pe_use UZ hr1 rfl pass0 (pa_cons (pe_ix ix_list (pv 2) (pe_un un_neg pe_int) (fun _ _ => rfl)) pa_nil))))
      (pss_one (ps_expr (pe_bm PySem.F.plainAttrs_list PySem.F.slot_list_append PySem.F.type_list_append mt_append (pv 2) (pa_cons (pe_use UD hr2 rfl pass0 (pa_cons (pe_use UM hr rfl pass0 (pa_cons (pe_ix ix_list (pv 2) (pe_un un_neg pe_int) (fun _ _ => rfl)) (pa_cons (pv 1) pa_nil))) (pa_cons (pe_ix ix_list (pv 2) (pe_un un_neg pe_int) (fun _ _ => rfl)) pa_nil))) pa_nil)))))
    (pss_one (ps_ret (pv 2)))), ?_⟩
  obtain ⟨xa, xs, rfl, hx, nx⟩ := lx
  refine ⟨_, rfl, (by show 1 ≤ sizeLine; decide), fun pa np => ?_⟩
  have s0 := new_same np (.lst [V.ref xa])
  have nxp : xa ≠ pa := fun z => by rw [z, np] at hx; cases hx
  refine ⟨fun m σ H' => Same H H' ∧ σ = [some (.ref xa), some y, some (.ref pa)] ∧ ∃ k ps, k ≤ N ∧ m = N - k ∧ H' pa = some (.lst ps) ∧ Lsl K H' ps ((List.range (k + 1)).map (dsL n rows r0)) ∧ ∀ x ∈ ps, x ≠ .ref pa, ⟨_, s0, rfl, 0, [.ref xa], Nat.zero_le _, rfl, upd_same, ⟨rfl, ?_⟩, ?_⟩, ?_⟩
  · intro i x r h1 h2
    match i, h1, h2 with
    | 0, h1, h2 =>
      obtain rfl : V.ref xa = x := Option.some.inj h1
      obtain rfl : dsL n rows r0 0 = r := Option.some.inj h2
      exact ⟨xa, xs, rfl, s0 _ _ hx, nx.same s0⟩
    | _ + 1, h1, _ => simp at h1
  · intro x hx e
    obtain rfl := List.mem_singleton.mp hx
    exact nxp (V.ref.inj e)
  rintro m σ H' ⟨s1, rfl, k, ps, kN, rfl, hp, np', hne⟩
  have lp : ps.length = k + 1 := by rw [np'.1, List.length_map, List.length_range]
  obtain ⟨z, ez, lz⟩ := np'.get' (i := k) (by rw [List.length_map, List.length_range]; omega)
  have er : ((List.range (k + 1)).map (dsL n rows r0))[k]'(by rw [List.length_map, List.length_range]; omega) = dsL n rows r0 k := by
    rw [List.getElem_map, List.getElem_range]
  rw [er] at lz
  have dl := dsL_len (rows := rows) ln k
  refine ⟨_, rfl, _, rfl, pa, ps, -1, z, rfl, rfl, SqL.of hp, last_ix lp ez, z, dsL n rows r0 k, rfl, lz, by omega, fun H2 s2 => ?_⟩
  refine ⟨_, rfl, ?_⟩
  have hp2 := s2 _ _ hp
  have np2 := np'.same s2
  show if (!zr (dsL n rows r0 k)) = true then _ else _
  cases c : zr (dsL n rows r0 k) with
  | false =>
    rw [if_pos (show (!false) = true from rfl)]
    have kl : k < N := by
      rcases Nat.lt_or_ge k N with h | h
      · exact h
      · have : k = N := by omega
        rw [this, zN] at c
        cases c
    refine ⟨fun σ' H3 => Same H H3 ∧ σ' = [some (.ref xa), some y, some (.ref pa)] ∧ ∃ ps2, H3 pa = some (.lst ps2) ∧ Lsl K H3 ps2 ((List.range (k + 1 + 1)).map (dsL n rows r0)) ∧ ∀ x ∈ ps2, x ≠ .ref pa, ?_, ?_⟩
    · rintro σ' H3 ⟨t1, rfl, ps2, t2, t3, t4⟩
      exact ⟨N - (k + 1), by omega, t1, rfl, k + 1, ps2, kl, rfl, t2, t3, t4⟩
    refine ⟨_, rfl, .inl ⟨rfl, _, SqL.of hp2⟩, _, rfl, _, rfl, pa, ps, -1, z, rfl, rfl, SqL.of hp2, last_ix lp ez, _, rfl, z, y, dsL n rows r0 k, rows, n, L, B, M, C, rfl, lz.same s2, (ly.same s1).same s2, r1, by omega, by omega, rn, sL, lB, sM, lC, zd k kN, zm, fun b H3 zs s3 nb hb mb => ?_⟩
    have hp3 := s3 _ _ hp2
    refine ⟨_, rfl, _, rfl, pa, ps, -1, z, rfl, rfl, SqL.of hp3, last_ix lp ez, .ref b, z, _, dsL n rows r0 k, rfl, ⟨b, zs, rfl, hb, mb⟩, (lz.same s2).same s3, by rw [mixL_len, dl], by rw [mixL_len]; omega, om k kl, (zd k kN).ok sL lB, fun b2 H4 ws s4 nb2 hb2 mb2 => ?_⟩
    have hp4 := s4 _ _ hp3
    have np4 := (np2.same s3).same s4
    have nb' : b2 ≠ pa := fun z => by rw [z, hp3] at nb2; cases nb2
    refine ⟨pa, ps, _, rfl, rfl, hp4, small1000 (by omega), ?_, rfl, ps ++ [.ref b2], upd_same, ?_, ?_⟩
    · intro c o hc
      have nc : c ≠ pa := fun z => by rw [z, np] at hc; cases hc
      rw [upd_ne nc]
      exact s4 _ _ (s3 _ _ (s2 _ _ (s1 _ _ hc)))
    · have bu : But pa H4 (upd H4 pa (.lst (ps ++ [V.ref b2]))) := fun e o n h => by rw [upd_ne n]; exact h
      have r2 : (List.range (k + 1 + 1)).map (dsL n rows r0) = (List.range (k + 1)).map (dsL n rows r0) ++ [(mixL n (dsL n rows r0 k) rows).zipWith (· - ·) (dsL n rows r0 k)] := by
        rw [List.range_succ, List.map_append]
        rfl
      rw [r2]
      refine Lsl.snoc ⟨np4.1, fun i x r h1 h2 => (np4.2 i x r h1 h2).butL hp4 (hne x (List.mem_of_getElem? h1)) bu⟩ ?_
      exact (Ls.butL ⟨b2, ws, rfl, hb2, mb2⟩ hp4 (fun z => nb' (V.ref.inj z)) bu)
    · intro x hx
      rcases List.mem_append.mp hx with hx | hx
      · exact hne x hx
      · obtain rfl := List.mem_singleton.mp hx
        exact fun z => nb' (V.ref.inj z)
  | true =>
    rw [if_neg (show ¬ (!true) = true by decide)]
    exact ⟨_, rfl, q k kN c pa H2 ps (s1.trans s2) np hp2 np2⟩
theorem scBn : FnScope nBn ["t", "many"] (defScope F_binomials) := ⟨rfl, rfl, rfl, by decide +kernel, rfl, by decide +kernel, by decide +kernel⟩
theorem ok_bns (F : Fun K "binomials" "binomials" F_binomials f fd) (k1 : KP K o1 1 1) (mO : mg "ONE" = some (.ref o1)) (mr : mg "range" = none) (UP : Use P w K mg base CX0 2 "product_of" ["one", "other"] (spTwoQ K (· * ·)) []) (UQ : Use P w K mg base CX0 2 "quotient_of" ["one", "other"] (spDivQ K) []) (UD : Use P w K mg base CX0 2 "difference_of" ["one", "other"] (spTwoQ K (· - ·)) []) : FnOk P w K mg base CX0 3 f fd ["t", "many"] (spBns K) := by
  refine F.ok scBn (fun vs H Q E h => ?_) (fun cdv A outer s H vs Q E hr h => ?_)
  · obtain ⟨x, t, m, rfl, _⟩ := h
    rfl
  obtain ⟨x, t, m, rfl, hx, m1, m30, ot, bo, q⟩ := h
  refine ⟨_, pss_cons (ps_set (i := 2) scBn.nd rfl (Or.inl rfl) (pe_lst (pa_cons (C8.pe_gc (v := .ref o1) rfl ⟨_, mO, rfl⟩) pa_nil)))
    (pss_cons (ps_for PassesOwn.never rfl (pi_range2 rfl mr (pa_cons pe_int (pa_cons (pv 1) pa_nil))) (pg_name (i := 3) scBn.nd rfl (Or.inl rfl))
      (pss_one (ps_expr (pe_bm PySem.F.plainAttrs_list PySem.F.slot_list_append PySem.F.type_list_append mt_append (pv 2) (pa_cons (pe_use UP hr rfl pass0 (pa_cons (pe_ix ix_list (pv 2) (pe_un un_neg pe_int) (fun _ _ => rfl)) (pa_cons (pe_use UQ hr rfl pass0 (pa_cons (pe_use UD hr rfl pass0 (pa_cons (pv 0) (pa_cons (pe_tup (pa_cons (pe_op op_sub (pv 3) pe_int) (pa_cons pe_int pa_nil))) pa_nil))) (pa_cons (pe_tup (pa_cons (pv 3) (pa_cons pe_int pa_nil))) pa_nil))) pa_nil))) pa_nil)))))
    (pss_one (ps_ret (pv 2)))), ?_⟩
  refine ⟨(by show 1 ≤ sizeLine; decide), fun pa np => ?_⟩
  have s0 := new_same np (.lst [V.ref o1])
  refine ⟨_, rfl, 1, (m : Int), rfl, ⟨by omega, by omega, by omega, by omega⟩, for_range (lo := 1) (n := ((m : Int) - 1).toNat) (fun i σ H' => Same H H' ∧ (∃ v3, σ = [some x, some (.int (m : Nat)), some (.ref pa), v3]) ∧ ∃ zs, H' pa = some (.lst zs) ∧ Nl K H' zs (bnL t (i + 1))) ⟨s0, ⟨none, rfl⟩, [.ref o1], upd_same, ?_⟩ ?_ ?_⟩
  · exact Nl.cons ⟨o1, rfl, .inr k1⟩ Nl.nil
  · rintro i σ H1 hi ⟨s1, ⟨v3, rfl⟩, zs, hz, nz⟩
    have im : i + 1 < m := by omega
    have zl : zs.length = i + 1 := by rw [nz.1, bnL_len]
    obtain ⟨z, ez, nzz⟩ := nz.get' (i := i) (by rw [bnL_len]; omega)
    have er : (bnL t (i + 1))[i]'(by rw [bnL_len]; omega) = bnR t i := by
      unfold bnL
      rw [List.getElem_map, List.getElem_range]
    rw [er] at nzz
    refine ⟨_, rfl, .inl ⟨rfl, _, SqL.of hz⟩, _, rfl, _, rfl, pa, zs, -1, z, rfl, rfl, SqL.of hz, last_ix zl ez, _, rfl, _, rfl, 1 + (i : Int), 1, rfl, rfl, (by show 2 ≤ sizeLine; decide), fun t1 nt1 => ?_⟩
    have e1 : (1 + (i : Int) - 1) = ((i : Nat) : Int) := by omega
    have g1 := new_same nt1 (.tup [.int (1 + (i : Int) - 1), .int 1])
    have n1 : Nq K (upd H1 t1 (.tup [.int (1 + (i : Int) - 1), .int 1])) (.ref t1) ((i : Nat) : Rat) := Nq.nat (by rw [upd_same, e1])
    generalize upd H1 t1 (.tup [.int (1 + (i : Int) - 1), .int 1]) = H2 at g1 n1
    refine ⟨x, .ref t1, t, (i : Rat), rfl, (hx.same s1).same g1, n1, ot, Ok.nat (Nat.lt_of_lt_of_le (show i < 30 by omega) (by decide)), fun p2 H3 s3 nn3 e3 => ?_⟩
    refine ⟨_, rfl, (by show 2 ≤ sizeLine; decide), fun t2 nt2 => ?_⟩
    have g2 := new_same nt2 (.tup [.int (1 + (i : Int)), .int 1])
    have e2 : (1 + (i : Int)) = ((i + 1 : Nat) : Int) := by omega
    have n2 : Nq K (upd H3 t2 (.tup [.int (1 + (i : Int)), .int 1])) (.ref t2) ((i + 1 : Nat) : Rat) := Nq.nat (by rw [upd_same, e2])
    have e3' := g2 _ _ e3
    generalize upd H3 t2 (.tup [.int (1 + (i : Int)), .int 1]) = H4 at g2 n2 e3'
    refine ⟨.ref p2, .ref t2, t - (i : Rat), ((i + 1 : Nat) : Rat), rfl, .at e3', n2, bo.d i im, Ok.nat (Nat.lt_of_lt_of_le (show i + 1 < 30 by omega) (by decide)), nat_ne (by omega), ?_, fun p3 H5 s5 nn5 e5 => ?_⟩
    · show ((i + 1 : Nat) : Int).natAbs < _
      rw [Int.natAbs_natCast]
      exact Nat.lt_of_lt_of_le (show i + 1 < 2 ^ 5 by omega) (Nat.pow_le_pow_right (by decide) (by decide))
    have gA := g1.trans (s3.trans (g2.trans s5))
    refine ⟨z, .ref p3, bnR t i, (t - (i : Rat)) / ((i + 1 : Nat) : Rat), rfl, nzz.same gA, .at e5, bo.b i (by omega), bo.q i im, fun p4 H6 s6 nn6 e6 => ?_⟩
    have gB := gA.trans s6
    have hz6 := gB _ _ hz
    refine ⟨pa, zs, _, rfl, rfl, hz6, small1000 (by omega), ?_, ⟨_, rfl⟩, zs ++ [.ref p4], upd_same, ?_⟩
    · intro c o hc
      have nc : c ≠ pa := fun z => by rw [z, np] at hc; cases hc
      rw [upd_ne nc]
      exact gB _ _ (s1 _ _ hc)
    · have nb : Nl K H6 (zs ++ [.ref p4]) (bnL t (i + 1 + 1)) := by
        have : bnL t (i + 1 + 1) = bnL t (i + 1) ++ [bnR t (i + 1)] := by
          unfold bnL
          rw [List.range_succ, List.map_append]
          rfl
        rw [this]
        exact (nz.same gB).snoc (.at e6)
      exact ⟨nb.1, fun j x r h1 h2 => (nb.2 j x r h1 h2).butL hz6 (fun b o n h => by rw [upd_ne n]; exact h)⟩
  · rintro σ H1 ⟨s1, ⟨v3, rfl⟩, zs, hz, nz⟩
    rw [show ((m : Int) - 1).toNat + 1 = m by omega] at nz
    exact ⟨_, rfl, q pa H1 zs s1 np hz nz⟩
theorem scBpw : FnScope ["found", "t"] ["found", "t"] (defScope F_binomial_power) := ⟨rfl, rfl, rfl, by decide +kernel, rfl, by decide +kernel, by decide +kernel⟩
theorem ok_bpw (F : Fun K "binomial_power" "binomial_power" F_binomial_power f fd) (mn : mg "len" = none) (UM : Use P w K mg base CX0 3 "mixed" ["factors", "lists"] (spMix K) []) (UB : Use P w K mg base CX0 3 "binomials" ["t", "many"] (spBns K) []) : FnOk P w K mg base CX0 4 f fd ["found", "t"] (spBpw K) := by
  refine F.ok scBpw (fun vs H Q E h => ?_) (fun cdv A outer s H vs Q E hr h => ?_)
  · obtain ⟨x, y, t, rows, n, L, B, M, C, rfl, _⟩ := h
    rfl
  obtain ⟨x, y, t, rows, n, L, B, M, C, rfl, lx, hy, r1, r30, n30, rn, ot, bo, sL, lB, sM, lC, zb, zr, q⟩ := h
  refine ⟨_, pss_one (ps_ret (pe_use UM hr rfl pass0 (pa_cons (pe_use UB hr rfl pass0 (pa_cons (pv 1) (pa_cons (pe_callB call_len_seq rfl mn PySem.boot_len (pa_cons (pv 0) pa_nil)) pa_nil))) (pa_cons (pv 0) pa_nil)))), ?_⟩
  obtain ⟨xa, xs, rfl, hx, nx⟩ := id lx
  refine ⟨_, rfl, _, rfl, xa, xs, rfl, .inl (SqL.of hx), y, t, rows.length, ?_, hy, r1, r30, ot, bo, fun b H1 zs s1 nb hb mb => ?_⟩
  · rw [nx.1]
    rfl
  refine ⟨_, rfl, .ref b, _, bnL t rows.length, rows, n, L, B, M, C, rfl, ⟨b, zs, rfl, hb, mb⟩, lx.same s1, r1, by omega, n30, rn, sL, lB, sM, lC, zb, zr, fun d H2 ys s2 nd hd md => q d H2 ys (s1.trans s2) (s1.free nd) hd md⟩
end
end Kx
end
section
set_option maxHeartbeats 4000000
namespace Kx
open PySem PySem.Spec PyProof.Rows L2 RZ
/-! ### the differences of a step and its power by a fraction, as lists -/
def dfL (qs : List Rat) (k : Nat) : List Rat := toT qs.length (dfK (serS qs) k)
def pwL (qs : List Rat) (t : Rat) : List Rat := toT qs.length (pwF (serS qs) t qs.length)
theorem pwL_len (qs : List Rat) (t : Rat) : (pwL qs t).length = qs.length := toT_len _ _
def stL (n : Nat) : List Rat := 1 :: List.replicate (n - 1) 0
theorem stL_len {n : Nat} (h : 1 ≤ n) : (stL n).length = n := by
  unfold stL
  rw [List.length_cons, List.length_replicate]
  omega
theorem serS_still (n : Nat) : serS (1 :: List.replicate n 0) = xS := by
  funext i
  match i with
  | 0 => rfl
  | 1 => rfl
  | i + 2 =>
    show (List.replicate n (0 : Rat)).getD i 0 = 0
    rw [List.getD_eq_getElem?_getD, List.getElem?_replicate]
    split <;> rfl
theorem stL_toT {n : Nat} (h : 1 ≤ n) : stL n = toT n xS := by
  have e := toT_serS (stL n)
  rw [stL_len h] at e
  have : serS (stL n) = xS := serS_still (n - 1)
  rw [this] at e
  exact e.symm
theorem toT_sub {n : Nat} (f g : Ser) : (toT n f).zipWith (· - ·) (toT n g) = toT n (fun i => f i - g i) := by
  apply List.ext_getElem?
  intro i
  rw [List.getElem?_zipWith]
  rcases Nat.lt_or_ge i n with c | c
  · rw [toT_get c, toT_get c, toT_get c]
  · rw [List.getElem?_eq_none (l := toT n f) (by rw [toT_len]; exact c), List.getElem?_eq_none (l := toT n (fun i => f i - g i)) (by rw [toT_len]; exact c)]
theorem mix_toT {n : Nat} {u : Ser} {qs : List Rat} (l : qs.length = n) (u0 : u 0 = 0) : mixL n (toT n u) (tabL qs) = toT n (cmpS u (serS qs)) := by
  have e := mix_step (qs := toT n u) (rs := qs) (by rw [toT_len, l])
  rw [l] at e
  rw [e]
  unfold cmpL
  rw [toT_len]
  exact toT_eq (EqTo.cmp (serS_toT u0) (fun _ _ => rfl))
theorem dsL_df {qs : List Rat} (l1 : 1 ≤ qs.length) : ∀ k, dsL qs.length (tabL qs) (stL qs.length) k = dfL qs k
  | 0 => stL_toT l1
  | k + 1 => by
    show (mixL qs.length (dsL qs.length (tabL qs) (stL qs.length) k) (tabL qs)).zipWith (· - ·) _ = _
    rw [dsL_df l1 k]
    unfold dfL
    rw [mix_toT rfl (df_zero rfl k), toT_sub]
    rfl
theorem zr_iff {qs : List Rat} : zr qs = true ↔ ∀ q ∈ qs, q = 0 := by
  unfold zr
  rw [List.all_eq_true]
  exact ⟨fun h q hq => of_decide_eq_true (h q hq), fun h q hq => decide_eq_true (h q hq)⟩
theorem zr_toT {n : Nat} {f : Ser} : zr (toT n f) = true ↔ ∀ i, i < n → f (i + 1) = 0 := by
  rw [zr_iff]
  constructor
  · intro h i hi
    exact h _ (List.mem_of_getElem? (toT_get hi))
  · intro h q hq
    obtain ⟨i, hi⟩ := List.getElem?_of_mem hq
    rcases Nat.lt_or_ge i n with c | c
    · rw [toT_get c] at hi
      rw [← Option.some.inj hi]
      exact h i c
    · rw [List.getElem?_eq_none (by rw [toT_len]; exact c)] at hi
      cases hi
theorem df_end {qs : List Rat} (h : serS qs 1 = 1) : zr (dfL qs qs.length) = true := zr_toT.mpr fun i hi => df_low rfl h qs.length (i + 1) (by omega)
/-- once all are 0 they stay so -/
theorem df_stay {qs : List Rat} {N : Nat} (h : zr (dfL qs N) = true) : ∀ k, N ≤ k → ∀ i, i < qs.length → dfK (serS qs) k (i + 1) = 0 := by
  intro k hk
  induction hk with
  | refl => exact zr_toT.mp h
  | step hk ih =>
    rename_i m
    intro i hi
    show cmpS (dfK (serS qs) m) (serS qs) (i + 1) - dfK (serS qs) m (i + 1) = 0
    have e : cmpS (dfK (serS qs) m) (serS qs) (i + 1) = 0 := sum_zero fun j hj => by
      match j, hj with
      | 0, _ => rw [df_zero rfl, Rat.zero_mul]
      | j + 1, hj => rw [ih j (by omega), Rat.zero_mul]
    rw [e, ih i hi]
    grind
theorem sum_tail {f : Nat → Rat} {a m : Nat} (l : a ≤ m) (h : ∀ k, a ≤ k → f k = 0) : sumN f m = sumN f a := sum_more l h
theorem mix_pw {qs : List Rat} {t : Rat} {N : Nat} (hN : zr (dfL qs N) = true) (le : N ≤ qs.length) : mixL qs.length (bnL t (N + 1)) ((List.range (N + 1)).map (dfL qs)) = pwL qs t := by
  unfold mixL pwL
  apply List.ext_getElem?
  intro i
  rcases Nat.lt_or_ge i qs.length with c | c
  · rw [toT_get c, List.getElem?_map, List.getElem?_range c]
    show some (dotL _ _) = some _
    congr 1
    unfold dotL
    rw [bnL_len, List.length_map, List.length_map, List.length_range, Nat.min_self, dotT_sum]
    have e : sumN (fun k => ser (bnL t (N + 1)) k * ser (((List.range (N + 1)).map (dfL qs)).map fun r => r.getD i 0) k) (N + 1) = sumN (fun k => bnR t k * dfK (serS qs) k (i + 1)) (N + 1) := sum_congr fun k hk => by
      have e1 : ser (bnL t (N + 1)) k = bnR t k := by
        show List.getD _ _ _ = _
        unfold bnL
        rw [List.getD_eq_getElem?_getD, List.getElem?_map, List.getElem?_range hk]
        rfl
      have e2 : ser (((List.range (N + 1)).map (dfL qs)).map fun r => r.getD i 0) k = dfK (serS qs) k (i + 1) := by
        show List.getD _ _ _ = _
        rw [List.getD_eq_getElem?_getD, List.getElem?_map, List.getElem?_map, List.getElem?_range hk]
        show (dfL qs k).getD i 0 = _
        unfold dfL
        rw [List.getD_eq_getElem?_getD, toT_get c]
        rfl
      rw [e1, e2]
    rw [e]
    have z : ∀ k, N ≤ k → bnR t k * dfK (serS qs) k (i + 1) = 0 := fun k hk => by rw [df_stay hN k hk i c, Rat.mul_zero]
    show _ = sumN (fun k => bnR t k * dfK (serS qs) k (i + 1)) qs.length
    rw [sum_tail (Nat.le_succ N) z, sum_tail le z]
  · rw [List.getElem?_eq_none (by rw [List.length_map, List.length_range]; exact c), List.getElem?_eq_none (by rw [toT_len]; exact c)]
/-- the sizes that a power of a slow step wants -/
structure PwOk (qs : List Rat) (t : Rat) : Prop where
  ex : ∃ L B M C E F : Nat, SmL L ∧ B ≤ 100000 ∧ PowD L B qs ∧ SmL M ∧ C + 1 ≤ 100000 ∧ (∀ k, k ≤ qs.length → AllD M C (dfL qs k)) ∧ Ok t ∧ BnOk t (qs.length + 1) ∧ SmL E ∧ F ≤ 100000 ∧ AllD E F (bnL t (qs.length + 1))
theorem BnOk.less {t : Rat} {n m : Nat} (h : BnOk t n) (l : m ≤ n) : BnOk t m := ⟨fun k hk => h.b k (by omega), fun k hk => h.d k (by omega), fun k hk => h.q k (by omega)⟩
theorem bn_less {E F : Nat} {t : Rat} {n m : Nat} (h : AllD E F (bnL t n)) (l : m ≤ n) : AllD E F (bnL t m) := fun q hq => by
  unfold bnL at hq
  obtain ⟨k, hk, rfl⟩ := List.mem_map.mp hq
  rw [List.mem_range] at hk
  exact h _ (List.mem_map.mpr ⟨k, List.mem_range.mpr (by omega), rfl⟩)
theorem cmp_d {M C : Nat} {qs : List Rat} {k : Nat} (h1 : AllD M C (dfL qs k)) (h2 : AllD M C (dfL qs (k + 1))) : AllD M (C + 1) (toT qs.length (cmpS (dfK (serS qs) k) (serS qs))) := fun q hq => by
  obtain ⟨i, hi⟩ := List.getElem?_of_mem hq
  rcases Nat.lt_or_ge i qs.length with c | c
  · rw [toT_get c] at hi
    have a := h1 _ (List.mem_of_getElem? (toT_get (F := dfK (serS qs) k) c))
    have b := h2 _ (List.mem_of_getElem? (toT_get (F := dfK (serS qs) (k + 1)) c))
    have e : q = dfK (serS qs) (k + 1) (i + 1) + dfK (serS qs) k (i + 1) := by
      rw [← Option.some.inj hi]
      show _ = cmpS (dfK (serS qs) k) (serS qs) (i + 1) - dfK (serS qs) k (i + 1) + dfK (serS qs) k (i + 1)
      grind
    rw [e]
    exact b.add a (by omega) (by omega)
  · rw [List.getElem?_eq_none (by rw [toT_len]; exact c)] at hi
    cases hi
def spPwF (K : PySem.W.Frag) (S : Addr) : Sp := fun vs H Q _ => ∃ (v x : V) (qs : List Rat) (t : Rat), vs = [v, x] ∧ StAt K S H v qs ∧ Nq K H x t ∧ serS qs 1 = 1 ∧ PwOk qs t ∧ GivesF K S H Q (pwL qs t)
theorem kit_tup : kitB "tuple" "int" = some false ∧ kitB "tuple" "bool" = some false := by decide +kernel
theorem Nq.inR {K : PySem.W.Frag} {H : Hp} {v : V} {q : Rat} {lo hi : Int} (h : Nq K H v q) : InR K H v lo hi false := by
  refine ⟨false, fun H' s => ?_, .inl ⟨rfl, rfl⟩⟩
  obtain ⟨a, rfl, _, ty⟩ := (h.same s).sq
  exact ⟨.type "tuple", false, false, ty, kit_ty kit_tup.1, kit_ty kit_tup.2, rfl⟩
theorem StAt.nb {K : PySem.W.Frag} {S : Addr} {H : Hp} {v : V} {qs : List Rat} (h : StAt K S H v qs) : ∃ (x dx b : Addr) (xs : List V) (fs : List (Str × V)), v = .ref x ∧ H x = some (.ins S dx fs) ∧ H b = some (.lst xs) ∧ Nl K H xs qs ∧ fs.lookup ("_numbers" : Str) = some (.ref b) ∧ fs.lookup ("order" : Str) = some (.int (qs.length : Int)) := by
  obtain ⟨x, dx, b, xs, fs, e, h1, h2, h3, h4, h5, _⟩ := h.num
  exact ⟨x, dx, b, xs, fs, e, h1, h2, h3, h4, h5⟩
section
variable {P : Program} {w : World} {K : PySem.W.Frag} {mg : Str → Option Value} {base : Heap} {f C S CF CO CN o0 o1 : Addr} {fd : FuncData} {H : Hp}
theorem scPwS : FnScope ["self", "t", "found"] ["self", "t"] (defScope C_Step_power) := ⟨rfl, rfl, rfl, by decide +kernel, rfl, by decide +kernel, by decide +kernel⟩
theorem ok_spower (G : Fun K "power" "Step.power" C_Step_power f fd) (k : StepK P w K mg base C S CF CO) (UB : Use P w K mg base CX0 2 "is_between" ["value", "low", "high"] (spBtw K) []) (UF : Use P w K mg base CX0 2 "is_fraction" ["value"] (spIsG K) []) (UC : Use P w K mg base (L2.CX P w) 3 "check_slow" ["step"] (spCkS K S CN) [])
    (UD : Use P w K mg base CX0 4 "differences" ["numbers", "lines"] (spDfs K) []) (US : Use P w K mg base CX0 1 "still_numbers" ["order"] (spSn K) []) (UT : Use P w K mg base CX0 3 "table_lines" ["numbers"] (spTab K) []) (UP : Use P w K mg base CX0 4 "binomial_power" ["found", "t"] (spBpw K) [])
    (mM : ∃ u, mg "MOST_POWER" = some u ∧ RelV (.int 64) u) : FnOk P w K mg base (L2.CX P w) 8 f fd ["self", "t"] (spPwF K S) := by
  refine G.okX scPwS (fun vs H Q E h => ?_) (fun cdv A outer s H vs Q E hr h => ?_)
  · obtain ⟨v, x, qs, t, rfl, _⟩ := h
    rfl
  obtain ⟨v, y, qs, t, rfl, hX, hy, hs, po, gv⟩ := h
  obtain ⟨x, dx, b, xs, fs, rfl, hx, hb, nx, f1, f2⟩ := hX.nb
  obtain ⟨l2, l24⟩ := hX.le
  have l1 : 1 ≤ qs.length := by omega
  obtain ⟨L, B, M, C, E', F, sL, lB, zp, sM, lC, zd, ot, bo, sE, lF, zb⟩ := po.ex
  obtain ⟨fI, fdI, MM, FI, bI⟩ := k.ini
  refine ⟨_, pss_cons (ps_if (pt_val (pe_use UB (hr.mono (by decide)) rfl pass0 (pa_cons (pv 1) (pa_cons (pe_un un_neg (C8.pe_gc rfl mM)) (pa_cons (C8.pe_gc rfl mM) pa_nil)))))
      (pss_cons ps_never (pss_one ps_never)) pss_nil)
    (pss_cons (ps_if (pt_not (pt_val (pe_use UF (hr.mono (by decide)) rfl pass0 (pa_cons (pv 1) pa_nil)))) (pss_one ps_never) pss_nil)
    (pss_cons (ps_expr (pe_use (E := E) UC (hr.mono (by decide)) rfl (passes_call (takes_of rfl rfl rfl rfl) (fun _ _ _ _ h => h)) (pa_cons (pv 0) pa_nil)))
    (pss_cons (ps_set (i := 2) scPwS.nd rfl (Or.inl rfl) (pe_use UD (hr.mono (by decide)) rfl pass0 (pa_cons (pe_use US (hr.mono (by decide)) rfl pass0 (pa_cons (pe_fld (pv 0) rfl) pa_nil)) (pa_cons (pe_use UT (hr.mono (by decide)) rfl pass0 (pa_cons (pe_fld (pv 0) rfl) pa_nil)) pa_nil))))
    (pss_one (ps_ret (pe_make (E := E) MM FI hr rfl k.m bI .nil (passes_call (takes_of rfl rfl rfl rfl) (fun _ _ _ _ h => h)) (pa_cons (pe_use UP (hr.mono (by decide)) rfl pass0 (pa_cons (pv 2) (pa_cons (pv 1) pa_nil))) pa_nil))))))), ?_⟩
  refine ⟨_, rfl, 64, rfl, y, -64, 64, false, rfl, hy.inR, _, rfl, iteF ?_⟩
  refine ⟨_, rfl, y, true, rfl, hy.isG, _, rfl, iteF ?_⟩
  refine ⟨_, rfl, .ref x, qs, rfl, hX, fun _ => ?_, fun n => absurd hs n⟩
  refine ⟨_, rfl, x, S, dx, _, _, rfl, hx, k.c, k.nA _ (by simp [stN]), f2, qs.length, rfl, l2, l24, fun b1 H1 ys s1 nb1 hb1 mb1 => ?_⟩
  refine ⟨_, rfl, x, S, dx, _, _, rfl, s1 _ _ hx, k.c, k.nA _ (by simp [stN]), f1, .ref b, qs, L, B, rfl, ⟨b, xs, rfl, s1 _ _ hb, nx.same s1⟩, l1, l24, sL, lB, zp, fun b2 H2 zs s2 nb2 hb2 mb2 => ?_⟩
  refine ⟨.ref b1, .ref b2, stL qs.length, tabL qs, qs.length, M, C, L, B, qs.length, rfl, ⟨b1, ys, rfl, s2 _ _ hb1, mb1.same s2⟩, ⟨b2, zs, rfl, hb2, mb2⟩, stL_len l1, by rw [tabL_len]; exact l1, by rw [tabL_len]; exact l24, tabL_row, l24, sM, by omega, sL, lB, tabL_d zp, fun k hk => by rw [dsL_df l1]; exact zd k hk, fun k hk => ?_, l24, by rw [dsL_df l1]; exact df_end hs, fun N' hN hz b3 H3 ws s3 nb3 hb3 mb3 => ?_⟩
  · rw [dsL_df l1]
    unfold dfL
    rw [mix_toT rfl (df_zero rfl k)]
    exact (cmp_d (zd k (by omega)) (zd (k + 1) hk)).ok sM (by omega)
  rw [dsL_df l1] at hz
  have em : (List.range (N' + 1)).map (dsL qs.length (tabL qs) (stL qs.length)) = (List.range (N' + 1)).map (dfL qs) := List.map_congr_left fun k _ => dsL_df l1 k
  rw [em] at mb3
  have sA := s1.trans (s2.trans s3)
  refine ⟨_, rfl, _, rfl, .ref b3, y, t, (List.range (N' + 1)).map (dfL qs), qs.length, E', F, M, C, rfl, ⟨b3, ws, rfl, hb3, mb3⟩, hy.same sA, by rw [List.length_map, List.length_range]; omega, by rw [List.length_map, List.length_range]; omega, by omega, fun r hr => ?_, ot, ?_, sE, lF, sM, by omega, ?_, fun r hr => ?_, fun d H4 us s4 nd hd md => ?_⟩
  · obtain ⟨k, _, rfl⟩ := List.mem_map.mp hr
    exact toT_len _ _
  · rw [List.length_map, List.length_range]
    exact bo.less (by omega)
  · rw [List.length_map, List.length_range]
    exact bn_less zb (by omega)
  · obtain ⟨k, hk, rfl⟩ := List.mem_map.mp hr
    exact zd k (by have := List.mem_range.mp hk; omega)
  rw [List.length_map, List.length_range, mix_pw hz hN] at md
  exact step_new (sA.trans s4) (.inl hd) md (by rw [pwL_len]; exact l2) (by rw [pwL_len]; exact l24) gv
end
end Kx
end
section
set_option maxHeartbeats 4000000
namespace Kx
open PySem PySem.Spec PyProof.Rows L2 RZ
/-! ### sizes -/
theorem Dq.dv {L M B C : Nat} {a : Rat} (h : Dq L B a) (d : L ∣ M) (m0 : 0 < M) (c : M < 2 ^ C) : Dq M (B + C) a := by
  obtain ⟨k, rfl⟩ := d
  refine h.up k rfl (Nat.le_of_lt (Nat.lt_of_le_of_lt ?_ c))
  rcases Nat.eq_zero_or_pos L with z | z
  · rw [z, Nat.zero_mul] at m0
    omega
  · exact Nat.le_mul_of_pos_left k z
theorem dq_sum {L B : Nat} {f : Nat → Rat} {c : Nat} : ∀ m, (∀ i, i < m → Dq L B (f i)) → m ≤ 2 ^ c → Dq L (B + c) (sumN f m) := by
  intro m h hc
  have key : ∀ m, (∀ i, i < m → Dq L B (f i)) → ∃ z : Int, sumN f m * (L : Rat) = (z : Rat) ∧ z.natAbs ≤ m * (2 ^ B - 1) := by
    intro m
    induction m with
    | zero => intro _; exact ⟨0, by show (0 : Rat) * _ = _; rw [Rat.zero_mul]; rfl, by simp⟩
    | succ m ih =>
      intro h
      obtain ⟨z, e, l⟩ := ih fun i hi => h i (by omega)
      obtain ⟨y, e', l'⟩ := h m (by omega)
      refine ⟨z + y, ?_, ?_⟩
      · show (sumN f m + f m) * _ = _
        rw [Rat.add_mul, e, e', Rat.intCast_add]
      · have := Int.natAbs_add_le z y
        rw [Nat.succ_mul]
        omega
  obtain ⟨z, e, l⟩ := key m h
  refine ⟨z, e, ?_⟩
  have p : 0 < 2 ^ B := Nat.pow_pos (by decide)
  have p2 : 0 < 2 ^ c := Nat.pow_pos (by decide)
  have h1 : m * (2 ^ B - 1) ≤ 2 ^ c * (2 ^ B - 1) := Nat.mul_le_mul_right _ hc
  rw [Nat.add_comm B c, Nat.pow_add]
  have h2 : 2 ^ c * (2 ^ B - 1) < 2 ^ c * 2 ^ B := Nat.mul_lt_mul_of_pos_left (by omega) p2
  omega
/-- the number at the place k is whole over D ^ (k - 1), and at the place 1 it is 0, 1 or -1 -/
structure Gm (D m : Nat) (F : Ser) (n : Nat) : Prop where
  z : F 0 = 0
  g : ∀ k, k < n → Dq (D ^ k) (m * k + 1) (F (k + 1))
theorem Gm.mono {D m m' n : Nat} {F : Ser} (h : Gm D m F n) (l : m ≤ m') : Gm D m' F n := ⟨h.z, fun k hk => (h.g k hk).mono (by have := Nat.mul_le_mul_right k l; omega)⟩
theorem Gm.pow {D m n : Nat} {F : Ser} (h : Gm D m F n) (n16 : n ≤ 15) : ∀ j k, j + k < n → Dq (D ^ k) (m * k + 5 * (j + 1)) (powS F (j + 1) (j + 1 + k))
  | 0, k, hk => by
    rw [powS_one, Nat.add_comm (0 + 1) k]
    exact (h.g k (by omega)).mono (by omega)
  | j + 1, k, hk => by
    show Dq _ _ (sumN (fun i => powS F (j + 1) i * F (j + 1 + 1 + k - i)) (j + 1 + 1 + k + 1))
    refine (dq_sum (B := m * k + (5 * (j + 1) + 1)) (c := 4) _ (fun i hi => ?_) (by omega)).mono (by omega)
    rcases Nat.lt_or_ge i (j + 1) with c | c
    · rw [powS_low h.z (j + 1) i c, Rat.zero_mul]
      exact Dq.zero
    rcases Nat.lt_or_ge i (j + 1 + 1 + k) with d | d
    · have a := Gm.pow h n16 j (i - (j + 1)) (by omega)
      have b := h.g (j + 1 + k - i) (by omega)
      rw [show j + 1 + (i - (j + 1)) = i by omega] at a
      rw [show j + 1 + k - i + 1 = j + 1 + 1 + k - i by omega] at b
      have ab := a.mul b
      rw [← Nat.pow_add, show i - (j + 1) + (j + 1 + k - i) = k by omega] at ab
      refine ab.mono ?_
      have : m * (i - (j + 1)) + m * (j + 1 + k - i) = m * k := by rw [← Nat.mul_add, show i - (j + 1) + (j + 1 + k - i) = k by omega]
      omega
    · rw [show j + 1 + 1 + k - i = 0 by omega, h.z, Rat.mul_zero]
      exact Dq.zero
theorem Gm.cmp {D m n : Nat} {u F : Ser} (hu : Gm D m u n) (h : Gm D m F n) (n16 : n ≤ 15) : Gm D (m + 15) (cmpS u F) n := by
  refine ⟨by rw [cmpS_zero, hu.z], fun k hk => ?_⟩
  rw [← cmpS_to h.z (show k + 1 < k + 2 by omega), sum_first, hu.z, Rat.zero_mul, Rat.zero_add]
  match k, hk with
  | 0, hk =>
    have e : sumN (fun i => u (i + 1) * powS F (i + 1) (0 + 1)) (0 + 1) = u 1 * F 1 := by
      show (0 : Rat) + u 1 * powS F 1 1 = _
      rw [powS_one, Rat.zero_add]
    rw [e]
    obtain ⟨x, ex, lx⟩ := hu.g 0 hk
    obtain ⟨y, ey, ly⟩ := h.g 0 hk
    refine ⟨x * y, ?_, ?_⟩
    · rw [Rat.intCast_mul, ← ex, ← ey]
      have : ((D ^ 0 : Nat) : Rat) = 1 := rfl
      rw [this]
      grind
    · rw [Nat.mul_zero, Nat.zero_add] at lx ly ⊢
      rw [Int.natAbs_mul]
      have : x.natAbs * y.natAbs ≤ 1 * 1 := Nat.mul_le_mul (by omega) (by omega)
      omega
  | k + 1, hk =>
    refine (dq_sum (B := m * (k + 1) + (5 * (k + 2) + 1)) (c := 4) _ (fun i hi => ?_) (by omega)).mono (by rw [Nat.add_mul]; omega)
    have a := hu.g i (by omega)
    have b := h.pow n16 i (k + 1 - i) (by omega)
    rw [show i + 1 + (k + 1 - i) = k + 1 + 1 by omega] at b
    have ab := a.mul b
    rw [← Nat.pow_add, show i + (k + 1 - i) = k + 1 by omega] at ab
    refine ab.mono ?_
    have : m * i + m * (k + 1 - i) = m * (k + 1) := by rw [← Nat.mul_add, show i + (k + 1 - i) = k + 1 by omega]
    omega
theorem Gm.sub {D m n : Nat} {u F : Ser} (hu : Gm D m u n) (h : Gm D m F n) (e : u 1 = F 1) : Gm D (m + 1) (fun i => u i - F i) n := by
  refine ⟨?_, fun k hk => ?_⟩
  · show u 0 - F 0 = 0
    rw [hu.z, h.z]
    grind
  match k, hk with
  | 0, hk =>
    show Dq _ _ (u 1 - F 1)
    rw [e, show F 1 - F 1 = 0 by grind]
    exact Dq.zero
  | k + 1, hk => exact (hu.g (k + 1) hk).sub (h.g (k + 1) hk) (by rw [Nat.add_mul]; omega) (by rw [Nat.add_mul]; omega)
theorem Gm.x {D n : Nat} : Gm D 0 xS n := by
  refine ⟨rfl, fun k hk => ?_⟩
  match k with
  | 0 => exact Dq.one (show 1 < 2 ^ 1 by decide)
  | k + 1 => exact Dq.zero
theorem Gm.df {D m n : Nat} {f : Ser} (h : Gm D m f n) (f1 : f 1 = 1) (n16 : n ≤ 15) : ∀ k, Gm D (m + 16 * k) (dfK f k) n
  | 0 => Gm.x.mono (by omega)
  | k + 1 => by
    have a := Gm.df h f1 n16 k
    have b := a.cmp (h.mono (show m ≤ m + 16 * k by omega)) n16
    refine (b.sub (a.mono (by omega)) ?_).mono (by omega)
    show cmpS (dfK f k) f 1 = dfK f k 1
    rw [← cmpS_to h.z (show 1 < 2 by omega)]
    show (0 : Rat) + dfK f k 0 * _ + dfK f k 1 * powS f 1 1 = _
    rw [df_zero h.z, powS_one, f1, Rat.zero_mul, Rat.mul_one]
    grind
theorem Dpow {D e : Nat} (d : D < 2 ^ 90) {n : Nat} (h : e ≤ n) (n1 : 1 ≤ n) : D ^ e < 2 ^ (90 * n) := by
  rcases Nat.eq_zero_or_pos e with rfl | e0
  · exact Nat.lt_of_lt_of_le (show 1 < 2 ^ 1 by decide) (Nat.pow_le_pow_right (by decide) (by omega))
  · rw [Nat.pow_mul]
    exact Nat.lt_of_lt_of_le (Nat.pow_lt_pow_left d (by omega)) (Nat.pow_le_pow_right (Nat.pow_pos (by decide)) h)
/-- all over D ^ (n - 1) -/
theorem Gm.one {D m n : Nat} {F : Ser} (h : Gm D m F n) (d0 : 0 < D) (d : D < 2 ^ 90) (n1 : 1 ≤ n) (n15 : n ≤ 7) {k : Nat} (hk : k < n) : Dq (D ^ (n - 1)) (15 * m + 700) (F (k + 1)) := by
  refine ((h.g k hk).dv (Nat.pow_dvd_pow D (show k ≤ n - 1 by omega)) (Nat.pow_pos d0) (Dpow d (show n - 1 ≤ n by omega) n1)).mono ?_
  have : m * k ≤ m * 15 := Nat.mul_le_mul_left m (by omega)
  omega
theorem Gm.all {D m n : Nat} {F : Ser} (h : Gm D m F n) (d0 : 0 < D) (d : D < 2 ^ 90) (n1 : 1 ≤ n) (n15 : n ≤ 7) : AllD (D ^ (n - 1)) (15 * m + 700) (toT n F) := fun q hq => by
  obtain ⟨i, hi⟩ := List.getElem?_of_mem hq
  rcases Nat.lt_or_ge i n with c | c
  · rw [toT_get c] at hi
    rw [← Option.some.inj hi]
    exact h.one d0 d n1 n15 c
  · rw [List.getElem?_eq_none (by rw [toT_len]; exact c)] at hi
    cases hi
theorem powL_S (rs : List Rat) (k : Nat) : powL (0 :: rs) k = toL (rs.length + 1) (powS (serS rs) (k + 1)) := by
  have e : (0 :: rs) = toL (rs.length + 1) (serS rs) := (toL_ser (0 :: rs)).symm
  rw [e, powL_toL]
theorem Gm.pows {D m : Nat} {qs : List Rat} (h : Gm D m (serS qs) qs.length) (d0 : 0 < D) (d : D < 2 ^ 90) (n1 : 1 ≤ qs.length) (n15 : qs.length ≤ 7) : PowD (D ^ (qs.length - 1)) (15 * m + 900) qs := fun j hj q hq => by
  rw [powL_S] at hq
  obtain ⟨i, hi⟩ := List.getElem?_of_mem hq
  rcases Nat.lt_or_ge i (qs.length + 1) with c | c
  · rw [toL_get c] at hi
    rw [← Option.some.inj hi]
    rcases Nat.lt_or_ge i (j + 1) with e | e
    · rw [powS_low rfl (j + 1) i e]
      exact Dq.zero
    · have a := h.pow (by omega) j (i - (j + 1)) (by omega)
      rw [show j + 1 + (i - (j + 1)) = i by omega] at a
      refine (a.dv (Nat.pow_dvd_pow D (show i - (j + 1) ≤ qs.length - 1 by omega)) (Nat.pow_pos d0) (Dpow d (show qs.length - 1 ≤ qs.length by omega) n1)).mono ?_
      have : m * (i - (j + 1)) ≤ m * 15 := Nat.mul_le_mul_left m (by omega)
      omega
  · rw [List.getElem?_eq_none (by rw [toL_len]; exact c)] at hi
    cases hi
theorem sm_pow {D n : Nat} (d0 : 0 < D) (d : D < 2 ^ 90) (n15 : n ≤ 15) : SmL (D ^ (n - 1)) := ⟨Nat.pow_pos d0, Nat.lt_of_lt_of_le (Dpow d (show n - 1 ≤ n + 1 by omega) (by omega)) (Nat.pow_le_pow_right (by decide) (by omega))⟩
/-! ### binomials -/
def fct : Nat → Nat
  | 0 => 1
  | k + 1 => fct k * (k + 1)
theorem fct_pos : ∀ k, 0 < fct k
  | 0 => by decide
  | k + 1 => Nat.mul_pos (fct_pos k) (Nat.succ_pos k)
theorem fct_dvd {k n : Nat} (h : k ≤ n) : fct k ∣ fct n := by
  induction h with
  | refl => exact Nat.dvd_refl _
  | step _ ih => exact Nat.dvd_trans ih (Nat.dvd_mul_right _ _)
theorem fct_le {n : Nat} (h : n ≤ 12) : fct n < 2 ^ 30 := Nat.lt_of_le_of_lt (Nat.le_of_dvd (fct_pos 12) (fct_dvd h)) (by decide)
structure Tb (t : Rat) : Prop where
  u : t.num.natAbs < 2 ^ 400
  l : t.den < 2 ^ 400
theorem Tb.ok {t : Rat} (h : Tb t) : Ok t := ⟨Nat.lt_of_lt_of_le h.u (Nat.pow_le_pow_right (by decide) (by decide)), Nat.lt_of_lt_of_le h.l (Nat.pow_le_pow_right (by decide) (by decide))⟩
theorem tb_d {t : Rat} (h : Tb t) {k : Nat} (hk : k ≤ 12) : Dq t.den 405 (t - (k : Rat)) := by
  refine (Dq.self t h.u).sub (B := 400) (C := 404) ?_ (by omega) (by omega)
  refine Dq.int (k : Int) ?_
  rw [Int.natAbs_mul, Int.natAbs_natCast, Int.natAbs_natCast]
  have h1 : k * t.den ≤ 12 * t.den := Nat.mul_le_mul_right _ hk
  have h2 := h.l
  have h3 : (2 : Nat) ^ 404 = 16 * 2 ^ 400 := by rw [show (404 : Nat) = 4 + 400 by rfl, Nat.pow_add]
  omega
theorem tb_q {t : Rat} (h : Tb t) {k : Nat} (hk : k < 12) : Dq (t.den * (k + 1)) 405 ((t - (k : Rat)) / ((k + 1 : Nat) : Rat)) := by
  obtain ⟨z, e, l⟩ := tb_d h (show k ≤ 12 by omega)
  refine ⟨z, ?_, l⟩
  have n0 := nat_ne (show k + 1 ≠ 0 by omega)
  rw [← e, Rat.natCast_mul]
  have : (t - (k : Rat)) / ((k + 1 : Nat) : Rat) * ((k + 1 : Nat) : Rat) = t - (k : Rat) := Rat.div_mul_cancel n0
  grind
theorem bn_d {t : Rat} (h : Tb t) : ∀ k, k ≤ 12 → Dq (t.den ^ k * fct k) (405 * k + 1) (bnR t k)
  | 0, _ => Dq.one (show 1 < 2 ^ 1 by decide)
  | k + 1, hk => by
    have a := (bn_d h k (by omega)).mul (tb_q h (show k < 12 by omega))
    have e : t.den ^ k * fct k * (t.den * (k + 1)) = t.den ^ (k + 1) * fct (k + 1) := by
      show _ = t.den ^ (k + 1) * (fct k * (k + 1))
      rw [Nat.pow_succ, Nat.mul_mul_mul_comm]
    rw [e] at a
    exact a.mono (by omega)
theorem tb_pow {t : Rat} (h : Tb t) {k : Nat} (hk : k ≤ 11) : t.den ^ k * fct k < 2 ^ 4430 := by
  have h1 : t.den ^ k ≤ (2 ^ 400) ^ k := Nat.pow_le_pow_left (Nat.le_of_lt h.l) k
  have h2 : (2 ^ 400) ^ k ≤ 2 ^ 4400 := by
    rw [← Nat.pow_mul]
    exact Nat.pow_le_pow_right (by decide) (by omega)
  have h3 := fct_le (show k ≤ 12 by omega)
  rw [show (4430 : Nat) = 4400 + 30 by rfl, Nat.pow_add]
  exact Nat.mul_lt_mul_of_le_of_lt (Nat.le_trans h1 h2) h3 (Nat.pow_pos (by decide))
theorem tb_sm {t : Rat} (h : Tb t) {k : Nat} (hk : k ≤ 11) : SmL (t.den ^ k * fct k) := ⟨Nat.mul_pos (Nat.pow_pos (Nat.pos_of_ne_zero t.den_nz)) (fct_pos k), Nat.lt_of_lt_of_le (tb_pow h hk) (Nat.pow_le_pow_right (by decide) (by decide))⟩
theorem bn_up {t : Rat} (h : Tb t) {k n : Nat} (hk : k ≤ n) (hn : n ≤ 11) : Dq (t.den ^ n * fct n) 10000 (bnR t k) := by
  refine ((bn_d h k (by omega)).dv (Nat.mul_dvd_mul (Nat.pow_dvd_pow _ hk) (fct_dvd hk)) (tb_sm h hn).1 (tb_pow h hn)).mono ?_
  omega
theorem sm_den {t : Rat} (h : Tb t) {k : Nat} (hk : k < 12) : SmL (t.den * (k + 1)) := by
  refine ⟨Nat.mul_pos (Nat.pos_of_ne_zero t.den_nz) (Nat.succ_pos k), ?_⟩
  have : t.den * (k + 1) < 2 ^ 400 * 2 ^ 4 := Nat.mul_lt_mul'' h.l (by omega)
  rw [← Nat.pow_add] at this
  exact Nat.lt_of_lt_of_le this (Nat.pow_le_pow_right (by decide) (by decide))
theorem sm_den1 {t : Rat} (h : Tb t) : SmL t.den := ⟨Nat.pos_of_ne_zero t.den_nz, Nat.lt_of_lt_of_le h.l (Nat.pow_le_pow_right (by decide) (by decide))⟩
theorem bn_ok {t : Rat} (h : Tb t) {n : Nat} (hn : n ≤ 11) : BnOk t (n + 1) := ⟨fun k hk => (bn_up h (show k ≤ n by omega) hn).ok (tb_sm h hn) (by decide), fun k hk => (tb_d h (show k ≤ 12 by omega)).ok (sm_den1 h) (by decide), fun k hk => (tb_q h (show k < 12 by omega)).ok (sm_den h (show k < 12 by omega)) (by decide)⟩
/-- a slow step of small sizes -/
def Slw (n : Nat) (F : Ser) : Prop := ∃ D m : Nat, 0 < D ∧ D < 2 ^ 90 ∧ m ≤ 1000 ∧ Gm D m F n
theorem pw_ok {qs : List Rat} {t : Rat} (h : Slw qs.length (serS qs)) (h1 : serS qs 1 = 1) (l1 : 1 ≤ qs.length) (l11 : qs.length ≤ 7) (ht : Tb t) : PwOk qs t := by
  obtain ⟨D, m, d0, d, m4, g⟩ := h
  refine ⟨D ^ (qs.length - 1), 15 * m + 900, D ^ (qs.length - 1), 15 * 1200 + 700, t.den ^ qs.length * fct qs.length, 10000, sm_pow d0 d (by omega), by omega, g.pows d0 d l1 (by omega), sm_pow d0 d (by omega), by omega, fun k hk => ?_, ht.ok, bn_ok ht (by omega), tb_sm ht (by omega), by omega, fun q hq => ?_⟩
  · exact (((g.df h1 (by omega) k).mono (show m + 16 * k ≤ 1200 by omega)).all d0 d l1 (by omega))
  · unfold bnL at hq
    obtain ⟨k, hk, rfl⟩ := List.mem_map.mp hq
    rw [List.mem_range] at hk
    exact bn_up ht (by omega) (by omega)
end Kx
end
section
set_option maxHeartbeats 4000000
namespace Kx
open PySem PySem.Spec PyProof.Rows L2 RZ
/-! ### the law's lists of numbers -/
abbrev nPl : List Str := ["_law_u", "_law_w", "_law_p", "_law_q"]
abbrev nSl : List Str := ["_law_u", "_law_p", "_law_q"]
def spMulsL (K : PySem.W.Frag) : Sp := fun vs H Q _ => ∃ (x y : V) (qs : List Rat) (t : Rat), vs = [x, y] ∧ Ls K H x qs ∧ Nq K H y t ∧ qs.length ≤ 100 ∧ AllO qs ∧ Ok t ∧ GivesL K H Q (qs.map (· * t))
def spZeros (K : PySem.W.Frag) : Sp := fun vs H Q _ => ∃ n : Nat, vs = [.int (n : Nat)] ∧ n ≤ 100 ∧ GivesL K H Q (List.replicate n 0)
def xL (n : Nat) : List Rat := 0 :: stL n
def spX (K : PySem.W.Frag) : Sp := fun vs H Q _ => ∃ n : Nat, vs = [.int (n : Nat)] ∧ 1 ≤ n ∧ n ≤ 100 ∧ GivesL K H Q (xL n)
section
variable {P : Program} {w : World} {K : PySem.W.Frag} {mg : Str → Option Value} {base : Heap} {f o0 : Addr} {fd : FuncData}
theorem scLSc : FnScope nSl ["_law_u", "_law_p"] (defScope L_scaled) := ⟨rfl, rfl, rfl, by decide +kernel, rfl, by decide +kernel, by decide +kernel⟩
theorem ok_lscaled (G : Fun K "_law_scaled" "_law_scaled" L_scaled f fd) (UM : Use P w K mg base CX0 2 "_law_mul" ["_law_p", "_law_q"] (spTwoQ K (· * ·)) []) : FnOk P w K mg base CX0 3 f fd ["_law_u", "_law_p"] (spMulsL K) := by
  refine G.ok scLSc (fun vs H Q E h => ?_) (fun cdv A outer s H vs Q E hr h => ?_)
  · obtain ⟨x, y, qs, t, rfl, _⟩ := h
    rfl
  obtain ⟨x, y, qs, t, rfl, ⟨xa, xs, rfl, hx, nx⟩, ht, l1, bq, bt, q⟩ := h
  refine ⟨_, pss_one (ps_ret (pe_lc (own := [("_law_q", 2)]) (g := gName 2) (tt := tYes) rfl scLSc.nd (pi_list (pv 0)) (blkOk_by (N := nSl) (sc := defScope L_scaled) (by decide +kernel))
      (fun _ _ _ _ _ => pg_name (i := 2) scLSc.nd rfl (Or.inl rfl)) (fun _ _ _ _ _ => pts_nil) (fun _ _ _ _ _ => pe_use UM hr rfl pass0 (pa_cons (pv 2) (pa_cons (pv 1) pa_nil))))), ?_⟩
  refine ⟨_, rfl, xa, rfl, ⟨_, SqL.of hx⟩, fun D nD => ?_⟩
  have lx : xs.length = qs.length := nx.1
  refine lc_nums (K := K) (walk_list (K := K) (a := xa) (xs := xs)) (qs.map (· * t)) (by rw [List.length_map]; omega) nD (by omega) (fun H' s => SqL.of (s _ _ hx)) ?_ (fun H' zs s h n => q D H' zs s nD h n)
  rintro i r x H2 H3 k hq s2 ⟨rfl, hx2⟩ hk
  rw [List.getElem?_map] at hq
  obtain ⟨a, ea, rfl⟩ := Option.map_eq_some_iff.mp hq
  exact ⟨rfl, _, rfl, _, rfl, _, _, a, t, rfl, (nx.2 i x a hx2 ea).same s2, ht.same s2, bq a (List.mem_of_getElem? ea), bt, fun t' H4 s4 n4 h4 => hk _ _ s4 (.at h4)⟩
theorem scLX : FnScope ["_law_deg"] ["_law_deg"] (defScope L_x) := ⟨rfl, rfl, rfl, by decide +kernel, rfl, by decide +kernel, by decide +kernel⟩
theorem ok_lx (G : Fun K "_law_x" "_law_x" L_x f fd) : FnOk P w K mg base CX0 1 f fd ["_law_deg"] (spX K) := by
  refine G.ok scLX (fun vs H Q E h => ?_) (fun cdv A outer s H vs Q E hr h => ?_)
  · obtain ⟨n, rfl, _⟩ := h
    rfl
  obtain ⟨n, rfl, l0, l1, q⟩ := h
  refine ⟨_, pss_one (ps_ret (pe_op op_cat (pe_lst (pa_cons (pe_tup (pa_cons pe_int (pa_cons pe_int pa_nil))) (pa_cons (pe_tup (pa_cons pe_int (pa_cons pe_int pa_nil))) pa_nil))) (pe_op op_rep (pe_lst (pa_cons (pe_tup (pa_cons pe_int (pa_cons pe_int pa_nil))) pa_nil)) (pe_op op_sub (pv 0) pe_int)))), ?_⟩
  refine ⟨(by show 2 ≤ sizeLine; decide), fun t0 nt0 => ⟨(by show 2 ≤ sizeLine; decide), fun t1 nt1 => ⟨(by show 2 ≤ sizeLine; decide), fun a na => ⟨(by show 2 ≤ sizeLine; decide), fun t nt => ⟨(by show 1 ≤ sizeLine; decide), fun c nc => ?_⟩⟩⟩⟩⟩
  have s0 := new_same nt0 (HO.tup [.int 0, .int 1])
  have s1 := new_same nt1 (HO.tup [.int 1, .int 1])
  have s2 := new_same na (HO.lst [V.ref t0, V.ref t1])
  have s3 := new_same nt (HO.tup [.int 0, .int 1])
  have s4 := new_same nc (HO.lst [V.ref t])
  refine ⟨_, rfl, (n : Nat), 1, rfl, rfl, c, ((n : Nat) : Int) - 1, [.ref t], rfl, rfl, upd_same, by omega, by omega, (by show 1 * _ ≤ sizeLine; exact Nat.le_of_lt (small1000 (by omega))), fun d nd => ?_⟩
  have rep : (List.replicate (((n : Nat) : Int) - 1).toNat [V.ref t]).flatten = List.replicate (n - 1) (.ref t) := by
    rw [List.flatten_replicate_singleton]
    congr 1
    omega
  rw [rep]
  have s5 := new_same nd (HO.lst (List.replicate (n - 1) (V.ref t)))
  refine ⟨a, d, _, _, rfl, rfl, s5 _ _ (s4 _ _ (s3 _ _ upd_same)), upd_same, Nat.le_of_lt (small1000 (by rw [List.length_replicate]; show 2 + _ ≤ _; omega)), fun k nk => ?_⟩
  have s6 := new_same nk (HO.lst ([V.ref t0, V.ref t1] ++ List.replicate (n - 1) (V.ref t)))
  have z0 : Nq K _ (.ref t0) 0 := .at (K := K) ((s1.trans (s2.trans (s3.trans (s4.trans (s5.trans s6))))) _ _ (show _ = some (rT 0) from upd_same))
  have z1 : Nq K _ (.ref t1) 1 := .at (K := K) ((s2.trans (s3.trans (s4.trans (s5.trans s6)))) _ _ (show _ = some (rT 1) from upd_same))
  have z : Nq K _ (.ref t) 0 := .at (K := K) ((s4.trans (s5.trans s6)) _ _ (show _ = some (rT 0) from upd_same))
  have sA := s0.trans (s1.trans (s2.trans (s3.trans (s4.trans (s5.trans s6)))))
  exact q k _ _ sA ((s0.trans (s1.trans (s2.trans (s3.trans (s4.trans s5))))).free nk) upd_same (Nl.cons z0 (Nl.cons z1 (reps z _)))
end
end Kx
end
section
set_option maxHeartbeats 4000000
namespace Kx
open PySem PySem.Spec PyProof.Rows L2 RZ
/-! ### the law's common lower part -/
abbrev nWh : List Str := ["_law_u", "_law_den", "_law_p", "_law_high", "_law_rest"]
theorem lcm_i (a b : Nat) : ((a : Nat) : Int) / ((Nat.gcd a b : Nat) : Int) * ((b : Nat) : Int) = ((Nat.lcm a b : Nat) : Int) := by
  have : Nat.lcm a b = a / Nat.gcd a b * b := by
    unfold Nat.lcm
    exact Nat.mul_div_right_comm (Nat.gcd_dvd_left a b) b
  rw [this, Int.natCast_mul, Int.natCast_ediv]
theorem small_log {a : Nat} {n : Nat} (h : a < 2 ^ n) (n0 : 0 < n) (n9 : n ≤ 9000) : ((a : Nat) : Int).natAbs.log2 < 9000 := Nat.lt_of_lt_of_le (log_bd (by rw [Int.natAbs_natCast]; exact h) n0) n9
section
variable {P : Program} {w : World} {K : PySem.W.Frag} {mg : Str → Option Value} {base : Heap} {f o0 : Addr} {fd : FuncData}
theorem scWhl : FnScope nWh ["_law_u"] (defScope L_whole) := ⟨rfl, rfl, rfl, by decide +kernel, rfl, by decide +kernel, by decide +kernel⟩
theorem ok_lwhole (F : Fun K "_law_whole" "_law_whole" L_whole f fd) (mi : mg "int" = none) : FnOk P w K mg base CX0 1 f fd ["_law_u"] (spOol K) := by
  refine F.ok scWhl (fun vs H Q E h => ?_) (fun cdv A outer s H vs Q E hr h => ?_)
  · obtain ⟨x, qs, L, B, rfl, _⟩ := h
    rfl
  obtain ⟨x, qs, L, B, rfl, ⟨xa, xs, rfl, hx, nx⟩, l1, sL, lB, bz, q⟩ := h
  have bq : AllO qs := bz.ok sL lB
  refine ⟨_, pss_cons (ps_set (i := 1) scWhl.nd rfl (Or.inr rfl) pe_int)
    (pss_cons (ps_for PassesOwn.never rfl (pi_list (pv 0)) (pg_name (i := 2) scWhl.nd rfl (Or.inl rfl))
      (pss_cons (ps_par (i := 3) (j := 4) rfl scWhl.nd rfl rfl (by decide) rfl rfl (pa_cons (pv 1) (pa_cons (pe_ix ix_tup (pv 2) pe_int (fun _ _ => rfl)) pa_nil)) rfl)
      (C8.pss_cut (ps_while PassesOwn.never (pt_cmpR op_gt (pv 4) pe_int (nomark _)) (pss_one (ps_par (i := 3) (j := 4) rfl scWhl.nd rfl rfl (by decide) rfl rfl (pa_cons (pv 4) (pa_cons (pe_op op_mod (pe_callTy call_int1 rfl mi (by decide +kernel) (pa_cons (pv 3) pa_nil)) (pv 4)) pa_nil)) rfl)))
      (pss_one (ps_set (i := 1) scWhl.nd rfl (Or.inr rfl) (pe_op op_mulW (pe_op op_fdivA (pv 1) (pv 3)) (pe_ix ix_tup (pv 2) pe_int (fun _ _ => rfl))))))))
    (pss_one (ps_ret (pe_tup (pa_cons (pe_lc (own := [("_law_p", 2)]) (g := gName 2) (tt := tYes) rfl scWhl.nd (pi_list (pv 0)) (blkOk_by (N := nWh) (sc := defScope L_whole) (by decide +kernel))
      (fun _ _ _ _ _ => pg_name (i := 2) scWhl.nd rfl (Or.inl rfl)) (fun _ _ _ _ _ => pts_nil)
      (fun _ _ _ _ _ => pe_op op_mulW (pe_ix (ixt_at K rfl) (pv 2) pe_int (fun _ _ => rfl)) (pe_op op_fdivA (pv 1) (pe_ix (ixt_at K rfl) (pv 2) pe_int (fun _ _ => rfl))))) (pa_cons (pv 1) pa_nil)))))), ?_⟩
  have lx : xs.length = qs.length := nx.1
  have lcb : ∀ i, lcmL 1 (qs.take i) < 2 ^ 4450 := fun i => Nat.lt_of_le_of_lt (Nat.le_of_dvd sL.1 (AllD.lcm sL.1 (qs.take i) 1 (fun r hr => bz r (List.mem_of_mem_take hr)) (Nat.one_dvd _))) sL.2
  refine ⟨_, rfl, xa, rfl, ⟨_, SqL.of hx⟩, for_list (K := K) (a := xa) (xs := xs) (fun i σ H' => H' = H ∧ ∃ v2 v3 v4, σ = [some (.ref xa), some (.int (lcmL 1 (qs.take i) : Nat)), v2, v3, v4]) ⟨rfl, none, none, none, rfl⟩ (fun i σ H' _ h => by rw [h.1]; exact SqL.of hx) ?_ ?_⟩
  · rintro i x σ H' hi ⟨rfl, v2, v3, v4, rfl⟩
    obtain ⟨a, ea, na⟩ := nx.get hi
    obtain ⟨va, rfl, sa, _⟩ := na.sq
    have oa := bq a (List.mem_of_getElem? ea)
    have Lb := lcb i
    have Lp := lcmL_pos (qs.take i) 1 (by decide)
    have nxt : lcmL 1 (qs.take (i + 1)) = Nat.lcm (lcmL 1 (qs.take i)) a.den := by
      rw [List.take_add_one, ea, lcmL_app]
      rfl
    rw [nxt]
    generalize lcmL 1 (qs.take i) = M at *
    refine ⟨_, rfl, _, rfl, va, _, 1, _, rfl, rfl, sa, rfl, _, _, rfl, ?_⟩
    refine ⟨fun σ H2 => H2 = H' ∧ σ = [some (.ref xa), some (.int (M : Nat)), some (.ref va), some (.int (Nat.gcd M a.den : Nat)), some (.int 0)], ?_, ?_⟩
    · refine ⟨fun m σ H2 => H2 = H' ∧ ∃ x y : Nat, σ = [some (.ref xa), some (.int (M : Nat)), some (.ref va), some (.int x), some (.int y)] ∧ Nat.gcd x y = Nat.gcd M a.den ∧ y = m, ⟨a.den, rfl, M, a.den, rfl, rfl, rfl⟩, ?_⟩
      rintro m σ H2 ⟨rfl, x, y, rfl, hg, rfl⟩
      refine ⟨_, rfl, y, 0, rfl, rfl, _, rfl, ite2 (fun c => ?_) (fun c => ?_)⟩
      · have hb : (0 : Int) < (y : Nat) := of_decide_eq_true c
        refine ⟨fun σ' H3 => H3 = H2 ∧ σ' = [some (.ref xa), some (.int (M : Nat)), some (.ref va), some (.int y), some (.int ((x % y : Nat) : Int))], ?_, ?_⟩
        · rintro σ' H3 ⟨rfl, rfl⟩
          exact ⟨x % y, Nat.mod_lt _ (by omega), rfl, y, x % y, rfl, by rw [← hg, Nat.gcd_comm x y, Nat.gcd_rec y x, Nat.gcd_comm], rfl⟩
        · exact ⟨_, rfl, _, rfl, .inl ⟨_, rfl, _, rfl, x, y, rfl, rfl, hb, _, _, rfl, rfl, rfl⟩⟩
      · have hb : ¬ (0 : Int) < (y : Nat) := of_decide_eq_false (Bool.eq_false_iff.mpr c)
        obtain rfl : y = 0 := by omega
        rw [Nat.gcd_zero_right] at hg
        subst hg
        exact ⟨rfl, rfl⟩
    rintro σ H2 ⟨rfl, rfl⟩
    have g0 : 0 < Nat.gcd M a.den := Nat.gcd_pos_of_pos_left _ Lp
    refine ⟨_, rfl, _, rfl, (M : Nat), (Nat.gcd M a.den : Nat), rfl, rfl, ⟨by omega, small_log (n := 4450) (Nat.lt_of_le_of_lt (Nat.le_of_dvd Lp (Nat.gcd_dvd_left _ _)) Lb) (by decide) (by decide)⟩, _, rfl, _, _, 1, _, rfl, rfl, sa, rfl, _, _, rfl, rfl, ?_, rfl, some (.ref va), some (.int (Nat.gcd M a.den : Nat)), some (.int 0), ?_⟩
    · rw [Int.fdiv_eq_ediv_of_nonneg _ (by omega)]
      refine wide_mul (a := 4450) ?_ oa.dn (by decide) (by decide) (by decide)
      rw [← Int.natCast_ediv, Int.natAbs_natCast]
      exact Nat.lt_of_le_of_lt (Nat.div_le_self _ _) Lb
    · rw [Int.fdiv_eq_ediv_of_nonneg _ (by omega)]
      show [some (V.ref xa), some (V.int (((M : Nat) : Int) / ((Nat.gcd M a.den : Nat) : Int) * ((a.den : Nat) : Int))), some (V.ref va), some (V.int (Nat.gcd M a.den : Nat)), some (V.int 0)] = _
      rw [lcm_i]
  · rintro σ H' ⟨rfl, v2, v3, v4, rfl⟩
    rw [lx, List.take_length]
    refine ⟨_, rfl, xa, rfl, ⟨_, SqL.of hx⟩, fun D nD => ?_⟩
    have e0 := lcmL_pos qs 1 (by decide)
    have dv := (lcmL_dvd qs 1).2
    refine lc_acc (walk_list (K := K) (a := xa) (xs := xs)) (fun i _ y => ∀ a, qs[i]? = some a → y = .int (a.num * ((lcmL 1 qs : Nat) / (a.den : Nat)))) (fun i H H' y l h _ _ => h) nD (by omega) (fun H2 s => SqL.of (s _ _ hx)) ?_ ?_
    · rintro i x H2 H3 k hi s2 ⟨rfl, hx2⟩ hk
      obtain ⟨a, ea, na⟩ := nx.get hx2
      obtain ⟨va, rfl, sa, _⟩ := (na.same s2).sq
      have ba := bq a (List.mem_of_getElem? ea)
      have z : lcmL 1 qs < 2 ^ 4450 := Nat.lt_of_le_of_lt (Nat.le_of_dvd sL.1 (AllD.lcm sL.1 qs 1 bz (Nat.one_dvd _))) sL.2
      have cd : ((lcmL 1 qs : Nat) : Int) / ((a.den : Nat) : Int) = ((lcmL 1 qs / a.den : Nat) : Int) := rfl
      refine ⟨rfl, _, rfl, va, _, 0, _, rfl, rfl, sa, rfl, _, rfl, _, rfl, va, _, 1, _, rfl, rfl, sa, rfl, _, _, rfl, rfl, ⟨den_ne a, small_log ba.2 (by decide) (by decide)⟩, _, _, rfl, rfl, ?_, hk _ _ (Same.refl _) fun a' ha' => ?_⟩
      · rw [Int.fdiv_eq_ediv_of_nonneg _ (by omega), cd]
        refine wide_mul ba.1 (b := 4450) ?_ (by decide) (by decide) (by decide)
        rw [Int.natAbs_natCast]
        exact Nat.lt_of_le_of_lt (Nat.div_le_self _ _) z
      · rw [ea] at ha'
        rw [← Option.some.inj ha', Int.fdiv_eq_ediv_of_nonneg _ (by omega)]
    · intro H2 zs s2 hD hl hR
      have ez : zs = (upL (lcmL 1 qs) qs).map V.int := by
        apply List.ext_getElem?
        intro i
        unfold upL
        rw [List.map_map, List.getElem?_map]
        by_cases c : i < qs.length
        · rw [List.getElem?_eq_getElem c]
          have e := List.getElem?_eq_getElem (l := zs) (i := i) (by omega)
          rw [e]
          have := hR i _ e _ (List.getElem?_eq_getElem c)
          rw [this]
          rfl
        · rw [List.getElem?_eq_none (by omega), List.getElem?_eq_none (by omega)]
          rfl
      refine ⟨_, rfl, (by show 2 ≤ sizeLine; decide), fun p np => q D p _ (s2.trans (new_same np _)) nD (new_same np _ _ _ (by rw [hD, ez])) upd_same⟩
end
/-! ### products of lists of whole numbers -/
def cvp (xs ys : List Int) (k : Nat) : Nat → Int
  | 0 => 0
  | i + 1 => cvp xs ys k i + (if i ≤ k then xs.getD i 0 * ys.getD (k - i) 0 else 0)
def cvI (xs ys : List Int) : List Int := (List.range xs.length).map fun k => cvp xs ys k xs.length
theorem cvI_len (xs ys : List Int) : (cvI xs ys).length = xs.length := by unfold cvI; rw [List.length_map, List.length_range]
def spConv (K : PySem.W.Frag) : Sp := fun vs H Q _ => ∃ (a b : Addr) (xs ys : List Int) (A B : Nat), vs = [.ref a, .ref b] ∧ SqL K H a (xs.map V.int) ∧ SqL K H b (ys.map V.int) ∧ xs.length = ys.length ∧ ys.length ≤ 40 ∧ (∀ x ∈ xs, x.natAbs < 2 ^ A) ∧ (∀ y ∈ ys, y.natAbs < 2 ^ B) ∧ A + B ≤ 900000 ∧
  ∀ c H', Same H H' → H c = none → H' c = some (.lst ((cvI xs ys).map V.int)) → Q (.ref c) H'
abbrev nCv : List Str := ["_law_xs", "_law_ys", "_law_found", "_law_i", "_law_j"]
theorem set_range {n i : Nat} (f : Nat → Int) (v : Int) (h : i < n) : ((List.range n).map fun k => V.int (f k)).set i (.int v) = (List.range n).map fun k => V.int (if k = i then v else f k) := by
  apply List.ext_getElem?
  intro j
  rw [List.getElem?_set, List.getElem?_map, List.getElem?_map, List.length_map, List.length_range]
  by_cases c : i = j
  · subst c
    rw [if_pos rfl, if_pos h, List.getElem?_range h]
    show _ = some (V.int (if i = i then v else f i))
    rw [if_pos rfl]
  · rw [if_neg c]
    rcases Nat.lt_or_ge j n with d | d
    · rw [List.getElem?_range d]
      show some (V.int (f j)) = some (V.int (if j = i then v else f j))
      rw [if_neg (fun z => c z.symm)]
    · rw [List.getElem?_eq_none (by rw [List.length_range]; exact d)]
      rfl
theorem cvp_stay (xs ys : List Int) (k : Nat) : ∀ m, k + 1 ≤ m → cvp xs ys k m = cvp xs ys k (k + 1) := fun m h => by
  induction h with
  | refl => rfl
  | step h ih =>
    rename_i m
    show cvp xs ys k m + (if m ≤ k then _ else 0) = _
    have h' : k + 1 ≤ m := h
    rw [ih, if_neg (by omega), Int.add_zero]
theorem cvp_bd {xs ys : List Int} {A B : Nat} (hx : ∀ x ∈ xs, x.natAbs < 2 ^ A) (hy : ∀ y ∈ ys, y.natAbs < 2 ^ B) (k : Nat) : ∀ i, (cvp xs ys k i).natAbs ≤ i * 2 ^ (A + B)
  | 0 => by simp [cvp]
  | i + 1 => by
    have ih := cvp_bd hx hy k i
    have gx : ∀ j, (xs.getD j 0).natAbs < 2 ^ A := fun j => by
      rw [List.getD_eq_getElem?_getD]
      cases e : xs[j]? with
      | none => exact Nat.pow_pos (by decide)
      | some x => exact hx x (List.mem_of_getElem? e)
    have gy : ∀ j, (ys.getD j 0).natAbs < 2 ^ B := fun j => by
      rw [List.getD_eq_getElem?_getD]
      cases e : ys[j]? with
      | none => exact Nat.pow_pos (by decide)
      | some y => exact hy y (List.mem_of_getElem? e)
    show (cvp xs ys k i + (if i ≤ k then xs.getD i 0 * ys.getD (k - i) 0 else 0)).natAbs ≤ _
    have h1 := Int.natAbs_add_le (cvp xs ys k i) (if i ≤ k then xs.getD i 0 * ys.getD (k - i) 0 else 0)
    have h2 : (if i ≤ k then xs.getD i 0 * ys.getD (k - i) 0 else 0 : Int).natAbs ≤ 2 ^ (A + B) := by
      split
      · exact Nat.le_of_lt (lt_mul (gx i) (gy (k - i)))
      · exact Nat.zero_le _
    rw [Nat.succ_mul]
    omega
section
variable {P : Program} {w : World} {K : PySem.W.Frag} {mg : Str → Option Value} {base : Heap} {f o0 : Addr} {fd : FuncData}
theorem scCvl : FnScope nCv ["_law_xs", "_law_ys"] (defScope L_conv) := ⟨rfl, rfl, rfl, by decide +kernel, rfl, by decide +kernel, by decide +kernel⟩
theorem int_at {xs : List Int} {i : Nat} (h : i < xs.length) : (xs.map V.int)[i]? = some (.int (xs.getD i 0)) := by
  rw [List.getElem?_map, List.getElem?_eq_getElem h, List.getD_eq_getElem?_getD, List.getElem?_eq_getElem h]
  rfl
theorem getD_mem {xs : List Int} {i : Nat} (h : i < xs.length) : xs.getD i 0 ∈ xs := by
  rw [List.getD_eq_getElem?_getD, List.getElem?_eq_getElem h]
  exact List.getElem_mem h
theorem ok_lconv (F : Fun K "_law_conv" "_law_conv" L_conv f fd) (mn : mg "len" = none) (mr : mg "range" = none) : FnOk P w K mg base CX0 1 f fd ["_law_xs", "_law_ys"] (spConv K) := by
  refine F.ok scCvl (fun vs H Q E h => ?_) (fun cdv A outer s H vs Q E hr h => ?_)
  · obtain ⟨a, b, xs, ys, A, B, rfl, _⟩ := h
    rfl
  obtain ⟨a, b, xs, ys, A, B, rfl, ha, hb, le, l40, bx, by', ab, q⟩ := h
  refine ⟨_, pss_cons (ps_set (i := 2) scCvl.nd rfl (Or.inl rfl) (pe_op op_rep (pe_lst (pa_cons pe_int pa_nil)) (pe_callB call_len_seq rfl mn PySem.boot_len (pa_cons (pv 0) pa_nil))))
    (pss_cons (ps_for PassesOwn.never rfl (pi_range1 rfl mr (pa_cons (pe_callB call_len_seq rfl mn PySem.boot_len (pa_cons (pv 0) pa_nil)) pa_nil)) (pg_name (i := 3) scCvl.nd rfl (Or.inl rfl))
      (pss_one (ps_if (pt_cmpR op_ne (pe_ix ix_list (pv 0) (pv 3) (fun _ _ => rfl)) pe_int (nomark _))
        (pss_one (ps_for PassesOwn.never rfl (pi_range1 rfl mr (pa_cons (pe_op op_sub (pe_callB call_len_seq rfl mn PySem.boot_len (pa_cons (pv 0) pa_nil)) (pv 3)) pa_nil)) (pg_name (i := 4) scCvl.nd rfl (Or.inl rfl))
          (pss_one (ps_asg (pe_op op_add (pe_ix ix_list (pv 2) (pe_op op_add (pv 3) (pv 4)) (fun _ _ => rfl)) (pe_op op_mulW (pe_ix ix_list (pv 0) (pv 3) (fun _ _ => rfl)) (pe_ix ix_list (pv 1) (pv 4) (fun _ _ => rfl)))) (pg_sub (pv 2) (pe_op op_add (pv 3) (pv 4)) set_list))))) pss_nil)))
    (pss_one (ps_ret (pv 2)))), ?_⟩
  have lxs : (xs.map V.int).length = xs.length := List.length_map _
  refine ⟨(by show 1 ≤ sizeLine; decide), fun c nc => ?_⟩
  have s1 := new_same nc (HO.lst [V.int 0])
  refine ⟨_, rfl, a, _, rfl, .inl (s1.seq ha), c, (((xs.map V.int).length : Nat) : Int), [.int 0], rfl, rfl, upd_same, by omega, by omega, (by show 1 * _ ≤ sizeLine; exact Nat.le_of_lt (small1000 (by omega))), fun d nd => ?_⟩
  have rep : (List.replicate ((((xs.map V.int).length : Nat) : Int)).toNat [V.int 0]).flatten = (List.range xs.length).map fun k => V.int (cvp xs ys k 0) := by
    rw [List.flatten_replicate_singleton, Int.toNat_natCast, lxs]
    apply List.ext_getElem?
    intro j
    rw [List.getElem?_replicate, List.getElem?_map]
    rcases Nat.lt_or_ge j xs.length with h | h
    · rw [if_pos h, List.getElem?_range h]
      rfl
    · rw [if_neg (by omega), List.getElem?_eq_none (by rw [List.length_range]; exact h)]
      rfl
  rw [rep]
  have s2 := s1.trans (new_same nd (HO.lst ((List.range xs.length).map fun k => V.int (cvp xs ys k 0))))
  have nd0 : H d = none := s1.free nd
  refine ⟨_, rfl, a, _, rfl, .inl (s2.seq ha), ?_⟩
  refine ⟨_, rfl, by omega, by omega, for_range (lo := 0) (n := ((((xs.map V.int).length : Nat) : Int)).toNat) (fun i σ H' => Same H H' ∧ (∃ v3 v4, σ = [some (.ref a), some (.ref b), some (.ref d), v3, v4]) ∧ H' d = some (.lst ((List.range xs.length).map fun k => V.int (cvp xs ys k i)))) ⟨s2, ⟨none, none, rfl⟩, upd_same⟩ ?_ ?_⟩
  · rintro i σ H3 hi ⟨s3, ⟨v3, v4, rfl⟩, hd⟩
    have hi' : i < xs.length := by omega
    refine ⟨_, rfl, _, rfl, a, _, 0 + (i : Int), _, rfl, rfl, s3.seq ha, at_of (j := i) (by omega) (int_at hi'), rfl, _, rfl, ?_⟩
    by_cases cz : xs.getD i 0 = 0
    · rw [decide_eq_true (congrArg V.int cz)]
      refine iteF ⟨s3, ⟨_, v4, rfl⟩, ?_⟩
      rw [hd]
      congr 2
      refine List.map_congr_left fun k _ => ?_
      show V.int (cvp xs ys k i) = V.int (cvp xs ys k i + (if i ≤ k then xs.getD i 0 * ys.getD (k - i) 0 else 0))
      rw [cz, Int.zero_mul]
      split <;> rw [Int.add_zero]
    rw [decide_eq_false (fun e => cz (V.int.inj e))]
    refine iteT ⟨_, rfl, a, _, rfl, .inl (s3.seq ha), _, rfl, _, 0 + (i : Int), rfl, rfl, ?_⟩
    refine ⟨_, rfl, by omega, by omega, for_range (lo := 0) (n := ((((xs.map V.int).length : Nat) : Int) - (0 + (i : Int))).toNat) (fun j σ H' => Same H H' ∧ (∃ v4, σ = [some (.ref a), some (.ref b), some (.ref d), some (.int (0 + (i : Int))), v4]) ∧ H' d = some (.lst ((List.range xs.length).map fun k => V.int (if i ≤ k ∧ k < i + j then cvp xs ys k (i + 1) else cvp xs ys k i)))) ⟨s3, ⟨v4, rfl⟩, ?_⟩ ?_ ?_⟩
    · rw [hd]
      congr 2
      refine List.map_congr_left fun k _ => ?_
      rw [if_neg (by omega)]
    · rintro j σ H4 hj ⟨s4, ⟨v4, rfl⟩, hd4⟩
      have hij : i + j < xs.length := by omega
      have g4 : ((List.range xs.length).map fun k => V.int (if i ≤ k ∧ k < i + j then cvp xs ys k (i + 1) else cvp xs ys k i))[i + j]? = some (.int (cvp xs ys (i + j) i)) := by
        rw [List.getElem?_map, List.getElem?_range hij]
        show some (V.int (if i ≤ i + j ∧ i + j < i + j then _ else _)) = _
        rw [if_neg (by omega)]
      have gx := bx _ (getD_mem hi')
      have gy := by' _ (getD_mem (xs := ys) (i := j) (by omega))
      have cm : CMulW (xs.getD i 0) (ys.getD j 0) := wide_mul (a := A + 1) (b := B + 1) (Nat.lt_of_lt_of_le gx (Nat.pow_le_pow_right (by decide) (by omega))) (Nat.lt_of_lt_of_le gy (Nat.pow_le_pow_right (by decide) (by omega))) (by omega) (by omega) (by omega)
      refine ⟨_, rfl, _, rfl, _, rfl, 0 + (i : Int), 0 + (j : Int), rfl, rfl, d, _, _, _, rfl, rfl, SqL.of hd4, at_of (j := i + j) (by omega) g4, _, rfl, _, rfl, a, _, 0 + (i : Int), _, rfl, rfl, s4.seq ha, at_of (j := i) (by omega) (int_at hi'), _, rfl, _, rfl, b, _, 0 + (j : Int), _, rfl, rfl, s4.seq hb, at_of (j := j) (by omega) (int_at (by omega)), _, _, rfl, rfl, cm, _, _, rfl, rfl, _, rfl, _, rfl, _, rfl, 0 + (i : Int), 0 + (j : Int), rfl, rfl, d, _, _, i + j, rfl, rfl, hd4, ?_, ?_⟩
      · show ixN _ _ = _
        rw [List.length_map, List.length_range, show (0 + (i : Int) + (0 + (j : Int))) = ((i + j : Nat) : Int) by omega]
        unfold ixN
        rw [if_pos (by omega), if_pos (by omega)]
        congr 1
      · refine ⟨?_, ⟨_, rfl⟩, ?_⟩
        · intro e o he
          have ne : e ≠ d := fun z => by rw [z, nd0] at he; cases he
          rw [upd_ne ne]
          exact s4 _ _ he
        · rw [upd_same, set_range _ _ hij]
          congr 2
          refine List.map_congr_left fun k hk => ?_
          by_cases ck : k = i + j
          · subst ck
            rw [if_pos rfl, if_pos (by omega)]
            show V.int (_ + _) = V.int (cvp xs ys (i + j) i + (if i ≤ i + j then xs.getD i 0 * ys.getD (i + j - i) 0 else 0))
            rw [if_pos (by omega), show i + j - i = j by omega]
          · rw [if_neg ck]
            by_cases c2 : i ≤ k ∧ k < i + j
            · rw [if_pos c2, if_pos (by omega)]
            · rw [if_neg c2, if_neg (by omega)]
    · rintro σ H4 ⟨s4, ⟨v4, rfl⟩, hd4⟩
      refine ⟨s4, ⟨_, v4, rfl⟩, ?_⟩
      rw [hd4]
      congr 2
      refine List.map_congr_left fun k hk => ?_
      have hk' := List.mem_range.mp hk
      by_cases c : i ≤ k
      · rw [if_pos ⟨c, by omega⟩]
      · rw [if_neg (fun z => c z.1)]
        show V.int (cvp xs ys k i) = V.int (cvp xs ys k i + (if i ≤ k then _ else 0))
        rw [if_neg c, Int.add_zero]
  · rintro σ H3 ⟨s3, ⟨v3, v4, rfl⟩, hd⟩
    rw [Int.toNat_natCast, lxs] at hd
    refine ⟨_, rfl, q d H3 s3 nd0 ?_⟩
    rw [hd]
    unfold cvI
    rw [List.map_map]
    rfl
end
end Kx
end
section
set_option maxHeartbeats 4000000
namespace Kx
open PySem PySem.Spec PyProof.Rows L2 RZ
/-! ### the law's putting in, from the highest number down -/
def hS (us : List Rat) (f : Ser) : Nat → Ser
  | 0 => fun _ => 0
  | i + 1 => fun k => mulS (hS us f i) f k + (if k = 0 then us.getD (us.length - 1 - i) 0 else 0)
theorem mul_sum (c : Nat → Rat) (g : Nat → Ser) (f : Ser) (N n : Nat) : mulS (fun i => sumN (fun k => c k * g k i) N) f n = sumN (fun k => c k * mulS (g k) f n) N := by
  have e1 : mulS (fun i => sumN (fun k => c k * g k i) N) f n = sumN (fun j => sumN (fun k => c k * (g k j * f (n - j))) N) (n + 1) := sum_congr fun j _ => by
    rw [← sum_mulR]
    exact sum_congr fun k _ => Rat.mul_assoc _ _ _
  rw [e1, sum_swap]
  exact sum_congr fun k _ => sum_mul (c k) _ _
theorem hS_eq (us : List Rat) (f : Ser) : ∀ i, i ≤ us.length → ∀ k, hS us f i k = sumN (fun j => ser us (us.length - i + j) * powS f j k) i
  | 0, _, _ => rfl
  | i + 1, hi, k => by
    show mulS (hS us f i) f k + (if k = 0 then us.getD (us.length - 1 - i) 0 else 0) = _
    have e : hS us f i = fun k => sumN (fun j => ser us (us.length - i + j) * powS f j k) i := funext (hS_eq us f i (by omega))
    rw [e, mul_sum (fun j => ser us (us.length - i + j)) (fun j => powS f j) f i k, sum_first, Rat.add_comm]
    congr 1
    · show (if k = 0 then us.getD (us.length - 1 - i) 0 else 0) = ser us (us.length - (i + 1) + 0) * (if k = 0 then 1 else 0)
      rw [show us.length - (i + 1) + 0 = us.length - 1 - i by omega]
      split
      · exact (Rat.mul_one _).symm
      · exact (Rat.mul_zero _).symm
    · refine sum_congr fun j hj => ?_
      show ser us (us.length - i + j) * mulS (powS f j) f k = ser us (us.length - (i + 1) + (j + 1)) * powS f (j + 1) k
      rw [show us.length - (i + 1) + (j + 1) = us.length - i + j by omega]
      rfl
theorem hS_end {us : List Rat} {f : Ser} (f0 : f 0 = 0) {k : Nat} (hk : k < us.length) : hS us f us.length k = cmpS (ser us) f k := by
  rw [hS_eq us f us.length (Nat.le_refl _), ← cmpS_to f0 hk]
  refine sum_congr fun j _ => ?_
  rw [Nat.sub_self, Nat.zero_add]
theorem cvp_val {zs ys : List Int} {h f : Ser} {d e : Rat} {k : Nat} (hz : ∀ a, a ≤ k → ((zs.getD a 0 : Int) : Rat) = h a * d) (hy : ∀ a, ((ys.getD a 0 : Int) : Rat) = f a * e) : ∀ m, m ≤ k + 1 → ((cvp zs ys k m : Int) : Rat) = sumN (fun a => h a * f (k - a)) m * (d * e)
  | 0, _ => by
    show ((0 : Int) : Rat) = 0 * _
    rw [Rat.zero_mul]
    rfl
  | m + 1, hm => by
    show ((cvp zs ys k m + (if m ≤ k then zs.getD m 0 * ys.getD (k - m) 0 else 0) : Int) : Rat) = (sumN _ m + h m * f (k - m)) * _
    rw [if_pos (show m ≤ k by omega), Rat.intCast_add, cvp_val hz hy m (by omega), Rat.intCast_mul, hz m (by omega), hy]
    grind
def spPutL (K : PySem.W.Frag) : Sp := fun vs H Q _ => ∃ (x y : V) (us fs : List Rat) (L B M C : Nat), vs = [x, y] ∧ Ls K H x us ∧ Ls K H y fs ∧ us.length = fs.length ∧ 1 ≤ us.length ∧ us.length ≤ 28 ∧ ser fs 0 = 0 ∧ SmL L ∧ B ≤ 20000 ∧ SmL M ∧ C ≤ 20000 ∧ L * M ^ us.length < 2 ^ 9000 ∧ AllD L B us ∧ AllD M C fs ∧
  GivesL K H Q (toL us.length (cmpS (ser us) (ser fs)))
abbrev nPu : List Str := ["_law_u", "_law_f", "_law_xs", "_law_den_x", "_law_ys", "_law_den_y", "_law_found", "_law_scale_y", "_law_n"]
theorem upL_part {L B : Nat} {qs : List Rat} (h : AllD L B qs) (l0 : 0 < L) : ∀ x ∈ upL (lcmL 1 qs) qs, x.natAbs < 2 ^ B := fun x hx => by
  unfold upL at hx
  obtain ⟨q, hq, rfl⟩ := List.mem_map.mp hx
  exact (h q hq).part l0 (AllD.lcm l0 qs 1 h (Nat.one_dvd _)) (up_val ((lcmL_dvd qs 1).2 q hq))
theorem upL_val (qs : List Rat) (a : Nat) : (((upL (lcmL 1 qs) qs).getD a 0 : Int) : Rat) = ser qs a * ((lcmL 1 qs : Nat) : Rat) := getD_up (lcmL_dvd qs 1).2 a
theorem div_of' {u : Int} {L : Nat} {r : Rat} (L0 : 0 < L) (hu : (u : Rat) = r * (L : Rat)) : Rat.divInt u (L : Int) = r := div_of L0 hu
theorem ints_rev {xs : List Int} {i : Nat} (h : i < xs.length) : ((xs.map V.int).reverse)[i]? = some (.int (xs.getD (xs.length - 1 - i) 0)) := by
  rw [List.getElem?_reverse (by rw [List.length_map]; exact h), List.length_map]
  exact int_at (by omega)
section
variable {P : Program} {w : World} {K : PySem.W.Frag} {mg : Str → Option Value} {base : Heap} {f o0 : Addr} {fd : FuncData}
theorem scPuL : FnScope nPu ["_law_u", "_law_f"] (defScope L_put) := ⟨rfl, rfl, rfl, by decide +kernel, rfl, by decide +kernel, by decide +kernel⟩
theorem ok_lput (F : Fun K "_law_put" "_law_put" L_put f fd) (mn : mg "len" = none) (UW : Use P w K mg base CX0 1 "_law_whole" ["_law_u"] (spOol K) []) (UC : Use P w K mg base CX0 1 "_law_conv" ["_law_xs", "_law_ys"] (spConv K) []) (UL : Use P w K mg base CX0 1 "_law_low" ["_law_num_here", "_law_den"] spLowQ []) : FnOk P w K mg base CX0 2 f fd ["_law_u", "_law_f"] (spPutL K) := by
  refine F.ok scPuL (fun vs H Q E h => ?_) (fun cdv A outer s H vs Q E hr h => ?_)
  · obtain ⟨x, y, us, fs, L, B, M, C, rfl, _⟩ := h
    rfl
  obtain ⟨x, y, us, fs, L, B, M, C, rfl, lx, ly, le, l1, l28, f0, sL, lB, sM, lC, lm, zu, zf, q⟩ := h
  refine ⟨_, pss_cons (ps_asg (pe_use UW hr rfl pass0 (pa_cons (pv 0) pa_nil)) (pg_tup rfl (pgs_cons (pg_name (i := 2) scPuL.nd rfl (Or.inl rfl)) (pgs_cons (pg_name (i := 3) scPuL.nd rfl (Or.inr rfl)) pgs_nil))))
    (pss_cons (ps_asg (pe_use UW hr rfl pass0 (pa_cons (pv 1) pa_nil)) (pg_tup rfl (pgs_cons (pg_name (i := 4) scPuL.nd rfl (Or.inl rfl)) (pgs_cons (pg_name (i := 5) scPuL.nd rfl (Or.inl rfl)) pgs_nil))))
    (pss_cons (ps_asg (pe_tup (pa_cons (pe_op op_rep (pe_lst (pa_cons pe_int pa_nil)) (pe_callB call_len_seq rfl mn PySem.boot_len (pa_cons (pv 0) pa_nil))) (pa_cons pe_int pa_nil))) (pg_tup rfl (pgs_cons (pg_name (i := 6) scPuL.nd rfl (Or.inl rfl)) (pgs_cons (pg_name (i := 7) scPuL.nd rfl (Or.inr rfl)) pgs_nil))))
    (pss_cons (ps_for PassesOwn.never rfl (pi_list (pe_revL (pv 2))) (pg_name (i := 8) scPuL.nd rfl (Or.inl rfl))
      (pss_cons (ps_set (i := 6) scPuL.nd rfl (Or.inl rfl) (pe_use UC hr rfl pass0 (pa_cons (pv 6) (pa_cons (pv 4) pa_nil))))
      (pss_cons (ps_set (i := 7) scPuL.nd rfl (Or.inr rfl) (pe_op op_mulW (pv 7) (pv 5)))
      (pss_one (ps_asg (pe_op op_add (pe_ix ix_list (pv 6) pe_int (fun _ _ => rfl)) (pe_op op_mulW (pv 8) (pv 7))) (pg_sub (pv 6) pe_int set_list))))))
    (pss_one (ps_ret (pe_lc (own := [("_law_n", 8)]) (g := gName 8) (tt := tYes) rfl scPuL.nd (pi_list (pv 6)) (blkOk_by (N := nPu) (sc := defScope L_put) (by decide +kernel))
      (fun _ _ _ _ _ => pg_name (i := 8) scPuL.nd rfl (Or.inl rfl)) (fun _ _ _ _ _ => pts_nil)
      (fun _ _ _ _ _ => pe_use UL hr rfl pass0 (pa_cons (pv 8) (pa_cons (pe_op op_mulW (pv 3) (pv 7)) pa_nil))))))))), ?_⟩
  refine ⟨_, rfl, x, us, L, B, rfl, lx, by omega, sL, by omega, zu, fun b1 p1 H1 s1 n1 e1 t1 => ?_⟩
  refine ⟨p1, _, rfl, SqT.of t1, rfl, _, _, rfl, _, _, rfl, rfl, ?_⟩
  refine ⟨_, rfl, y, fs, M, C, rfl, ly.same s1, by omega, sM, by omega, zf, fun b2 p2 H2 s2 n2 e2 t2 => ?_⟩
  refine ⟨p2, _, rfl, SqT.of t2, rfl, _, _, rfl, _, _, rfl, rfl, ?_⟩
  have lx2 := (lx.same s1).same s2
  obtain ⟨xa, xs, rfl, hx, nx⟩ := lx2
  have hl : xs.length = us.length := nx.1
  have f1 := s2 _ _ e1
  have s12 := s1.trans s2
  have ux := upL_part zu sL.1
  have uy := upL_part zf sM.1
  have vx := upL_val us
  have vy := upL_val fs
  have dxp := lcmL_pos us 1 (by decide)
  have dyp := lcmL_pos fs 1 (by decide)
  have dxl : lcmL 1 us ≤ L := Nat.le_of_dvd sL.1 (AllD.lcm sL.1 us 1 zu (Nat.one_dvd _))
  have dyl : lcmL 1 fs ≤ M := Nat.le_of_dvd sM.1 (AllD.lcm sM.1 fs 1 zf (Nat.one_dvd _))
  have lux : (upL (lcmL 1 us) us).length = us.length := upL_len _ _
  have luy : (upL (lcmL 1 fs) fs).length = fs.length := upL_len _ _
  clear s1 s2 t1 t2 e1 n1 n2 lx ly nx
  generalize upL (lcmL 1 us) us = xi at *
  generalize upL (lcmL 1 fs) fs = yi at *
  generalize lcmL 1 us = dx at *
  generalize lcmL 1 fs = dy at *
  have dyb : ∀ i, i ≤ us.length → dx * dy ^ i < 2 ^ 9000 := fun i hi => by
    refine Nat.lt_of_le_of_lt (Nat.mul_le_mul dxl (Nat.le_trans (Nat.pow_le_pow_left dyl i) (Nat.pow_le_pow_right sM.1 hi))) lm
  have dyb2 : ∀ i, i ≤ us.length → dy ^ i < 2 ^ 9000 := fun i hi => Nat.lt_of_le_of_lt (Nat.le_mul_of_pos_left _ dxp) (dyb i hi)
  refine ⟨(by show 1 ≤ sizeLine; decide), fun c nc => ?_⟩
  have sc := new_same nc (HO.lst [V.int 0])
  refine ⟨_, rfl, xa, xs, rfl, .inl (SqL.of (sc _ _ hx)), c, ((xs.length : Nat) : Int), [.int 0], rfl, rfl, upd_same, by omega, by omega, (by show 1 * _ ≤ sizeLine; exact Nat.le_of_lt (small1000 (by omega))), fun d nd => ?_⟩
  have rep : (List.replicate (((xs.length : Nat) : Int)).toNat [V.int 0]).flatten = (List.replicate us.length (0 : Int)).map V.int := by
    rw [List.flatten_replicate_singleton, Int.toNat_natCast, hl, List.map_replicate]
  rw [rep]
  have sd := sc.trans (new_same nd (HO.lst ((List.replicate us.length (0 : Int)).map V.int)))
  have ed : upd (upd H2 c (HO.lst [V.int 0])) d (HO.lst ((List.replicate us.length (0 : Int)).map V.int)) d = some (HO.lst ((List.replicate us.length (0 : Int)).map V.int)) := upd_same
  have nd2 : H2 d = none := sc.free nd
  generalize upd (upd H2 c (HO.lst [V.int 0])) d (HO.lst ((List.replicate us.length (0 : Int)).map V.int)) = H3 at sd ed
  refine ⟨(by show 2 ≤ sizeLine; decide), fun t nt => ?_⟩
  have st := sd.trans (new_same nt (HO.tup [.ref d, .int 1]))
  refine ⟨t, _, rfl, SqT.of upd_same, rfl, _, _, rfl, _, _, rfl, rfl, ?_⟩
  have ed' := new_same nt (HO.tup [V.ref d, .int 1]) _ _ ed
  generalize upd H3 t (HO.tup [V.ref d, .int 1]) = H4 at st ed'
  refine ⟨_, rfl, b1, _, rfl, SqL.of (st _ _ f1), fun r nr => ?_⟩
  have dr : d ≠ r := fun z => by rw [z, nr] at ed'; cases ed'
  have sr := st.trans (new_same nr (HO.lst (xi.map V.int).reverse))
  have ed2 := new_same nr (HO.lst (xi.map V.int).reverse) _ _ ed'
  have er : upd H4 r (HO.lst (xi.map V.int).reverse) r = some (HO.lst (xi.map V.int).reverse) := upd_same
  have nr2 : H2 r = none := st.free nr
  generalize upd H4 r (HO.lst (xi.map V.int).reverse) = H5 at sr ed2 er
  refine ⟨r, rfl, ⟨_, SqL.of er⟩, for_list (K := K) (a := r) (xs := (xi.map V.int).reverse) (fun i σ H' => Same H2 H' ∧ H' r = some (HO.lst (xi.map V.int).reverse) ∧ ∃ (d : Addr) (v8 : Option V) (zs : List Int), σ = [some (.ref xa), some y, some (.ref b1), some (.int (dx : Nat)), some (.ref b2), some (.int (dy : Nat)), some (.ref d), some (.int ((dy ^ i : Nat))), v8] ∧
      H' d = some (.lst (zs.map V.int)) ∧ H2 d = none ∧ d ≠ r ∧ zs.length = us.length ∧ (∀ k, k < us.length → ((zs.getD k 0 : Int) : Rat) = hS us (ser fs) i k * ((dx * dy ^ i : Nat) : Rat)) ∧ ∀ z ∈ zs, z.natAbs < 2 ^ (25000 * (i + 1)))
    ⟨sr, er, d, none, _, rfl, ed2, nd2, dr, List.length_replicate, fun k hk => ?_, fun z hz => ?_⟩ (fun i σ H' _ h => SqL.of h.2.1) ?_ ?_⟩
  · rw [List.getD_eq_getElem?_getD, List.getElem?_replicate, if_pos hk]
    show ((0 : Int) : Rat) = 0 * _
    rw [Rat.zero_mul]
    rfl
  · rw [List.eq_of_mem_replicate hz]
    exact Nat.pow_pos (by decide)
  · rintro i z0 σ H6 hz0 ⟨s6, r6, d, v8, zs, rfl, hd, nd', ndr, lz, vz, bz⟩
    have hi : i < us.length := by
      rcases Nat.lt_or_ge i us.length with c | c
      · exact c
      · rw [List.getElem?_eq_none (by rw [List.length_reverse, List.length_map]; omega)] at hz0; cases hz0
    rw [ints_rev (by omega)] at hz0
    obtain rfl := Option.some.inj hz0
    have xm := ux _ (getD_mem (xs := xi) (i := xi.length - 1 - i) (by omega))
    have xv : ((xi.getD (xi.length - 1 - i) 0 : Int) : Rat) = us.getD (us.length - 1 - i) 0 * ((dx : Nat) : Rat) := by
      rw [vx, lux]
      rfl
    generalize xi.getD (xi.length - 1 - i) 0 = n at xm xv
    refine ⟨_, rfl, _, rfl, d, b2, zs, yi, 25000 * (i + 1), C, rfl, SqL.of hd, SqL.of (s6 _ _ e2), by omega, by omega, bz, uy, by omega, fun c H7 s7 nc7 e7 => ?_⟩
    have lcv : (cvI zs yi).length = us.length := by rw [cvI_len, lz]
    refine ⟨_, rfl, _, rfl, ((dy ^ i : Nat) : Int), (dy : Nat), rfl, rfl, ?_, ?_⟩
    · exact wide_mul (a := 9000) (b := 4450) (by rw [Int.natAbs_natCast]; exact dyb2 i (by omega)) (by rw [Int.natAbs_natCast]; exact Nat.lt_of_le_of_lt dyl sM.2) (by decide) (by decide) (by decide)
    have g0 : ((cvI zs yi).map V.int)[0]? = some (.int ((cvI zs yi).getD 0 0)) := int_at (by omega)
    have epw : ((dy ^ i : Nat) : Int) * (dy : Nat) = ((dy ^ (i + 1) : Nat) : Int) := by rw [Nat.pow_succ, Int.natCast_mul]
    refine ⟨_, rfl, c, _, 0, _, rfl, rfl, SqL.of e7, at_of (j := 0) rfl g0, _, rfl, _, rfl, n, ((dy ^ i : Nat) : Int) * (dy : Nat), rfl, rfl, ?_, _, _, rfl, rfl, _, rfl, c, _, 0, 0, rfl, rfl, e7, ?_, ?_⟩
    · rw [epw]
      exact wide_mul (a := B + 1) (b := 9000) (Nat.lt_of_lt_of_le xm (Nat.pow_le_pow_right (by decide) (by omega))) (by rw [Int.natAbs_natCast]; exact dyb2 (i + 1) (by omega)) (by omega) (by decide) (by omega)
    · show ixN _ 0 = some 0
      unfold ixN
      rw [if_pos (by decide), if_pos (by rw [List.length_map, lcv]; omega)]
      rfl
    rw [epw]
    have nc2 : H2 c = none := s6.free nc7
    have ncr : c ≠ r := fun z => by rw [z, r6] at nc7; cases nc7
    refine ⟨?_, by rw [upd_ne (Ne.symm ncr)]; exact s7 _ _ r6, c, _, (cvI zs yi).set 0 ((cvI zs yi).getD 0 0 + n * ((dy ^ (i + 1) : Nat) : Int)), rfl, ?_, nc2, ncr, by rw [List.length_set]; exact lcv, fun k hk => ?_, fun z hz => ?_⟩
    · intro e o he
      rw [upd_ne (fun z => by rw [z, nc2] at he; cases he)]
      exact s7 _ _ (s6 _ _ he)
    · rw [upd_same, List.map_set]
    · have val : (((cvI zs yi).getD k 0 : Int) : Rat) = mulS (hS us (ser fs) i) (ser fs) k * ((dx * dy ^ (i + 1) : Nat) : Rat) := by
        have e1 : (cvI zs yi).getD k 0 = cvp zs yi k (k + 1) := by
          unfold cvI
          rw [List.getD_eq_getElem?_getD, List.getElem?_map, List.getElem?_range (by omega)]
          exact cvp_stay zs yi k _ (by omega)
        rw [e1, cvp_val (h := hS us (ser fs) i) (f := ser fs) (d := ((dx * dy ^ i : Nat) : Rat)) (e := ((dy : Nat) : Rat)) (fun a ha => vz a (by omega)) vy (k + 1) (Nat.le_refl _)]
        have e2 : ((dx * dy ^ i : Nat) : Rat) * ((dy : Nat) : Rat) = ((dx * dy ^ (i + 1) : Nat) : Rat) := by
          rw [Nat.pow_succ, ← Nat.mul_assoc, Rat.natCast_mul (dx * dy ^ i) dy]
        rw [e2]
        rfl
      show _ = (mulS (hS us (ser fs) i) (ser fs) k + (if k = 0 then us.getD (us.length - 1 - i) 0 else 0)) * _
      rw [List.getD_eq_getElem?_getD, List.getElem?_set]
      by_cases ck : 0 = k
      · subst ck
        rw [if_pos rfl, if_pos (by omega), if_pos rfl]
        show (((cvI zs yi).getD 0 0 + n * ((dy ^ (i + 1) : Nat) : Int) : Int) : Rat) = _
        rw [Rat.intCast_add, val, Rat.intCast_mul, xv, Rat.natCast_mul dx (dy ^ (i + 1))]
        have : (((dy ^ (i + 1) : Nat) : Int) : Rat) = ((dy ^ (i + 1) : Nat) : Rat) := rfl
        rw [this]
        grind
      · rw [if_neg ck, if_neg (fun z => ck z.symm), ← List.getD_eq_getElem?_getD, val, Rat.add_zero]
    · have base : ∀ k, ((cvp zs yi k zs.length).natAbs) < 2 ^ (25000 * (i + 1) + 20005) := fun k => by
        refine Nat.lt_of_le_of_lt (cvp_bd bz uy k zs.length) ?_
        have h1 : zs.length * 2 ^ (25000 * (i + 1) + C) ≤ 28 * 2 ^ (25000 * (i + 1) + 20000) := Nat.mul_le_mul (by omega) (Nat.pow_le_pow_right (by decide) (by omega))
        have h2 : (2 : Nat) ^ (25000 * (i + 1) + 20005) = 32 * 2 ^ (25000 * (i + 1) + 20000) := by
          rw [show 25000 * (i + 1) + 20005 = 5 + (25000 * (i + 1) + 20000) by omega, Nat.pow_add]
        have h3 : 0 < 2 ^ (25000 * (i + 1) + 20000) := Nat.pow_pos (by decide)
        omega
      have mono : ∀ a, a < 2 ^ (25000 * (i + 1) + 20005) → a < 2 ^ (25000 * (i + 1 + 1)) := fun a h => Nat.lt_of_lt_of_le h (Nat.pow_le_pow_right (by decide) (by omega))
      rcases List.mem_or_eq_of_mem_set hz with hz | rfl
      · unfold cvI at hz
        obtain ⟨k, _, rfl⟩ := List.mem_map.mp hz
        exact mono _ (base k)
      · have h1 : ((cvI zs yi).getD 0 0).natAbs < 2 ^ (25000 * (i + 1) + 20005) := by
          unfold cvI
          rw [List.getD_eq_getElem?_getD, List.getElem?_map, List.getElem?_range (by omega)]
          exact base 0
        have h2 : (n * ((dy ^ (i + 1) : Nat) : Int)).natAbs < 2 ^ (25000 * (i + 1) + 20005) := by
          have := lt_mul (a := B) (b := 9000) xm (j := ((dy ^ (i + 1) : Nat) : Int)) (by rw [Int.natAbs_natCast]; exact dyb2 (i + 1) (by omega))
          exact Nat.lt_of_lt_of_le this (Nat.pow_le_pow_right (by decide) (by omega))
        exact Nat.lt_of_lt_of_le (lt_add h1 h2) (Nat.pow_le_pow_right (by decide) (by omega))
  · rintro σ H6 ⟨s6, r6, d, v8, zs, rfl, hd, nd', ndr, lz, vz, bz⟩
    rw [List.length_reverse, List.length_map, lux] at vz ⊢
    refine ⟨_, rfl, d, rfl, ⟨_, SqL.of hd⟩, fun D nD => ?_⟩
    refine lc_nums (K := K) (walk_list (K := K) (a := d) (xs := zs.map V.int)) (toL us.length (cmpS (ser us) (ser fs))) (by rw [toL_len, List.length_map, lz]) nD (by rw [List.length_map]; omega) (fun H' s => SqL.of (s _ _ hd)) ?_ (fun H' ws s h n => q D H' ws (s12.trans (s6.trans s)) (s12.free (s6.free nD)) h n)
    rintro i r x H7 k H8 hq s7 ⟨rfl, hx2⟩ hk
    have hi : i < us.length := by
      rcases Nat.lt_or_ge i us.length with c | c
      · exact c
      · rw [List.getElem?_eq_none (by rw [toL_len]; exact c)] at hq; cases hq
    rw [int_at (by omega)] at hx2
    obtain rfl := Option.some.inj hx2
    rw [toL_get hi] at hq
    obtain rfl := Option.some.inj hq
    have e1 : ((dx : Nat) : Int) * ((dy ^ us.length : Nat) : Int) = ((dx * dy ^ us.length : Nat) : Int) := (Int.natCast_mul _ _).symm
    refine ⟨rfl, _, rfl, _, rfl, _, rfl, (dx : Nat), ((dy ^ us.length : Nat) : Int), rfl, rfl, ?_, ?_⟩
    · exact wide_mul (a := 4450) (b := 9000) (by rw [Int.natAbs_natCast]; exact Nat.lt_of_le_of_lt dxl sL.2) (by rw [Int.natAbs_natCast]; exact dyb2 _ (Nat.le_refl _)) (by decide) (by decide) (by decide)
    have pz : 0 < dx * dy ^ us.length := Nat.mul_pos dxp (Nat.pow_pos dyp)
    refine ⟨zs.getD i 0, ((dx : Nat) : Int) * ((dy ^ us.length : Nat) : Int), rfl, by rw [e1]; omega, by rw [e1]; exact small_log (n := 9000) (dyb _ (Nat.le_refl _)) (by decide) (by decide), fun t H9 s9 n9 e9 => hk _ _ s9 (.at ?_)⟩
    rw [e9, e1, div_of pz (vz i hi), hS_end f0 hi]
end
end Kx
end
section
set_option maxHeartbeats 4000000
namespace Kx
open PySem PySem.Spec PyProof.Rows L2 RZ
/-! ### the rises of a step -/
theorem it_00S {f : Ser} (n : Nat) : itS f n 0 = 0 := it_00 n
theorem it_com {f : Ser} (f0 : f 0 = 0) : ∀ n k, itS f (n + 1) k = cmpS f (itS f n) k
  | 0, k => by
    show cmpS xS f k = cmpS f xS k
    rw [cmpS_xr]
    match k with
    | 0 => rw [cmpS_zero, f0]; rfl
    | k + 1 => exact cmpS_xl f (k + 1) (Nat.succ_pos k)
  | n + 1, k => by
    show cmpS (itS f (n + 1)) f k = cmpS f (cmpS (itS f n) f) k
    rw [← cmpS_assoc (it_00 n) f0]
    have e : itS f (n + 1) = cmpS f (itS f n) := funext (it_com f0 n)
    rw [e]
theorem cmpS_sub (u w f : Ser) (k : Nat) : cmpS (fun i => u i - w i) f k = cmpS u f k - cmpS w f k := by
  have h := congrFun (cmpS_add (fun i => u i - w i) w f) k
  have e : addS (fun i => u i - w i) w = u := funext fun i => by
    show u i - w i + w i = u i
    grind
  rw [e] at h
  have h2 : cmpS u f k = cmpS (fun i => u i - w i) f k + cmpS w f k := h
  rw [h2]
  grind
def dL (f : Ser) : Nat → Nat → Ser
  | 0, a => itS f a
  | i + 1, a => fun k => dL f i (a + 1) k - dL f i a k
theorem dL_eq {f : Ser} (f0 : f 0 = 0) : ∀ i a k, dL f i a k = cmpS (dfK f i) (itS f a) k
  | 0, a, k => by
    show itS f a k = cmpS xS (itS f a) k
    match k with
    | 0 => rw [cmpS_zero, it_00]; rfl
    | k + 1 => exact (cmpS_xl _ (k + 1) (Nat.succ_pos k)).symm
  | i + 1, a, k => by
    show dL f i (a + 1) k - dL f i a k = _
    rw [dL_eq f0 i (a + 1) k, dL_eq f0 i a k]
    have e : itS f (a + 1) = cmpS f (itS f a) := funext (it_com f0 a)
    rw [e, ← cmpS_assoc f0 (it_00 a)]
    exact (cmpS_sub _ _ _ k).symm
theorem dL_df {f : Ser} (f0 : f 0 = 0) (i : Nat) : dL f i 0 = dfK f i := funext fun k => by
  rw [dL_eq f0]
  show cmpS _ xS k = _
  rw [cmpS_xr]
theorem Gm.it {D m n : Nat} {f : Ser} (h : Gm D m f n) (n15 : n ≤ 15) : ∀ i, Gm D (m + 15 * i) (itS f i) n
  | 0 => Gm.x.mono (by omega)
  | i + 1 => by
    refine ((Gm.it h n15 i).cmp (h.mono (show m ≤ m + 15 * i by omega)) n15).mono (by omega)
theorem it_one {f : Ser} (f0 : f 0 = 0) (f1 : f 1 = 1) : ∀ i, itS f i 1 = 1
  | 0 => rfl
  | i + 1 => by
    show cmpS (itS f i) f 1 = 1
    rw [← cmpS_to f0 (show 1 < 2 by omega)]
    show (0 : Rat) + itS f i 0 * _ + itS f i 1 * powS f 1 1 = 1
    rw [it_00, it_one f0 f1 i, powS_one, f1]
    grind
theorem dL_one {f : Ser} (f0 : f 0 = 0) (f1 : f 1 = 1) : ∀ i a b, dL f i a 1 = dL f i b 1
  | 0, a, b => by
    show itS f a 1 = itS f b 1
    rw [it_one f0 f1, it_one f0 f1]
  | i + 1, a, b => by
    show dL f i (a + 1) 1 - dL f i a 1 = dL f i (b + 1) 1 - dL f i b 1
    rw [dL_one f0 f1 i (a + 1) (b + 1), dL_one f0 f1 i a b]
theorem Gm.dl {D m n : Nat} {f : Ser} (h : Gm D m f n) (f1 : f 1 = 1) (n15 : n ≤ 15) : ∀ i a, i + a ≤ 12 → Gm D (m + 200 + i) (dL f i a) n
  | 0, a, ha => (h.it n15 a).mono (by omega)
  | i + 1, a, ha => (Gm.sub (Gm.dl h f1 n15 i (a + 1) (by omega)) (Gm.dl h f1 n15 i a (by omega)) (dL_one h.z f1 i (a + 1) a)).mono (by omega)
/-- with 0 at the place 0 -/
theorem toT0 {n : Nat} {F : Ser} (h : F 0 = 0) : 0 :: toT n F = toL (n + 1) F := by rw [← toT_toL, h]
theorem AllD.cons0 {L B : Nat} {qs : List Rat} (h : AllD L B qs) : AllD L B (0 :: qs) := fun q hq => by
  rcases List.mem_cons.mp hq with rfl | hq
  · exact Dq.zero
  · exact h q hq
theorem Gm.allL {D m n : Nat} {F : Ser} (h : Gm D m F n) (d0 : 0 < D) (d : D < 2 ^ 90) (n1 : 1 ≤ n) (n15 : n ≤ 7) : AllD (D ^ (n - 1)) (15 * m + 700) (toL (n + 1) F) := by
  rw [← toT0 h.z]
  exact (h.all d0 d n1 n15).cons0
/-- .. new lists of numbers -/
theorem lc_rowsN {K : PySem.W.Frag} {J : It} {n : Nat} {G : Hp → Prop} {Y : Nat → Hp → V → Hp → Prop} (w : Walk J n G Y) {g : TG} {te : TE} {vs : List Nat} {σ : L2.St} {H1 : Hp} {D : Addr} {Qd : Hp → Prop} (rows : List (List Rat))
    (hl : rows.length = n) (nD : H1 D = none) (hn : n ≤ 900) (hG : ∀ H, Same H1 H → G H)
    (hs : ∀ i r x H H' (k : V → Hp → Prop), rows[i]? = some r → Same H1 H → Y i H x H' → (∀ b H4, Same H H4 → H b = none → Ls K H4 (.ref b) r → k (.ref b) H4) → g x (wipe σ vs) H' fun σ2 H2 => wipe σ2 vs = wipe σ vs ∧ te σ2 H2 k)
    (hd : ∀ H xs, Same H1 H → H D = some (.lst xs) → Lsl K H xs rows → (∀ x ∈ xs, x ≠ .ref D ∧ ∃ b, x = .ref b ∧ H1 b = none) → Qd H) :
    ∃ W : Nat → Nat → Hp → Prop, (∃ m, W 0 m (upd H1 D (.lst []))) ∧ ∀ i m H, W i m H →
      (J.stop i H ∧ Qd H) ∨ (J.go i H ∧ ∃ Nx : Hp → Prop, (∀ H', Nx H' → ∃ m', m' < m ∧ W (i + 1) m' H') ∧ ∀ x H', J.yld i H x H' → g x (wipe σ vs) H' fun σ2 H2 => wipe σ2 vs = wipe σ vs ∧ tYes σ2 H2 fun b H3 =>
        if b = true then te σ2 H3 fun y H4 => ∃ acc, H4 D = some (.lst acc) ∧ acc.length < sizeLine ∧ Nx (upd H4 D (.lst (acc ++ [y]))) else Nx H3) := by
  refine lc_accD w (fun i H y => (y ≠ .ref D ∧ ∃ b, y = .ref b ∧ H1 b = none) ∧ ∀ r, rows[i]? = some r → Ls K H y r) (fun i H H' y l h hD s => ⟨h.1, fun r hr => (h.2 r hr).butL hD h.1.1 s⟩) nD hn hG (fun i x H H' k hi s hD y hk => ?_) (fun H xs s h l hR => hd H xs s h ⟨by rw [l, hl], fun i x q h1 h2 => (hR i x h1).2 q h2⟩ fun x hx => ?_)
  · have e := List.getElem?_eq_getElem (l := rows) (i := i) (by omega)
    obtain ⟨l, hl⟩ := hD
    refine hs i _ x H H' k e s y fun b H4 s4 n4 r4 => hk _ H4 s4 ⟨⟨fun z => ?_, b, rfl, s.free n4⟩, fun q hq => ?_⟩
    · rw [V.ref.inj z, hl] at n4
      cases n4
    · rw [e] at hq
      rw [← Option.some.inj hq]
      exact r4
  · obtain ⟨i, hi⟩ := List.getElem?_of_mem hx
    exact (hR i x hi).1
def riL (qs : List Rat) : List (List Rat) := (List.range qs.length).map fun k => 0 :: dfL qs k
theorem riL_len (qs : List Rat) : (riL qs).length = qs.length := by unfold riL; rw [List.length_map, List.length_range]
def GivesLv (K : PySem.W.Frag) (H : Hp) (Q : VK) (rows : List (List Rat)) : Prop := ∀ v H', Same H H' → Lss K H' v rows → Q v H'
def spRis (K : PySem.W.Frag) : Sp := fun vs H Q _ => ∃ (x : V) (qs : List Rat), vs = [x] ∧ Ls K H x (0 :: qs) ∧ 2 ≤ qs.length ∧ qs.length ≤ 7 ∧ Slw qs.length (serS qs) ∧ serS qs 1 = 1 ∧ GivesLv K H Q (riL qs)
abbrev nRi : List Str := ["_law_f", "_law_line", "_law_i", "_law_found", "_law_u", "_law_w"]
theorem rows_snoc {K : PySem.W.Frag} {H : Hp} {pa b : Addr} {ps : List V} {rows : List (List Rat)} {r : List Rat} (h : Lsl K H ps rows) (hp : H pa = some (.lst ps)) (hne : ∀ x ∈ ps, x ≠ .ref pa) (hb : Ls K H (.ref b) r) (nb : b ≠ pa) :
    Lsl K (upd H pa (.lst (ps ++ [V.ref b]))) (ps ++ [.ref b]) (rows ++ [r]) ∧ ∀ x ∈ ps ++ [.ref b], x ≠ .ref pa := by
  have bu : But pa H (upd H pa (.lst (ps ++ [V.ref b]))) := fun e o n h => by rw [upd_ne n]; exact h
  refine ⟨Lsl.snoc ⟨h.1, fun i x r h1 h2 => (h.2 i x r h1 h2).butL hp (hne x (List.mem_of_getElem? h1)) bu⟩ (hb.butL hp (fun z => nb (V.ref.inj z)) bu), fun x hx => ?_⟩
  rcases List.mem_append.mp hx with hx | hx
  · exact hne x hx
  · obtain rfl := List.mem_singleton.mp hx
    exact fun z => nb (V.ref.inj z)
section
variable {P : Program} {w : World} {K : PySem.W.Frag} {mg : Str → Option Value} {base : Heap} {f o0 : Addr} {fd : FuncData}
end
end Kx
end
section
set_option maxHeartbeats 4000000
namespace Kx
open PySem PySem.Spec PyProof.Rows L2 RZ
/-! ### drawn numbers -/
def NumQ (q : Rat) : Prop := q.den ∣ 60 ∧ q.num.natAbs ≤ 15
/-- what may stand in a creep: d is the lower part of a wide number, or 1 -/
def TlQ (d : Nat) (q : Rat) : Prop := q.den ∣ 60 * d ∧ q.num.natAbs ≤ 1000000000
def FitQ (q : Rat) : Prop := q.num.natAbs < 2 ^ 200 ∧ q.den < 2 ^ 200
theorem NumQ.tl {q : Rat} (h : NumQ q) (d : Nat) : TlQ d q := ⟨Nat.dvd_trans h.1 (Nat.dvd_mul_right _ _), by have := h.2; omega⟩
theorem TlQ.fit {q : Rat} {d : Nat} (h : TlQ d q) (d0 : 0 < d) (d99 : d ≤ 99) : FitQ q := by
  have h1 := Nat.le_of_dvd (show 0 < 60 * d by omega) h.1
  have h2 : (6000 : Nat) < 2 ^ 200 := by decide
  have h3 : (1000000000 : Nat) < 2 ^ 200 := by decide
  have h4 := h.2
  exact ⟨by omega, by omega⟩
theorem NumQ.fit {q : Rat} (h : NumQ q) : FitQ q := (h.tl 1).fit (by decide) (by decide)
theorem FitQ.ok {q : Rat} (h : FitQ q) : Ok q := ⟨Nat.lt_of_lt_of_le h.1 (Nat.pow_le_pow_right (by decide) (by decide)), Nat.lt_of_lt_of_le h.2 (Nat.pow_le_pow_right (by decide) (by decide))⟩
theorem low_num {a b : Int} (ha : a.natAbs ≤ 15) (b1 : 1 ≤ b) (b6 : b ≤ 6) : NumQ (Rat.divInt a b) := by
  constructor
  · rw [Rat.den_divInt, if_neg (by omega)]
    refine Nat.dvd_trans (Nat.div_dvd_of_dvd (Nat.gcd_dvd_left _ _)) ?_
    rcases (show b = 1 ∨ b = 2 ∨ b = 3 ∨ b = 4 ∨ b = 5 ∨ b = 6 by omega) with rfl | rfl | rfl | rfl | rfl | rfl <;> decide
  · have := (div_bd (p := a) (q := b) (n := 4) (m := 4) (by omega) (by show _ < 16; omega) (by show _ < 16; omega)).1
    have : (Rat.divInt a b).num.natAbs < 16 := this
    omega
theorem int_num {i : Int} (h : i.natAbs ≤ 15) : NumQ (i : Rat) := ⟨⟨60, rfl⟩, h⟩
theorem Nq.int {K : PySem.W.Frag} {H : Hp} {t : Addr} {i : Int} (h : H t = some (.tup [.int i, .int 1])) : Nq K H (.ref t) (i : Rat) := ⟨t, rfl, .inl h⟩
theorem Bag.lt {n : Nat} {H : Hp} {B p : Addr} (b : Bag n H B p) (k : Nat) (h : k ≤ n) : Bag k H B p := b.less h
def spNum (K : PySem.W.Frag) (m : Nat) (G : Rat → Prop) : Sp := fun vs H Q _ => ∃ (n : Nat) (B p : Addr), vs = [.ref B] ∧ Bag (n + m) H B p ∧ ∀ H' v q, Bag n H' B p → But B H H' → Nq K H' v q → G q → Q v H'
section
variable {P : Program} {w : World} {K : PySem.W.Frag} {mg : Str → Option Value} {base : Heap} {f o0 : Addr} {fd : FuncData}
theorem scNum : FnScope ["_law_bag_here", "_law_way"] ["_law_bag_here"] (defScope L_num) := ⟨rfl, rfl, rfl, by decide +kernel, rfl, by decide +kernel, by decide +kernel⟩
theorem ok_num (F : Fun K "_law_num" "_law_num" L_num f fd) (UD : Use P w K mg base CX0 1 "_law_draw" ["_law_bag_here", "_law_many_y"] spDraw []) (UL : Use P w K mg base CX0 1 "_law_low" ["_law_num_here", "_law_den"] spLowQ []) : FnOk P w K mg base CX0 2 f fd ["_law_bag_here"] (spNum K 3 NumQ) := by
  refine F.ok scNum (fun vs H Q E h => ?_) (fun cdv A outer s H vs Q E hr h => ?_)
  · obtain ⟨n, B, p, rfl, _⟩ := h
    rfl
  obtain ⟨n, B, p, rfl, hb, q⟩ := h
  refine ⟨_, pss_cons (ps_set (i := 1) scNum.nd rfl (Or.inl rfl) (pe_use UD hr rfl pass0 (pa_cons (pv 0) (pa_cons pe_int pa_nil))))
    (pss_cons (ps_if (pt_cmpR op_lt (pv 1) pe_int (nomark _)) (pss_one (ps_ret (pe_tup (pa_cons pe_int (pa_cons pe_int pa_nil))))) pss_nil)
    (pss_cons (ps_if (pt_cmpR op_lt (pv 1) pe_int (nomark _)) (pss_one (ps_ret (pe_tup (pa_cons (pe_op op_sub (pe_use UD hr rfl pass0 (pa_cons (pv 0) (pa_cons pe_int pa_nil))) pe_int) (pa_cons pe_int pa_nil))))) pss_nil)
    (pss_cons (ps_if (pt_cmpR op_lt (pv 1) pe_int (nomark _)) (pss_one (ps_ret (pe_use UL hr rfl pass0 (pa_cons (pe_op op_sub (pe_use UD hr rfl pass0 (pa_cons (pv 0) (pa_cons pe_int pa_nil))) pe_int) (pa_cons pe_int pa_nil))))) pss_nil)
    (pss_one (ps_ret (pe_use UL hr rfl pass0 (pa_cons (pe_op op_sub (pe_use UD hr rfl pass0 (pa_cons (pv 0) (pa_cons pe_int pa_nil))) pe_int) (pa_cons (pe_op op_add pe_int (pe_use UD hr rfl pass0 (pa_cons (pv 0) (pa_cons pe_int pa_nil)))) pa_nil)))))))), ?_⟩
  refine ⟨_, rfl, n + 2, B, p, 12, rfl, by decide, by decide, hb, fun H1 k b1 u1 k0 k1 => ?_⟩
  refine ⟨_, rfl, k, 4, rfl, rfl, _, rfl, ite2 (fun _ => ?_) (fun _ => ?_)⟩
  · exact ⟨(by show 2 ≤ sizeLine; decide), fun t nt => q _ _ 0 ((b1.put nt).less (by omega)) (u1.trans (But.new nt)) (.at upd_same) (int_num (i := 0) (by decide))⟩
  refine ⟨_, rfl, k, 9, rfl, rfl, _, rfl, ite2 (fun _ => ?_) (fun _ => ?_)⟩
  · refine ⟨_, rfl, n + 1, B, p, 19, rfl, by decide, by decide, b1, fun H2 d b2 u2 d0 d1 => ⟨d, 9, rfl, rfl, (by show 2 ≤ sizeLine; decide), fun t nt => ?_⟩⟩
    exact q _ _ ((d - 9 : Int) : Rat) ((b2.put nt).less (by omega)) (u1.trans (u2.trans (But.new nt))) (Nq.int upd_same) (int_num (by omega))
  refine ⟨_, rfl, k, 11, rfl, rfl, _, rfl, ite2 (fun _ => ?_) (fun _ => ?_)⟩
  · refine ⟨_, rfl, n + 1, B, p, 13, rfl, by decide, by decide, b1, fun H2 d b2 u2 d0 d1 => ⟨d, 6, rfl, rfl, d - 6, 2, rfl, by decide, by decide, fun t H3 s3 n3 e3 => ?_⟩⟩
    exact q _ _ _ ((b2.same s3).less (by omega)) (u1.trans (u2.trans (But.same s3))) (.at e3) (low_num (by omega) (by decide) (by decide))
  · refine ⟨_, rfl, n + 1, B, p, 31, rfl, by decide, by decide, b1, fun H2 d b2 u2 d0 d1 => ⟨d, 15, rfl, rfl, ?_⟩⟩
    refine ⟨_, rfl, n, B, p, 6, rfl, by decide, by decide, b2, fun H3 e b3 u3 e0 e1 => ⟨1, e, rfl, rfl, d - 15, 1 + e, rfl, by omega, ?_, fun t H4 s4 n4 e4 => ?_⟩⟩
    · exact Nat.lt_trans (log_bd (x := 1 + e) (n := 4) (by show _ < 16; omega) (by decide)) (by decide)
    exact q _ _ _ (b3.same s4) (u1.trans (u2.trans (u3.trans (But.same s4)))) (.at e4) (low_num (by omega) (by omega) (by omega))
theorem scWid : FnScope ["_law_bag_here"] ["_law_bag_here"] (defScope L_wide) := ⟨rfl, rfl, rfl, by decide +kernel, rfl, by decide +kernel, by decide +kernel⟩
def WideQ (q : Rat) : Prop := q.den ≤ 99 ∧ q.num.natAbs ≤ 1000000000
theorem ok_wide (F : Fun K "_law_wide" "_law_wide" L_wide f fd) (UD : Use P w K mg base CX0 1 "_law_draw" ["_law_bag_here", "_law_many_y"] spDraw []) (UL : Use P w K mg base CX0 1 "_law_low" ["_law_num_here", "_law_den"] spLowQ []) : FnOk P w K mg base CX0 2 f fd ["_law_bag_here"] (spNum K 2 WideQ) := by
  refine F.ok scWid (fun vs H Q E h => ?_) (fun cdv A outer s H vs Q E hr h => ?_)
  · obtain ⟨n, B, p, rfl, _⟩ := h
    rfl
  obtain ⟨n, B, p, rfl, hb, q⟩ := h
  refine ⟨_, pss_one (ps_ret (pe_use UL hr rfl pass0 (pa_cons (pe_op op_add pe_int (pe_use UD hr rfl pass0 (pa_cons (pv 0) (pa_cons (pe_op op_pow pe_int pe_int) pa_nil)))) (pa_cons (pe_op op_add pe_int (pe_use UD hr rfl pass0 (pa_cons (pv 0) (pa_cons pe_int pa_nil)))) pa_nil)))), ?_⟩
  refine ⟨_, rfl, 10, 9, rfl, rfl, ⟨by decide, by decide, by decide⟩, n + 1, B, p, _, rfl, by decide, by decide, hb, fun H1 d b1 u1 d0 d1 => ⟨1, d, rfl, rfl, ?_⟩⟩
  have d1 : d < 1000000000 := d1
  refine ⟨_, rfl, n, B, p, 99, rfl, by decide, by decide, b1, fun H2 e b2 u2 e0 e1 => ⟨1, e, rfl, rfl, 1 + d, 1 + e, rfl, by omega, ?_, fun t H3 s3 n3 e3 => ?_⟩⟩
  · exact Nat.lt_trans (log_bd (x := 1 + e) (n := 8) (by show _ < 256; omega) (by decide)) (by decide)
  refine q _ _ _ (b2.same s3) (u1.trans (u2.trans (But.same s3))) (.at e3) ⟨?_, ?_⟩
  · rw [Rat.den_divInt, if_neg (by omega)]
    have := Nat.div_le_self (1 + e).natAbs (Int.gcd (1 + e) (1 + d))
    omega
  · rw [Rat.num_divInt, Int.sign_eq_one_of_pos (by omega), Int.one_mul]
    have := Int.natAbs_ediv_le_natAbs (1 + d) ((Int.gcd (1 + e) (1 + d) : Nat) : Int)
    omega
end
end Kx
end
section
set_option maxHeartbeats 4000000
namespace Kx
open PySem PySem.Spec PyProof.Rows L2 RZ
/-! ### drawn orders, flats, steps -/
theorem Bag.upd {n : Nat} {H : Hp} {B p a : Addr} {o : HO} (b : Bag n H B p) (h1 : a ≠ B) (h2 : a ≠ p) : Bag n (upd H a o) B p := by
  obtain ⟨ns, i, r, sd, c, e1, e2, h3⟩ := b.ex
  exact ⟨ns, i, r, sd, c, by rw [upd_ne (Ne.symm h1)]; exact e1, by rw [upd_ne (Ne.symm h2)]; exact e2, h3⟩
theorem Nl.snocD {K : PySem.W.Frag} {H : Hp} {D : Addr} {ys : List V} {rs : List Rat} {y : V} {r : Rat} (h : Nl K H ys rs) (hD : H D = some (.lst ys)) (hy : Nq K H y r) : Nl K (upd H D (.lst (ys ++ [y]))) (ys ++ [y]) (rs ++ [r]) := by
  have nb := h.snoc hy
  exact ⟨nb.1, fun j x r h1 h2 => (nb.2 j x r h1 h2).butL hD (fun b o n h => by rw [upd_ne n]; exact h)⟩
def spOrd : Sp := fun vs H Q _ => ∃ (n : Nat) (B p : Addr), vs = [.ref B] ∧ Bag (n + 2) H B p ∧ ∀ H' (k : Nat), Bag n H' B p → But B H H' → 2 ≤ k → k ≤ 11 → Q (.int (k : Nat)) H'
def spFla : Sp := fun vs H Q _ => ∃ (n : Nat) (B p : Addr) (deg : Nat), vs = [.ref B, .int (deg : Nat)] ∧ Bag (n + 2) H B p ∧ 2 ≤ deg ∧ deg ≤ 11 ∧ ∀ H' (k : Nat), Bag n H' B p → But B H H' → 1 ≤ k → k + 1 ≤ deg → Q (.int (k : Nat)) H'
def spTai (K : PySem.W.Frag) : Sp := fun vs H Q _ => ∃ (n : Nat) (B p : Addr) (deg kk : Nat), vs = [.ref B, .int (deg : Nat), .int (kk : Nat)] ∧ Bag (n + 60) H B p ∧ deg ≤ 11 ∧ 1 ≤ kk ∧ kk + 1 ≤ deg ∧
  ∀ H' v rs d, Bag n H' B p → But B H H' → Ls K H' v rs → rs.length = deg + 1 → 0 < d → d ≤ 99 → (∀ r ∈ rs, TlQ d r) → (∀ i, i ≤ kk → rs[i]? = some 0) → Q v H'
/-- a slow step is drawn -/
def GivesSl (K : PySem.W.Frag) (n : Nat) (B p : Addr) (deg : Nat) (H : Hp) (Q : VK) : Prop := ∀ H' v rs d, Bag n H' B p → But B H H' → Ls K H' v (0 :: 1 :: rs) → rs.length + 1 = deg → 0 < d → d ≤ 99 → (∀ r ∈ rs, TlQ d r) → Q v H'
def spCre (K : PySem.W.Frag) : Sp := fun vs H Q _ => ∃ (n : Nat) (B p : Addr) (deg kk : Nat), vs = [.ref B, .int (deg : Nat), .int (kk : Nat)] ∧ Bag (n + 60) H B p ∧ deg ≤ 11 ∧ 1 ≤ kk ∧ kk + 1 ≤ deg ∧
  ∀ H' v rs d, Bag n H' B p → But B H H' → Ls K H' v (0 :: 1 :: rs) → rs.length + 1 = deg → 0 < d → d ≤ 99 → (∀ r ∈ rs, TlQ d r) → (∀ i, i + 2 ≤ kk → rs[i]? = some 0) → Q v H'
def spSlo (K : PySem.W.Frag) : Sp := fun vs H Q _ => ∃ (n : Nat) (B p : Addr) (deg : Nat), vs = [.ref B, .int (deg : Nat)] ∧ Bag (n + 63) H B p ∧ 2 ≤ deg ∧ deg ≤ 11 ∧ GivesSl K n B p deg H Q
def spStp (K : PySem.W.Frag) : Sp := fun vs H Q _ => ∃ (n : Nat) (B p : Addr) (deg : Nat) (x : V) (c : Rat), vs = [.ref B, .int (deg : Nat), x] ∧ Bag (n + 40) H B p ∧ 2 ≤ deg ∧ deg ≤ 11 ∧ Nq K H x c ∧ ∀ H' (e : Addr) (ys : List V) rs, Bag n H' B p → But B H H' → H e = none → e ≠ B → e ≠ p → H' e = some (.lst ys) → Nl K H' ys (0 :: c :: rs) → rs.length + 1 = deg → (∀ r ∈ rs, NumQ r) → Q (.ref e) H'
def spNsl (K : PySem.W.Frag) : Sp := fun vs H Q _ => ∃ (n : Nat) (B p : Addr) (deg : Nat), vs = [.ref B, .int (deg : Nat)] ∧ Bag (n + 42) H B p ∧ 2 ≤ deg ∧ deg ≤ 11 ∧ ∀ H' v qs, Bag n H' B p → But B H H' → Ls K H' v (0 :: qs) → qs.length = deg → (∀ r ∈ qs, FitQ r) → serS qs 1 ≠ 1 → Q v H'
abbrev nTl : List Str := ["_law_bag_here", "_law_deg", "_law_kk", "_law_found", "_law_j"]
section
variable {P : Program} {w : World} {K : PySem.W.Frag} {mg : Str → Option Value} {base : Heap} {f o0 : Addr} {fd : FuncData}
theorem scOrd : FnScope ["_law_bag_here"] ["_law_bag_here"] (defScope L_order) := ⟨rfl, rfl, rfl, by decide +kernel, rfl, by decide +kernel, by decide +kernel⟩
theorem ok_order (F : Fun K "_law_order" "_law_order" L_order f fd) (UD : Use P w K mg base CX0 1 "_law_draw" ["_law_bag_here", "_law_many_y"] spDraw []) (UO : Use P w K mg base CX0 2 "_law_of" ["_law_bag_here", "_law_things"] spOfL []) : FnOk P w K mg base CX0 3 f fd ["_law_bag_here"] spOrd := by
  refine F.ok scOrd (fun vs H Q E h => ?_) (fun cdv A outer s H vs Q E hr h => ?_)
  · obtain ⟨n, B, p, rfl, _⟩ := h
    rfl
  obtain ⟨n, B, p, rfl, hb, q⟩ := h
  have hr1 := hr.mono (show 1 ≤ 2 by decide)
  refine ⟨_, pss_cons (ps_if (pt_cmpR op_eq (pe_use UD hr1 rfl pass0 (pa_cons (pv 0) (pa_cons pe_int pa_nil))) pe_int (nomark _)) (pss_one (ps_ret (pe_op op_add pe_int (pe_use UD hr1 rfl pass0 (pa_cons (pv 0) (pa_cons pe_int pa_nil)))))) pss_nil)
    (pss_one (ps_ret (pe_use UO hr rfl pass0 (pa_cons (pv 0) (pa_cons (pe_lst (pa_cons pe_int (pa_cons pe_int (pa_cons pe_int (pa_cons pe_int (pa_cons pe_int (pa_cons pe_int (pa_cons pe_int (pa_cons pe_int (pa_cons pe_int (pa_cons pe_int (pa_cons pe_int (pa_cons pe_int (pa_cons pe_int (pa_cons pe_int (pa_cons pe_int (pa_cons pe_int pa_nil))))))))))))))))) pa_nil))))), ?_⟩
  refine ⟨_, rfl, n + 1, B, p, 24, rfl, by decide, by decide, hb, fun H1 k b1 u1 k0 k1 => ⟨rfl, _, rfl, ite2 (fun _ => ?_) (fun _ => ?_)⟩⟩
  · refine ⟨_, rfl, n, B, p, 3, rfl, by decide, by decide, b1, fun H2 d b2 u2 d0 d1 => ⟨9, d, rfl, rfl, ?_⟩⟩
    have := q H2 (9 + d).toNat b2 (u1.trans u2) (by omega) (by omega)
    rw [show ((9 + d).toNat : Int) = 9 + d by omega] at this
    exact this
  · refine ⟨_, rfl, (by show 16 ≤ sizeLine; decide), fun l nl => ⟨n, B, p, l, _, rfl, upd_same, (b1.at nl).1, (by show 0 < 16; decide), (by show 16 ≤ 1000; decide), b1.put nl, fun H2 x b2 u2 hx => ?_⟩⟩
    have uu : But B H H2 := u1.trans ((But.new nl).trans u2)
    simp only [List.mem_cons, List.not_mem_nil, or_false] at hx
    rcases hx with rfl | rfl | rfl | rfl | rfl | rfl | rfl | rfl | rfl | rfl | rfl | rfl | rfl | rfl | rfl | rfl
    · exact q H2 3 b2 uu (by decide) (by decide)
    · exact q H2 4 b2 uu (by decide) (by decide)
    · exact q H2 5 b2 uu (by decide) (by decide)
    · exact q H2 6 b2 uu (by decide) (by decide)
    · exact q H2 3 b2 uu (by decide) (by decide)
    · exact q H2 4 b2 uu (by decide) (by decide)
    · exact q H2 5 b2 uu (by decide) (by decide)
    · exact q H2 6 b2 uu (by decide) (by decide)
    · exact q H2 7 b2 uu (by decide) (by decide)
    · exact q H2 4 b2 uu (by decide) (by decide)
    · exact q H2 5 b2 uu (by decide) (by decide)
    · exact q H2 2 b2 uu (by decide) (by decide)
    · exact q H2 3 b2 uu (by decide) (by decide)
    · exact q H2 6 b2 uu (by decide) (by decide)
    · exact q H2 7 b2 uu (by decide) (by decide)
    · exact q H2 8 b2 uu (by decide) (by decide)
theorem yesT {σ : L2.St} {H : Hp} {t e : Hp → Prop} (h : t H) : tYes σ H (fun b H3 => if b = true then t H3 else e H3) := by
  show (if true = true then t H else e H)
  rw [if_pos rfl]
  exact h
theorem x_plus {rs : List Rat} {n : Nat} (h : (0 :: 0 :: rs).length = n + 1) (n1 : 1 ≤ n) : (xL n).zipWith (· + ·) (0 :: 0 :: rs) = 0 :: 1 :: rs := by
  have l : rs.length = n - 1 := by simp at h; omega
  show (0 + 0 : Rat) :: (1 + 0 : Rat) :: (List.replicate (n - 1) (0 : Rat)).zipWith (· + ·) rs = _
  rw [show (0 + 0 : Rat) = 0 by decide +kernel, show (1 + 0 : Rat) = 1 by decide +kernel, ← l]
  congr 2
  apply List.ext_getElem?
  intro i
  rw [List.getElem?_zipWith, List.getElem?_replicate]
  rcases Nat.lt_or_ge i rs.length with c | c
  · rw [if_pos c, List.getElem?_eq_getElem c]
    show some (0 + rs[i]) = some rs[i]
    rw [Rat.zero_add]
  · rw [if_neg (by omega), List.getElem?_eq_none c]
theorem x_ok (n : Nat) : AllO (xL n) := fun q hq => by
  rcases List.mem_cons.mp hq with rfl | hq
  · exact Ok.zero
  rcases List.mem_cons.mp hq with rfl | hq
  · exact Ok.one
  · rw [List.eq_of_mem_replicate hq]; exact Ok.zero
theorem scStp : FnScope ["_law_bag_here", "_law_deg", "_law_cc", "_law_j"] ["_law_bag_here", "_law_deg", "_law_cc"] (defScope L_step) := ⟨rfl, rfl, rfl, by decide +kernel, rfl, by decide +kernel, by decide +kernel⟩
theorem ok_stp (F : Fun K "_law_step" "_law_step" L_step f fd) (mr : mg "range" = none) (UN : Use P w K mg base CX0 2 "_law_num" ["_law_bag_here"] (spNum K 3 NumQ) []) : FnOk P w K mg base CX0 3 f fd ["_law_bag_here", "_law_deg", "_law_cc"] (spStp K) := by
  refine F.ok scStp (fun vs H Q E h => ?_) (fun cdv A outer s H vs Q E hr2 h => ?_)
  · obtain ⟨n, B, p, deg, x, c, rfl, _⟩ := h
    rfl
  obtain ⟨n, B, p, deg, x, c, rfl, hb, d2, d11, nc, q⟩ := h
  refine ⟨_, pss_one (ps_ret (pe_op op_cat (pe_lst (pa_cons (pe_tup (pa_cons pe_int (pa_cons pe_int pa_nil))) (pa_cons (pv 2) pa_nil))) (pe_lc (own := [("_law_j", 3)]) (g := gName 3) (tt := tYes) rfl scStp.nd (pi_range2 rfl mr (pa_cons pe_int (pa_cons (pe_op op_add (pv 1) pe_int) pa_nil))) (blkOk_by (N := ["_law_bag_here", "_law_deg", "_law_cc", "_law_j"]) (sc := defScope L_step) (by decide +kernel)) (fun _ _ _ _ _ => pg_name (i := 3) scStp.nd rfl (Or.inl rfl)) (fun _ _ _ _ _ => pts_nil) (fun _ _ _ _ _ => pe_use UN hr2 rfl pass0 (pa_cons (pv 0) pa_nil))))), ?_⟩
  refine ⟨(by show 2 ≤ sizeLine; decide), fun t nt => ⟨_, rfl, (by show 2 ≤ sizeLine; decide), fun e ne => ?_⟩⟩
  have s2 := new_same nt (HO.tup [.int 0, .int 1])
  have s3 := new_same ne (HO.lst [V.ref t, x])
  have sA := s2.trans s3
  have z0 : Nq K _ (.ref t) 0 := .at (K := K) (s3 _ _ (show _ = some (rT 0) from upd_same))
  have n3 := Nl.cons z0 (Nl.cons (nc.same sA) Nl.nil)
  have e3 : upd (upd H t (HO.tup [.int 0, .int 1])) e (HO.lst [V.ref t, x]) e = some (HO.lst [V.ref t, x]) := upd_same
  have b3 := hb.same sA
  have eB3 := ((hb.same s2).at ne).1
  have u3 : But B H (upd (upd H t (HO.tup [.int 0, .int 1])) e (HO.lst [V.ref t, x])) := But.same sA
  generalize upd (upd H t (HO.tup [.int 0, .int 1])) e (HO.lst [V.ref t, x]) = H3 at b3 u3 n3 e3
  clear sA z0
  refine ⟨_, rfl, _, _, rfl, rfl, _, _, rfl, ⟨by omega, by omega, by omega, by omega⟩, fun D nD => ?_⟩
  have DB := b3.at nD
  refine lc_range (lo := 2) (n := (((deg : Nat) : Int) + 1 - 2).toNat) (fun i H' => Bag (n + 40 - 3 * i) H' B p ∧ But B H3 H' ∧ ∃ ys rs, H' D = some (.lst ys) ∧ Nl K H' ys rs ∧ rs.length = i ∧ ∀ r ∈ rs, NumQ r) ⟨b3.put nD, But.new nD, [], [], upd_same, Nl.nil, rfl, fun _ h => nomatch h⟩ ?_ ?_
  · rintro i H' hi ⟨b', u', ys, rs, hD, ny, rl, br⟩
    have yl : ys.length = i := by rw [ny.1, rl]
    refine ⟨rfl, yesT ⟨_, rfl, n + 37 - 3 * i, B, p, rfl, b'.less (show n + 37 - 3 * i + 3 ≤ n + 40 - 3 * i by omega), fun H5 y r b5 u5 nr brr => ?_⟩⟩
    have hD5 := u5 _ _ DB.1 hD
    refine ⟨ys, hD5, small1000 (by omega), ?_, ?_, ys ++ [y], rs ++ [r], upd_same, Nl.snocD (ny.go b' (Go.of u5)) hD5 nr, by rw [List.length_append, rl]; rfl, ?_⟩
    · exact (b5.less (show n + 40 - 3 * (i + 1) ≤ n + 37 - 3 * i by omega)).upd DB.1 DB.2
    · intro b o hb he
      rw [upd_ne (fun z => by rw [z, nD] at he; cases he)]
      exact u5 _ _ hb (u' _ _ hb he)
    · intro t ht
      rcases List.mem_append.mp ht with ht | ht
      · exact br t ht
      · rw [List.mem_singleton.mp ht]; exact brr
  · rintro H4 ⟨b4, u4, ys, rs, hD, ny', rl, br'⟩
    have he4 := u4 _ _ eB3 e3
    have nx4 := n3.go b3 (Go.of u4)
    have yl : ys.length = deg - 1 := by rw [ny'.1, rl]; omega
    refine ⟨e, D, _, _, rfl, rfl, he4, hD, Nat.le_of_lt (small1000 (by show 2 + _ ≤ _; omega)), fun k nk => ?_⟩
    have s5 := new_same nk (HO.lst ([V.ref t, x] ++ ys))
    exact q _ k _ rs ((b4.same s5).less (by omega)) ((u3.trans u4).trans (But.same s5)) ((u3.trans u4).free b4 nk) (b4.at nk).1 (b4.at nk).2 upd_same ((nx4.app ny').same s5) (by omega) br'
end
end Kx
end
section
set_option maxHeartbeats 4000000
namespace Kx
open PySem PySem.Spec PyProof.Rows L2 RZ
/-! ### like -/
structure KT (K : PySem.W.Frag) (a : Addr) (xs : List V) : Prop where
  ex : ∃ (o : Obj) (its : Array Value) (n : Nat), K.lookup a = some o ∧ o.cls = .type "tuple" ∧ o.data = .seq its n ∧ its.size ≤ sizeLine ∧ Vals xs its.toList
def TupAt (K : PySem.W.Frag) (H : Hp) (a : Addr) (xs : List V) : Prop := H a = some (.tup xs) ∨ KT K a xs
theorem TupAt.t {K : PySem.W.Frag} {H : Hp} {a : Addr} {xs : List V} (h : TupAt K H a xs) : SqT K H a xs := h.elim SqT.of fun k => .inr k.ex
theorem TupAt.ty {K : PySem.W.Frag} {H : Hp} {a : Addr} {xs : List V} (h : TupAt K H a xs) : TyX K H (.ref a) (.type "tuple") := h.elim (fun h => .base (.tup h)) fun k => by
  obtain ⟨o, its, n, h1, h2, _⟩ := k.ex
  exact .kTuple h1 h2
theorem TupAt.same {K : PySem.W.Frag} {H H' : Hp} {a : Addr} {xs : List V} (h : TupAt K H a xs) (s : Same H H') : TupAt K H' a xs := h.imp (s _ _) id
def Lk (K : PySem.W.Frag) : Nat → Hp → V → V → Prop
  | 0, H, v, u => u = v ∧ flatV v = true
  | n + 1, H, v, u => (u = v ∧ flatV v = true) ∨ ∃ (a b : Addr) (xs ys : List V), v = .ref a ∧ u = .ref b ∧ xs.length ≤ 60 ∧ Paired (Lk K n H) xs ys ∧
      ((H a = some (.lst xs) ∧ H b = some (.lst ys)) ∨ (TupAt K H a xs ∧ TupAt K H b ys))
section
variable {K : PySem.W.Frag} {H H' : Hp}
theorem Lk.same (s : Same H H') : ∀ {n : Nat} {v u : V}, Lk K n H v u → Lk K n H' v u
  | 0, _, _, h => h
  | n + 1, v, u, h => by
    rcases h with ⟨h1, h2⟩ | ⟨a, b, xs, ys, e1, e2, l, p, q⟩
    · exact .inl ⟨h1, h2⟩
    · exact .inr ⟨a, b, xs, ys, e1, e2, l, L2.Paired.mapP p fun _ _ z => Lk.same s z, q.imp (fun q => ⟨s _ _ q.1, s _ _ q.2⟩) fun q => ⟨q.1.same s, q.2.same s⟩⟩
theorem Lk.flat {v : V} (h : flatV v = true) : ∀ {n : Nat}, Lk K n H v v
  | 0 => ⟨rfl, h⟩
  | _ + 1 => .inl ⟨rfl, h⟩
theorem Lk.succ : ∀ {n : Nat} {v u : V}, Lk K n H v u → Lk K (n + 1) H v u
  | 0, _, _, h => .inl h
  | n + 1, _, _, h => by
    rcases h with h | ⟨a, b, xs, ys, e1, e2, l, p, q⟩
    · exact .inl h
    · exact .inr ⟨a, b, xs, ys, e1, e2, l, L2.Paired.mapP p fun _ _ z => Lk.succ z, q⟩
theorem Lk.lst {n : Nat} {a b : Addr} {xs ys : List V} (h1 : H a = some (.lst xs)) (h2 : H b = some (.lst ys)) (l : xs.length ≤ 60) (p : Paired (Lk K n H) xs ys) : Lk K (n + 1) H (.ref a) (.ref b) := .inr ⟨a, b, xs, ys, rfl, rfl, l, p, .inl ⟨h1, h2⟩⟩
theorem paired_flat {n : Nat} : ∀ {xs : List V}, (∀ x ∈ xs, flatV x = true) → Paired (Lk K n H) xs xs
  | [], _ => .nil
  | x :: xs, h => .cons (Lk.flat (h x List.mem_cons_self)) (paired_flat fun y hy => h y (List.mem_cons_of_mem _ hy))
theorem Nq.tup {v : V} {q : Rat} (h : Nq K H v q) : ∃ a, v = .ref a ∧ TupAt K H a [.int q.num, .int (q.den : Nat)] := by
  obtain ⟨a, e, h⟩ := h
  exact ⟨a, e, h.imp id fun k => ⟨k.ex⟩⟩
theorem Nq.lk {n : Nat} {v u : V} {q : Rat} (h : Nq K H v q) (h' : Nq K H u q) : Lk K (n + 1) H v u := by
  obtain ⟨a, rfl, h1⟩ := h.tup
  obtain ⟨b, rfl, h2⟩ := h'.tup
  exact .inr ⟨a, b, _, _, rfl, rfl, (by show 2 ≤ 60; decide), .cons (Lk.flat rfl) (.cons (Lk.flat rfl) .nil), .inr ⟨h1, h2⟩⟩
theorem Nl.pair {n : Nat} : ∀ {xs ys : List V} {qs : List Rat}, Nl K H xs qs → Nl K H ys qs → Paired (Lk K (n + 1) H) xs ys
  | [], [], [], _, _ => .nil
  | x :: xs, y :: ys, q :: qs, h, h' => .cons ((h.2 0 x q rfl rfl).lk (h'.2 0 y q rfl rfl)) (Nl.pair h.tail h'.tail)
  | [], _ :: _, [], _, h' => by cases h'.1
  | _ :: _, [], _, h, h' => by have e := h.1.trans h'.1.symm; cases e
  | [], _, _ :: _, h, _ => by cases h.1
  | _ :: _, _, [], h, _ => by cases h.1
theorem Ls.lk {n : Nat} {v u : V} {qs : List Rat} (h : Ls K H v qs) (h' : Ls K H u qs) (l : qs.length ≤ 60) : Lk K (n + 2) H v u := by
  obtain ⟨a, xs, rfl, h1, n1⟩ := h
  obtain ⟨b, ys, rfl, h2, n2⟩ := h'
  exact Lk.lst h1 h2 (by rw [n1.1]; exact l) (n1.pair n2)
end
theorem Pr_get {α β : Type} {F : α → β → Prop} : ∀ {l1 : List α} {l2 : List β} {i : Nat} {x : α}, Paired F l1 l2 → l1[i]? = some x → ∃ y, l2[i]? = some y ∧ F x y
  | _, _, _, _, .nil, h => by simp at h
  | _, _, 0, x, .cons (b := b) r _, h => ⟨b, rfl, by
    have e := Option.some.inj (show some _ = some x from by simpa using h)
    rw [← e]
    exact r⟩
  | _, _, i + 1, x, .cons _ t, h => by
    obtain ⟨y, h1, h2⟩ := Pr_get (i := i) (x := x) t (by simpa using h)
    exact ⟨y, by simpa using h1, h2⟩
theorem walk_zipT {K : PySem.W.Frag} {a b : Addr} {xs ys : List V} {n : Nat} (hn : n = min xs.length ys.length) : Walk (ItzT K a b) n (fun H => SqT K H a xs ∧ SqT K H b ys) (YPair (fun i => xs[i]?) (fun i => ys[i]?)) := by
  subst hn
  refine ⟨fun i H hi q => ⟨xs, ys, xs[i]'(by omega), ys[i]'(by omega), q.1, q.2, by simp [show i < xs.length by omega], by simp [show i < ys.length by omega]⟩, fun H q => ⟨xs, ys, q.1, q.2, by omega⟩, fun i H v H' hi q y => ?_⟩
  obtain ⟨T, x, z, h1, h2, h3, h4, h5⟩ := y
  exact ⟨T, x, z, h1, h2, h3, h4 xs q.1, h5 ys q.2⟩
def tyS : V → String
  | .non => "NoneType"
  | .bl _ => "bool"
  | .int _ => "int"
  | _ => "str"
theorem ty_flat {K : PySem.W.Frag} {H : Hp} {v : V} (h : flatV v = true) : TyX K H v (.type (tyS v)) := by
  cases v with
  | non => exact .base .non
  | bl b => exact .base (.bl b)
  | int i => exact .base (.int i)
  | str x => exact .base (.str x)
  | _ => cases h
theorem tyS_in : ∀ {v : V}, flatV v = true → tyS v ∈ ["NoneType", "bool", "int", "str"]
  | .non, _ => by simp [tyS]
  | .bl _, _ => by simp [tyS]
  | .int _, _ => by simp [tyS]
  | .str _, _ => by simp [tyS]
  | .byt _, h => by cases h
  | .flt _, h => by cases h
  | .ref _, h => by cases h
  | .ty _, h => by cases h
theorem kb_seq : ∀ s ∈ ["NoneType", "bool", "int", "str"], kitB s "list" = some false ∧ kitB s "tuple" = some false := by decide +kernel
theorem kb_flat : ∀ s ∈ ["NoneType", "bool", "int", "str"], (kitB s "bool").isSome ∧ (kitB s "str").isSome ∧ (kitB s "int").isSome := by decide +kernel
def spLike (K : PySem.W.Frag) (n : Nat) : Sp := fun vs H Q _ => ∃ (v u : V), vs = [v, u] ∧ Lk K n H v u ∧ ∀ H', Same H H' → Q (.bl true) H'
abbrev nLike : List Str := ["_law_found", "_law_due", "_law_part_a", "_law_part_b"]
section
variable {P : Program} {w : World} {K : PySem.W.Frag} {mg : Str → Option Value} {base : Heap} {f C S CF CO : Addr} {fd : FuncData}
theorem scLike : FnScope nLike ["_law_found", "_law_due"] (defScope L_same) := ⟨rfl, rfl, rfl, by decide +kernel, rfl, by decide +kernel, by decide +kernel⟩
theorem ok_like {n : Nat} (F : Fun K "_law_same" "_law_same" L_same f fd) (bL : Binds K fd ["_law_found", "_law_due"] []) (mL : mg "_law_same" = some (.ref f)) (G : ∀ n', n = n' + 1 → FnOk P w K mg base CX0 (n + 1) f fd ["_law_found", "_law_due"] (spLike K n'))
    (mI : mg "isinstance" = none) (ml : mg "list" = none) (mt : mg "tuple" = none) (mb : mg "bool" = none) (ms : mg "str" = none) (mi : mg "int" = none) (mn : mg "len" = none) (mz : mg "zip" = none) (ma : mg "all" = none) :
    FnOk P w K mg base CX0 (n + 2) f fd ["_law_found", "_law_due"] (spLike K n) := by
  refine F.ok scLike (fun vs H Q E h => ?_) (fun cdv A outer s H vs Q E hr h => ?_)
  · obtain ⟨v, u, rfl, _⟩ := h
    rfl
  obtain ⟨v, u, rfl, tv, q⟩ := h
  have flat : flatV v = true → u = v → ∃ t, PSs (cxOf CX0 P w K mg base nLike "_law_same" (defScope L_same) f cdv A outer s H E).nox (defBody L_same) t ∧ t { nx := fun _ H' => Q .non H', rt := Q } (L2.start nLike [v, u]) H := fun hv hu => by
    subst hu
    obtain ⟨k1, k2⟩ := kb_seq _ (tyS_in hv)
    obtain ⟨k3, k4, k5⟩ := kb_flat _ (tyS_in hv)
    obtain ⟨x3, k3⟩ := Option.isSome_iff_exists.mp k3
    obtain ⟨x4, k4⟩ := Option.isSome_iff_exists.mp k4
    obtain ⟨x5, k5⟩ := Option.isSome_iff_exists.mp k5
    refine ⟨_, pss_cons (ps_if (pt_val (pe_callB call_isiT rfl mI (by decide +kernel) (pa_cons (pv 1) (pa_cons (pe_tup (pa_cons (pe_bltn rfl ml boot_list (rel_ty _)) (pa_cons (pe_bltn rfl mt boot_tuple (rel_ty _)) pa_nil))) pa_nil)))) (pss_cons ps_never (pss_one ps_never)) pss_nil)
      (pss_cons (ps_if (PW.pt (pw_or (pt_cmpR op_isN (pv 1) pe_non (nomark _)) (pw_or1 (pt_cmpR op_isN (pv 0) pe_non (nomark _))))) (pss_one (ps_ret (pe_and (pe_cmpR op_isN (pv 1) pe_non (nomark _)) (pe_one (pe_cmpR op_isN (pv 0) pe_non (nomark _)))))) pss_nil)
      (pss_cons (ps_if (PW.pt (pw_or (pt_val (pe_callB call_isiT rfl mI (by decide +kernel) (pa_cons (pv 0) (pa_cons (pe_tup (pa_cons (pe_bltn rfl ml boot_list (rel_ty _)) (pa_cons (pe_bltn rfl mt boot_tuple (rel_ty _)) pa_nil))) pa_nil)))) (pw_or1 (pt_cmpR op_ne (pe_callB call_isi rfl mI (by decide +kernel) (pa_cons (pv 0) (pa_cons (pe_bltn rfl mb boot_bool (rel_ty _)) pa_nil))) (pe_callB call_isi rfl mI (by decide +kernel) (pa_cons (pv 1) (pa_cons (pe_bltn rfl mb boot_bool (rel_ty _)) pa_nil))) (nomark _))))) (pss_one ps_never) pss_nil)
      (pss_cons (ps_if (PW.pt (pw_or (pt_cmpR op_ne (pe_callB call_isi rfl mI (by decide +kernel) (pa_cons (pv 0) (pa_cons (pe_bltn rfl ms boot_str (rel_ty _)) pa_nil))) (pe_callB call_isi rfl mI (by decide +kernel) (pa_cons (pv 1) (pa_cons (pe_bltn rfl ms boot_str (rel_ty _)) pa_nil))) (nomark _)) (pw_or1 (pt_cmpR op_ne (pe_callB call_isi rfl mI (by decide +kernel) (pa_cons (pv 0) (pa_cons (pe_bltn rfl mi boot_int (rel_ty _)) pa_nil))) (pe_callB call_isi rfl mI (by decide +kernel) (pa_cons (pv 1) (pa_cons (pe_bltn rfl mi boot_int (rel_ty _)) pa_nil))) (nomark _))))) (pss_one ps_never) pss_nil)
      (pss_one (ps_ret (pe_cmpR op_eq (pv 0) (pv 1) (nomark _))))))), ?_⟩
    refine ⟨_, rfl, (by show 2 ≤ sizeLine; decide), fun p np => ?_⟩
    have g1 := new_same np (.tup [.ty "list", .ty "tuple"])
    refine ⟨u, p, _, .type (tyS u), _, false, rfl, upd_same, .cons (.ty _) (.cons (.ty _) .nil), ty_flat hv, kit2 k1 k2 rfl, _, rfl, iteF ?_⟩
    generalize upd H p (.tup [.ty "list", .ty "tuple"]) = H1 at g1
    by_cases e : u = .non
    · subst e
      refine ⟨_, rfl, rfl, _, rfl, iteT ?_⟩
      refine iteT ⟨_, rfl, rfl, _, rfl, iteT ⟨_, rfl, rfl, q H1 g1⟩⟩
    · refine ⟨_, rfl, rfl, _, rfl, ?_⟩
      rw [decide_eq_false e]
      refine iteF ⟨_, rfl, rfl, _, rfl, ?_⟩
      rw [decide_eq_false e]
      refine iteF ?_
      refine ⟨_, rfl, (by show 2 ≤ sizeLine; decide), fun p2 np2 => ?_⟩
      have g2 := g1.trans (new_same np2 (.tup [.ty "list", .ty "tuple"]))
      refine ⟨u, p2, _, .type (tyS u), _, false, rfl, upd_same, .cons (.ty _) (.cons (.ty _) .nil), ty_flat hv, kit2 k1 k2 rfl, _, rfl, iteF ?_⟩
      generalize upd H1 p2 (.tup [.ty "list", .ty "tuple"]) = H2 at g2
      refine ⟨_, rfl, u, _, _, _, x3, rfl, .ty _, ty_flat hv, kit_ty k3, _, rfl, u, _, _, _, x3, rfl, .ty _, ty_flat hv, kit_ty k3, rfl, _, rfl, ?_⟩
      refine iteNS rfl ?_
      refine ⟨_, rfl, u, _, _, _, x4, rfl, .ty _, ty_flat hv, kit_ty k4, _, rfl, u, _, _, _, x4, rfl, .ty _, ty_flat hv, kit_ty k4, rfl, _, rfl, ?_⟩
      refine iteNS rfl ?_
      refine ⟨_, rfl, u, _, _, _, x5, rfl, .ty _, ty_flat hv, kit_ty k5, _, rfl, u, _, _, _, x5, rfl, .ty _, ty_flat hv, kit_ty k5, rfl, _, rfl, ?_⟩
      refine iteNS rfl ?_
      have hs : scal u u = true := by
        cases u <;> first | rfl | cases hv
      refine ⟨_, rfl, _, rfl, hs, ?_⟩
      rw [decide_eq_true rfl]
      exact q H2 g2
  have base0 : (u = v ∧ flatV v = true) → ∃ t, PSs (cxOf CX0 P w K mg base nLike "_law_same" (defScope L_same) f cdv A outer s H E).nox (defBody L_same) t ∧ t { nx := fun _ H' => Q .non H', rt := Q } (L2.start nLike [v, u]) H := fun h => flat h.2 h.1
  cases n with
  | zero => exact base0 tv
  | succ n =>
    rcases tv with h0 | ⟨a, b, xs, ys, rfl, rfl, l, pr, hh⟩
    · exact base0 h0
    have GL := G n rfl
    have le : xs.length = ys.length := pr.length
    have el : ∀ (i : Nat) (y z : V), xs[i]? = some y → ys[i]? = some z → ∀ H', Same H H' → Lk K n H' y z := fun i y z hy hz H' g => by
      obtain ⟨z', h1, h2⟩ := Pr_get pr hy
      rw [hz] at h1
      rw [← Option.some.inj h1] at h2
      exact Lk.same g h2
    rcases hh with ⟨h1, h2⟩ | ⟨h1, h2⟩
    · refine ⟨_, pss_cons (ps_if (pt_val (pe_callB call_isiT rfl mI (by decide +kernel) (pa_cons (pv 1) (pa_cons (pe_tup (pa_cons (pe_bltn rfl ml boot_list (rel_ty _)) (pa_cons (pe_bltn rfl mt boot_tuple (rel_ty _)) pa_nil))) pa_nil))))
          (pss_cons (ps_if (PW.pt (pw_or (pt_cmpR op_ne (pe_callB call_isi rfl mI (by decide +kernel) (pa_cons (pv 0) (pa_cons (pe_bltn rfl ml boot_list (rel_ty _)) pa_nil))) (pe_callB call_isi rfl mI (by decide +kernel) (pa_cons (pv 1) (pa_cons (pe_bltn rfl ml boot_list (rel_ty _)) pa_nil))) (nomark _)) (pw_or1 (pt_cmpR op_ne (pe_callB call_isi rfl mI (by decide +kernel) (pa_cons (pv 0) (pa_cons (pe_bltn rfl mt boot_tuple (rel_ty _)) pa_nil))) (pe_callB call_isi rfl mI (by decide +kernel) (pa_cons (pv 1) (pa_cons (pe_bltn rfl mt boot_tuple (rel_ty _)) pa_nil))) (nomark _))))) (pss_one ps_never) pss_nil)
          (pss_one (ps_ret (pe_and (pe_cmpR op_eq (pe_callB call_len_seq rfl mn PySem.boot_len (pa_cons (pv 0) pa_nil)) (pe_callB call_len_seq rfl mn PySem.boot_len (pa_cons (pv 1) pa_nil)) (nomark _))
            (pe_one (pe_callB (cr_all rfl) rfl ma (by decide +kernel) (pa_cons (pe_lc (own := [("_law_part_a", 2), ("_law_part_b", 3)]) (g := gTup K 2 (gCons (gName 2) (gCons (gName 3) gNil))) (tt := tYes) rfl scLike.nd (pi_zipA rfl mz (pa_cons (pv 0) (pa_cons (pv 1) pa_nil))) (blkOk_by (N := nLike) (sc := defScope L_same) (by decide +kernel))
              (fun _ _ _ _ _ => pg_tup rfl (pgs_cons (pg_name (i := 2) scLike.nd rfl (Or.inl rfl)) (pgs_cons (pg_name (i := 3) scLike.nd rfl (Or.inl rfl)) pgs_nil))) (fun _ _ _ _ _ => pts_nil) (fun _ _ _ _ _ => pe_call GL hr rfl mL F.kp bL .nil pass0 (pa_cons (pv 2) (pa_cons (pv 3) pa_nil)))) pa_nil))))))) pss_nil)
        (pss_cons ps_never (pss_cons ps_never (pss_cons ps_never (pss_one ps_never)))), ?_⟩
      refine ⟨_, rfl, (by show 2 ≤ sizeLine; decide), fun p np => ?_⟩
      have g1 := new_same np (.tup [.ty "list", .ty "tuple"])
      refine ⟨.ref b, p, _, .type "list", _, true, rfl, upd_same, .cons (.ty _) (.cons (.ty _) .nil), .base (.lst (g1 _ _ h2)), kit2 kb_l.1 kb_l.2.1 rfl, _, rfl, ?_⟩
      refine iteT ?_
      generalize upd H p (.tup [.ty "list", .ty "tuple"]) = H1 at g1
      have ta : TyX K H1 (.ref a) (.type "list") := .base (.lst (g1 _ _ h1))
      have tb : TyX K H1 (.ref b) (.type "list") := .base (.lst (g1 _ _ h2))
      refine ⟨_, rfl, .ref a, _, _, _, _, rfl, .ty _, ta, kit_ty kb_l.1, _, rfl, .ref b, _, _, _, _, rfl, .ty _, tb, kit_ty kb_l.1, rfl, _, rfl, iteNS rfl ?_⟩
      refine ⟨_, rfl, .ref a, _, _, _, _, rfl, .ty _, ta, kit_ty kb_l.2.1, _, rfl, .ref b, _, _, _, _, rfl, .ty _, tb, kit_ty kb_l.2.1, rfl, _, rfl, iteNS rfl ?_⟩
      refine ⟨_, rfl, a, xs, rfl, .inl (SqL.of (g1 _ _ h1)), _, rfl, b, ys, rfl, .inl (SqL.of (g1 _ _ h2)), rfl, _, rfl, ?_⟩
      rw [decide_eq_true (show V.int (xs.length : Nat) = V.int (ys.length : Nat) by rw [le])]
      refine iteT ⟨_, rfl, _, rfl, a, b, xs, ys, rfl, .inl ⟨SqL.of (g1 _ _ h1), SqL.of (g1 _ _ h2), fun D nD => ?_⟩⟩
      refine lc_it (walk_zip (K := K) (a := a) (b := b) (xs := xs) (ys := ys) (n := xs.length) (by omega)) (fun i H' => Same H1 H' ∧ H' D = some (.lst ((List.replicate i true).map V.bl))) ⟨new_same nD _, upd_same⟩ (fun i H' _ h => ⟨SqL.of (h.1 _ _ (g1 _ _ h1)), SqL.of (h.1 _ _ (g1 _ _ h2))⟩) ?_ ?_
      · rintro i x H' H5 hi ⟨g, hD⟩ ⟨T, y, z, rfl, hT, rfl, hy, hz⟩
        refine ⟨T, [y, z], rfl, SqT.of upd_same, rfl, y, [z], rfl, z, [], rfl, rfl, ?_⟩
        refine ⟨rfl, ?_⟩
        refine yesT ?_
        have g5 : Same H1 (upd H' T (.tup [y, z])) := g.trans (new_same hT _)
        have tyz := el i y z hy hz _ (g1.trans g5)
        refine ⟨_, rfl, _, rfl, y, z, rfl, tyz, fun H6 g6 => ⟨(List.replicate i true).map V.bl, ?_, ?_, ?_, ?_⟩⟩
        · refine g6 _ _ ?_
          rw [upd_ne (ne_of_none hD hT)]
          exact hD
        · rw [List.length_map, List.length_replicate]
          exact small1000 (by omega)
        · exact fun c o h => by rw [upd_ne (ne_of_none h nD)]; exact g6 _ _ (g5 _ _ h)
        · rw [upd_same, List.replicate_succ', List.map_append]
          rfl
      · rintro H' ⟨g, hD⟩
        refine ⟨D, List.replicate xs.length true, rfl, SqL.of hD, ?_⟩
        have e : (List.replicate xs.length true).all id = true := by simp
        rw [e]
        exact q H' (g1.trans g)
    · refine ⟨_, pss_cons (ps_if (pt_val (pe_callB call_isiT rfl mI (by decide +kernel) (pa_cons (pv 1) (pa_cons (pe_tup (pa_cons (pe_bltn rfl ml boot_list (rel_ty _)) (pa_cons (pe_bltn rfl mt boot_tuple (rel_ty _)) pa_nil))) pa_nil))))
          (pss_cons (ps_if (PW.pt (pw_or (pt_cmpR op_ne (pe_callB call_isi rfl mI (by decide +kernel) (pa_cons (pv 0) (pa_cons (pe_bltn rfl ml boot_list (rel_ty _)) pa_nil))) (pe_callB call_isi rfl mI (by decide +kernel) (pa_cons (pv 1) (pa_cons (pe_bltn rfl ml boot_list (rel_ty _)) pa_nil))) (nomark _)) (pw_or1 (pt_cmpR op_ne (pe_callB call_isi rfl mI (by decide +kernel) (pa_cons (pv 0) (pa_cons (pe_bltn rfl mt boot_tuple (rel_ty _)) pa_nil))) (pe_callB call_isi rfl mI (by decide +kernel) (pa_cons (pv 1) (pa_cons (pe_bltn rfl mt boot_tuple (rel_ty _)) pa_nil))) (nomark _))))) (pss_one ps_never) pss_nil)
          (pss_one (ps_ret (pe_and (pe_cmpR op_eq (pe_callB call_len_seq rfl mn PySem.boot_len (pa_cons (pv 0) pa_nil)) (pe_callB call_len_seq rfl mn PySem.boot_len (pa_cons (pv 1) pa_nil)) (nomark _))
            (pe_one (pe_callB (cr_all rfl) rfl ma (by decide +kernel) (pa_cons (pe_lc (own := [("_law_part_a", 2), ("_law_part_b", 3)]) (g := gTup K 2 (gCons (gName 2) (gCons (gName 3) gNil))) (tt := tYes) rfl scLike.nd (pi_zipA rfl mz (pa_cons (pv 0) (pa_cons (pv 1) pa_nil))) (blkOk_by (N := nLike) (sc := defScope L_same) (by decide +kernel))
              (fun _ _ _ _ _ => pg_tup rfl (pgs_cons (pg_name (i := 2) scLike.nd rfl (Or.inl rfl)) (pgs_cons (pg_name (i := 3) scLike.nd rfl (Or.inl rfl)) pgs_nil))) (fun _ _ _ _ _ => pts_nil) (fun _ _ _ _ _ => pe_call GL hr rfl mL F.kp bL .nil pass0 (pa_cons (pv 2) (pa_cons (pv 3) pa_nil)))) pa_nil))))))) pss_nil)
        (pss_cons ps_never (pss_cons ps_never (pss_cons ps_never (pss_one ps_never)))), ?_⟩
      refine ⟨_, rfl, (by show 2 ≤ sizeLine; decide), fun p np => ?_⟩
      have g1 := new_same np (.tup [.ty "list", .ty "tuple"])
      refine ⟨.ref b, p, _, .type "tuple", _, true, rfl, upd_same, .cons (.ty _) (.cons (.ty _) .nil), (h2.same g1).ty, kit2 kb_l.2.2.1 kb_l.2.2.2 rfl, _, rfl, ?_⟩
      refine iteT ?_
      generalize upd H p (.tup [.ty "list", .ty "tuple"]) = H1 at g1
      have ta : TyX K H1 (.ref a) (.type "tuple") := (h1.same g1).ty
      have tb : TyX K H1 (.ref b) (.type "tuple") := (h2.same g1).ty
      refine ⟨_, rfl, .ref a, _, _, _, _, rfl, .ty _, ta, kit_ty kb_l.2.2.1, _, rfl, .ref b, _, _, _, _, rfl, .ty _, tb, kit_ty kb_l.2.2.1, rfl, _, rfl, iteNS rfl ?_⟩
      refine ⟨_, rfl, .ref a, _, _, _, _, rfl, .ty _, ta, kit_ty kb_l.2.2.2, _, rfl, .ref b, _, _, _, _, rfl, .ty _, tb, kit_ty kb_l.2.2.2, rfl, _, rfl, iteNS rfl ?_⟩
      refine ⟨_, rfl, a, xs, rfl, .inr ((h1.same g1).t), _, rfl, b, ys, rfl, .inr ((h2.same g1).t), rfl, _, rfl, ?_⟩
      rw [decide_eq_true (show V.int (xs.length : Nat) = V.int (ys.length : Nat) by rw [le])]
      refine iteT ⟨_, rfl, _, rfl, a, b, xs, ys, rfl, .inr ⟨(h1.same g1).t, (h2.same g1).t, fun D nD => ?_⟩⟩
      refine lc_it (walk_zipT (K := K) (a := a) (b := b) (xs := xs) (ys := ys) (n := xs.length) (by omega)) (fun i H' => Same H1 H' ∧ H' D = some (.lst ((List.replicate i true).map V.bl))) ⟨new_same nD _, upd_same⟩ (fun i H' _ h => ⟨((h1.same g1).same h.1).t, ((h2.same g1).same h.1).t⟩) ?_ ?_
      · rintro i x H' H5 hi ⟨g, hD⟩ ⟨T, y, z, rfl, hT, rfl, hy, hz⟩
        refine ⟨T, [y, z], rfl, SqT.of upd_same, rfl, y, [z], rfl, z, [], rfl, rfl, ?_⟩
        refine ⟨rfl, ?_⟩
        refine yesT ?_
        have g5 : Same H1 (upd H' T (.tup [y, z])) := g.trans (new_same hT _)
        have tyz := el i y z hy hz _ (g1.trans g5)
        refine ⟨_, rfl, _, rfl, y, z, rfl, tyz, fun H6 g6 => ⟨(List.replicate i true).map V.bl, ?_, ?_, ?_, ?_⟩⟩
        · refine g6 _ _ ?_
          rw [upd_ne (ne_of_none hD hT)]
          exact hD
        · rw [List.length_map, List.length_replicate]
          exact small1000 (by omega)
        · exact fun c o h => by rw [upd_ne (ne_of_none h nD)]; exact g6 _ _ (g5 _ _ h)
        · rw [upd_same, List.replicate_succ', List.map_append]
          rfl
      · rintro H' ⟨g, hD⟩
        refine ⟨D, List.replicate xs.length true, rfl, SqL.of hD, ?_⟩
        have e : (List.replicate xs.length true).all id = true := by simp
        rw [e]
        exact q H' (g1.trans g)
end
end Kx
end
section
set_option maxHeartbeats 4000000
namespace Kx
open PySem PySem.Spec PyProof.Rows L2 RZ
/-! ### a step told, sizes asked -/
def spIst (K : PySem.W.Frag) (S : Addr) : Sp := fun vs H Q _ => ∃ (x y : V) (qs : List Rat), vs = [x, y] ∧ StAt K S H x qs ∧ Ls K H y (0 :: qs) ∧ ∀ H', Same H H' → Q (.bl true) H'
def fitB (q : Rat) : Bool := decide (q.num.natAbs < 10 ^ 60) && decide (q.den < 10 ^ 60)
def spFts (K : PySem.W.Frag) : Sp := fun vs H Q _ => ∃ (x : V) (us : List Rat), vs = [x] ∧ Ls K H x us ∧ us.length ≤ 40 ∧ ∀ H', Same H H' → Q (.bl (us.all fitB)) H'
theorem fit_of {us : List Rat} (h : us.all fitB = true) : ∀ q ∈ us, FitQ q := fun q hq => by
  have := List.all_eq_true.mp h q hq
  unfold fitB at this
  rw [Bool.and_eq_true, decide_eq_true_eq, decide_eq_true_eq] at this
  have b : (10 : Nat) ^ 60 < 2 ^ 200 := by decide
  exact ⟨Nat.lt_trans this.1 b, Nat.lt_trans this.2 b⟩
section
variable {P : Program} {w : World} {K : PySem.W.Frag} {mg : Str → Option Value} {base : Heap} {f C S CF CO o0 : Addr} {fd : FuncData}
theorem scIst : FnScope ["_law_told", "_law_f"] ["_law_told", "_law_f"] (defScope L_is_step) := ⟨rfl, rfl, rfl, by decide +kernel, rfl, by decide +kernel, by decide +kernel⟩
theorem ok_isstep (F : Fun K "_law_is_step" "_law_is_step" L_is_step f fd) (k : StepK P w K mg base C S CF CO) (mn : mg "len" = none) (UN : MUse P w K mg base CX0 1 S "numbers" ["self"] (spNuS K S) []) (US : Use P w K mg base CX0 5 "_law_same" ["_law_found", "_law_due"] (spLike K 3) []) : FnOk P w K mg base CX0 6 f fd ["_law_told", "_law_f"] (spIst K S) := by
  refine F.ok scIst (fun vs H Q E h => ?_) (fun cdv A outer s H vs Q E hr h => ?_)
  · obtain ⟨x, y, qs, rfl, _⟩ := h
    rfl
  obtain ⟨u, y, qs, rfl, hR, hL, q⟩ := h
  have hr1 := hr.mono (show 1 ≤ 5 by decide)
  refine ⟨_, pss_one (ps_ret (pe_use US hr rfl pass0 (pa_cons (pe_lst (pa_cons (pe_mu0 UN (pv 0) hr1 pass0) (pa_cons (pe_fld (pv 0) rfl) (pa_cons (pe_fld (pv 0) rfl) pa_nil))))
    (pa_cons (pe_lst (pa_cons (pe_slice sl_list (pv 1) (po_some pe_int) po_none) (pa_cons (pe_op op_sub (pe_callB call_len_seq rfl mn PySem.boot_len (pa_cons (pv 1) pa_nil)) pe_int) (pa_cons (pe_ix ix_list (pv 1) pe_int (fun _ _ => rfl)) pa_nil)))) pa_nil)))), ?_⟩
  obtain ⟨l2, l24⟩ := hR.le
  obtain ⟨x, dx, fs, x0, rfl, hx, fl, nq, fn, _⟩ := hR.ld
  obtain ⟨x', dx', _, _, gs, e', hx', _, _, _, fo⟩ := hR.nb
  obtain rfl := V.ref.inj e'
  rw [hx] at hx'
  cases hx'
  obtain ⟨a, ys, rfl, ha, ny⟩ := id hL
  have ly : ys.length = qs.length + 1 := ny.1
  obtain ⟨y1, ey1, ny1⟩ := ny.get' (i := 1) (by rw [List.length_cons]; omega)
  refine ⟨_, rfl, x, dx, fs, rfl, hx, fn, .ref x, qs, rfl, hR, fun t H1 zs s1 nt et nz => ?_⟩
  refine ⟨_, rfl, x, S, dx, _, _, rfl, s1 _ _ hx, k.c, k.nA _ (by simp [stN]), fo, _, rfl, x, S, dx, _, _, rfl, s1 _ _ hx, k.c, k.nA _ (by simp [stN]), fl, (by show 3 ≤ sizeLine; decide), fun t1 n1 => ?_⟩
  have g1 := new_same n1 (.lst [.ref t, .int (qs.length : Int), x0])
  have ha1 := g1 _ _ (s1 _ _ ha)
  refine ⟨_, rfl, 1, rfl, a, ys, rfl, SqL.of ha1, fun p np => ?_⟩
  rw [show cutV ys (some 1) none = ys.drop 1 from cut_drop ys 1]
  have g2 := new_same np (.lst (ys.drop 1))
  refine ⟨_, rfl, a, ys, rfl, .inl (SqL.of (g2 _ _ ha1)), (ys.length : Nat), 1, rfl, rfl, _, rfl, a, ys, 1, y1, rfl, rfl, SqL.of (g2 _ _ ha1), at_of (j := 1) rfl ey1, (by show 3 ≤ sizeLine; decide), fun t2 n2 => ?_⟩
  have g3 := new_same n2 (.lst [.ref p, .int (((ys.length : Nat) : Int) - 1), y1])
  have sA := s1.trans (g1.trans (g2.trans g3))
  refine ⟨_, _, rfl, Lk.lst (n := 2) ((g2.trans g3) _ _ upd_same) upd_same (by show 3 ≤ 60; decide) ?_, fun H' s' => q _ (sA.trans s')⟩
  have nq1 : Nq K H y1 (serS qs 1) := by
    have e : (0 :: qs)[1]'(by rw [List.length_cons]; omega) = serS qs 1 := by
      show qs[0]'(by omega) = qs.getD 0 0
      rw [List.getD_eq_getElem?_getD, List.getElem?_eq_getElem (by omega)]
      rfl
    rw [← e]
    exact ny1
  refine .cons (Ls.lk (n := 0) ⟨t, zs, rfl, (g1.trans (g2.trans g3)) _ _ et, nz.same (g1.trans (g2.trans g3))⟩ ⟨p, ys.drop 1, rfl, g3 _ _ upd_same, (ny.drop 1).same sA⟩ (by omega)) (.cons ?_ (.cons (Nq.lk (n := 1) (nq.same sA) (nq1.same sA)) .nil))
  show Lk K 2 _ (.int (qs.length : Int)) (.int (((ys.length : Nat) : Int) - 1))
  rw [show ((ys.length : Nat) : Int) - 1 = (qs.length : Int) by omega]
  exact Lk.flat rfl
end
end Kx
end
section
set_option maxHeartbeats 4000000
namespace Kx
open PySem PySem.Spec PyProof.Rows L2 RZ
/-! ### the sums t^i L^i / i! of a drift v: L is v times the slope -/
def fcR : Nat → Rat
  | 0 => 1
  | i + 1 => fcR i / ((i + 1 : Nat) : Rat)
def pwQ (t : Rat) : Nat → Rat
  | 0 => 1
  | i + 1 => pwQ t i * t
def exR (t : Rat) : Ser := fun i => pwQ t i * fcR i
def derS (f : Ser) : Ser := fun n => f (n + 1) * ((n + 1 : Nat) : Rat)
def lS (v f : Ser) : Ser := mulS v (derS f)
def lP (v u : Ser) : Nat → Ser
  | 0 => u
  | i + 1 => lS v (lP v u i)
def dV (v u : Ser) (i : Nat) : Ser := fun k => lP v u i k * fcR i
def eN (v u : Ser) (t : Rat) (N : Nat) : Ser := fun k => sumN (fun i => pwQ t i * dV v u i k) N
theorem two_sum (M : Nat → Nat → Rat) (n : Nat) : sumN (fun i => ((i + 1 : Nat) : Rat) * M (i + 1) (n - i)) (n + 1) + sumN (fun i => ((n - i + 1 : Nat) : Rat) * M i (n - i + 1)) (n + 1) = ((n + 1 : Nat) : Rat) * sumN (fun i => M i (n + 1 - i)) (n + 2) := by
  rw [← sum_mul]
  have e : sumN (fun i => ((n + 1 : Nat) : Rat) * M i (n + 1 - i)) (n + 2) = sumN (fun i => ((i : Nat) : Rat) * M i (n + 1 - i) + ((n + 1 - i : Nat) : Rat) * M i (n + 1 - i)) (n + 2) := sum_congr fun i hi => by
    rw [← Rat.add_mul, ← Rat.natCast_add, show i + (n + 1 - i) = n + 1 by omega]
  rw [e, sum_add, sum_first (fun i => ((i : Nat) : Rat) * M i (n + 1 - i)) (n + 1)]
  have l : sumN (fun i => ((n + 1 - i : Nat) : Rat) * M i (n + 1 - i)) (n + 2) = sumN (fun i => ((n + 1 - i : Nat) : Rat) * M i (n + 1 - i)) (n + 1) := by
    show _ + ((n + 1 - (n + 1) : Nat) : Rat) * _ = _
    rw [Nat.sub_self]
    show _ + (0 : Rat) * _ = _
    rw [Rat.zero_mul, Rat.add_zero]
  rw [l]
  have z : ((0 : Nat) : Rat) * M 0 (n + 1 - 0) = 0 := Rat.zero_mul _
  rw [z, Rat.zero_add]
  have a : sumN (fun i => ((i + 1 : Nat) : Rat) * M (i + 1) (n + 1 - (i + 1))) (n + 1) = sumN (fun i => ((i + 1 : Nat) : Rat) * M (i + 1) (n - i)) (n + 1) := sum_congr fun i _ => by rw [show n + 1 - (i + 1) = n - i by omega]
  have b : sumN (fun i => ((n + 1 - i : Nat) : Rat) * M i (n + 1 - i)) (n + 1) = sumN (fun i => ((n - i + 1 : Nat) : Rat) * M i (n - i + 1)) (n + 1) := sum_congr fun i hi => by rw [show n + 1 - i = n - i + 1 by omega]
  rw [a, b]
theorem der_mul (f g : Ser) : derS (mulS f g) = addS (mulS (derS f) g) (mulS f (derS g)) := by
  funext n
  have h := two_sum (fun i j => f i * g j) n
  show sumN (fun i => f i * g (n + 1 - i)) (n + 2) * ((n + 1 : Nat) : Rat) = sumN (fun i => f (i + 1) * ((i + 1 : Nat) : Rat) * g (n - i)) (n + 1) + sumN (fun i => f i * (g (n - i + 1) * ((n - i + 1 : Nat) : Rat))) (n + 1)
  rw [Rat.mul_comm, ← h]
  congr 1 <;> exact sum_congr fun i _ => by grind
theorem mulS_smul (c : Rat) (f g : Ser) : mulS (fun k => c * f k) g = fun k => c * mulS f g k := by
  funext n
  show sumN (fun i => c * f i * g (n - i)) (n + 1) = c * sumN _ (n + 1)
  rw [← sum_mul]
  exact sum_congr fun i _ => by grind
theorem mulS_smulR (c : Rat) (f g : Ser) : mulS f (fun k => c * g k) = fun k => c * mulS f g k := by rw [mulS_comm, mulS_smul, mulS_comm]
theorem mulS_addR (f g h : Ser) : mulS f (addS g h) = addS (mulS f g) (mulS f h) := by rw [mulS_comm, mulS_add, mulS_comm g, mulS_comm h]
theorem der_add (f g : Ser) : derS (addS f g) = addS (derS f) (derS g) := by
  funext n
  show (f (n + 1) + g (n + 1)) * _ = f (n + 1) * _ + g (n + 1) * _
  rw [Rat.add_mul]
theorem lS_add (v f g : Ser) : lS v (addS f g) = addS (lS v f) (lS v g) := by
  unfold lS
  rw [der_add, mulS_addR]
theorem lS_smul (v f : Ser) (c : Rat) : lS v (fun k => c * f k) = fun k => c * lS v f k := by
  have : derS (fun k => c * f k) = fun k => c * derS f k := by
    funext n
    show c * f (n + 1) * _ = c * (f (n + 1) * _)
    rw [Rat.mul_assoc]
  unfold lS
  rw [this, mulS_smulR]
theorem lS_zero (v : Ser) : lS v (fun _ => 0) = fun _ => 0 := by
  have := lS_smul v (fun _ => 0) 0
  have e : (fun k : Nat => (0 : Rat) * (fun _ => (0 : Rat)) k) = fun _ => 0 := by funext k; exact Rat.zero_mul _
  rw [e] at this
  rw [this]
  funext k
  exact Rat.zero_mul _
theorem lS_sum (v : Ser) (F : Nat → Ser) : ∀ n, lS v (fun k => sumN (fun i => F i k) n) = fun k => sumN (fun i => lS v (F i) k) n
  | 0 => lS_zero v
  | n + 1 => by
    have : (fun k => sumN (fun i => F i k) (n + 1)) = addS (fun k => sumN (fun i => F i k) n) (F n) := rfl
    rw [this, lS_add, lS_sum v F n]
    rfl
theorem lS_mul (v f g : Ser) : lS v (mulS f g) = addS (mulS (lS v f) g) (mulS f (lS v g)) := by
  unfold lS
  rw [der_mul, mulS_addR, ← mulS_assoc, ← mulS_assoc v f, mulS_comm v f, mulS_assoc f v]
theorem lP_sum (v : Ser) (F : Nat → Ser) (n : Nat) : ∀ j, lP v (fun k => sumN (fun i => F i k) n) j = fun k => sumN (fun i => lP v (F i) j k) n
  | 0 => rfl
  | j + 1 => by
    show lS v (lP v _ j) = _
    rw [lP_sum v F n j, lS_sum]
    rfl
theorem lP_smul (v f : Ser) (c : Rat) : ∀ j, lP v (fun k => c * f k) j = fun k => c * lP v f j k
  | 0 => rfl
  | j + 1 => by
    show lS v (lP v _ j) = _
    rw [lP_smul v f c j, lS_smul]
    rfl
theorem lP_lP (v u : Ser) (i : Nat) : ∀ j, lP v (lP v u i) j = lP v u (i + j)
  | 0 => rfl
  | j + 1 => by
    show lS v (lP v _ j) = lS v (lP v u (i + j))
    rw [lP_lP v u i j]
theorem lP_add (v f g : Ser) : ∀ j, lP v (addS f g) j = addS (lP v f j) (lP v g j)
  | 0 => rfl
  | j + 1 => by
    show lS v (lP v _ j) = _
    rw [lP_add v f g j, lS_add]
    rfl
theorem dV_zero (v u : Ser) : dV v u 0 = u := by
  funext k
  show u k * 1 = u k
  rw [Rat.mul_one]
theorem dV_succ (v u : Ser) (i : Nat) : lS v (dV v u i) = fun k => ((i + 1 : Nat) : Rat) * dV v u (i + 1) k := by
  have e : dV v u i = fun k => fcR i * lP v u i k := by funext k; exact Rat.mul_comm _ _
  rw [e, lS_smul]
  funext k
  show fcR i * lP v u (i + 1) k = ((i + 1 : Nat) : Rat) * (lP v u (i + 1) k * (fcR i / ((i + 1 : Nat) : Rat)))
  have n0 := nat_ne (show i + 1 ≠ 0 by omega)
  have : fcR i / ((i + 1 : Nat) : Rat) * ((i + 1 : Nat) : Rat) = fcR i := Rat.div_mul_cancel n0
  grind
theorem dV_next (v u : Ser) (i k : Nat) : dV v u (i + 1) k = lS v (dV v u i) k * (1 / ((i + 1 : Nat) : Rat)) := by
  rw [dV_succ]
  have n0 := nat_ne (show i + 1 ≠ 0 by omega)
  have : (1 : Rat) / ((i + 1 : Nat) : Rat) * ((i + 1 : Nat) : Rat) = 1 := Rat.div_mul_cancel n0
  grind
theorem leib (v f g : Ser) : ∀ n k, dV v (mulS f g) n k = sumN (fun i => mulS (dV v f i) (dV v g (n - i)) k) (n + 1)
  | 0, k => by
    rw [dV_zero]
    show _ = 0 + mulS (dV v f 0) (dV v g 0) k
    rw [dV_zero, dV_zero, Rat.zero_add]
  | n + 1, k => by
    have n0 := nat_ne (show n + 1 ≠ 0 by omega)
    have ih : dV v (mulS f g) n = fun k => sumN (fun i => mulS (dV v f i) (dV v g (n - i)) k) (n + 1) := funext fun k => leib v f g n k
    have h1 : ((n + 1 : Nat) : Rat) * dV v (mulS f g) (n + 1) k = lS v (dV v (mulS f g) n) k := by rw [dV_succ]
    rw [ih, lS_sum] at h1
    have h2 := two_sum (fun i j => mulS (dV v f i) (dV v g j) k) n
    rw [← sum_add] at h2
    have h3 : sumN (fun i => lS v (mulS (dV v f i) (dV v g (n - i))) k) (n + 1) = sumN (fun i => ((i + 1 : Nat) : Rat) * mulS (dV v f (i + 1)) (dV v g (n - i)) k + ((n - i + 1 : Nat) : Rat) * mulS (dV v f i) (dV v g (n - i + 1)) k) (n + 1) := sum_congr fun i _ => by
      rw [lS_mul, dV_succ, dV_succ, mulS_smul, mulS_smulR]
      rfl
    have h4 := Eq.trans h1 (h3.trans h2)
    have : ∀ {a b c : Rat}, c ≠ 0 → c * a = c * b → a = b := fun {a b c} hc e => by
      have h : c⁻¹ * c = 1 := Rat.inv_mul_cancel c hc
      have : c⁻¹ * (c * a) = c⁻¹ * (c * b) := by rw [e]
      rw [← Rat.mul_assoc, ← Rat.mul_assoc, h, Rat.one_mul, Rat.one_mul] at this
      exact this
    exact this n0 h4
theorem pwQ_add (t : Rat) (i : Nat) : ∀ j, pwQ t (i + j) = pwQ t i * pwQ t j
  | 0 => (Rat.mul_one _).symm
  | j + 1 => by
    show pwQ t (i + j) * t = pwQ t i * (pwQ t j * t)
    rw [pwQ_add t i j, Rat.mul_assoc]
theorem sq_tri (G : Nat → Nat → Rat) (N : Nat) (h : ∀ i j, N ≤ i + j → G i j = 0) : sumN (fun i => sumN (G i) N) N = sumN (fun n => sumN (fun i => G i (n - i)) (n + 1)) N := by
  rw [sum_tri]
  refine sum_congr fun i _ => ?_
  exact sum_more (Nat.sub_le N i) fun j hj => h i j (by omega)
/-- L lifts -/
theorem lP_low {v u : Ser} {kk : Nat} (hv : ∀ j, j ≤ kk → v j = 0) : ∀ i k, 1 ≤ i → k ≤ i * kk → lP v u i k = 0
  | 0, _, h, _ => absurd h (by omega)
  | i + 1, k, _, hk => by
    show sumN (fun a => v a * (lP v u i (k - a + 1) * ((k - a + 1 : Nat) : Rat))) (k + 1) = 0
    refine sum_zero fun a ha => ?_
    rcases Nat.lt_or_ge kk a with c | c
    · rcases Nat.eq_zero_or_pos i with rfl | i1
      · omega
      · rw [lP_low hv i (k - a + 1) i1 (by rw [Nat.succ_mul] at hk; omega), Rat.zero_mul, Rat.mul_zero]
    · rw [hv a c, Rat.zero_mul]
theorem dV_low {v u : Ser} {kk : Nat} (hv : ∀ j, j ≤ kk → v j = 0) {i k : Nat} (i1 : 1 ≤ i) (hk : k ≤ i * kk) : dV v u i k = 0 := by
  show lP v u i k * _ = 0
  rw [lP_low hv i k i1 hk, Rat.zero_mul]
section
variable {v : Ser} (hv : ∀ j, j ≤ 1 → v j = 0)
include hv
theorem dV_lo {u : Ser} {i k : Nat} (i1 : 1 ≤ i) (hk : k ≤ i) : dV v u i k = 0 := dV_low hv i1 (by omega)
theorem mul_lo {f g : Ser} {i j k : Nat} (h : k + 1 ≤ i + j) : mulS (dV v f i) (dV v g j) k = 0 := sum_zero fun a ha => by
  rcases Nat.eq_zero_or_pos i with rfl | i1
  · rw [dV_lo hv (i := j) (k := k - a) (by omega) (by omega), Rat.mul_zero]
  rcases Nat.lt_or_ge i a with c | c
  · rcases Nat.eq_zero_or_pos j with rfl | j1
    · omega
    · rw [dV_lo hv (i := j) (k := k - a) j1 (by omega), Rat.mul_zero]
  · rw [dV_lo hv (i := i) (k := a) i1 c, Rat.zero_mul]
theorem eN_mul (f g : Ser) (t : Rat) {N k : Nat} (hk : k < N) : eN v (mulS f g) t N k = mulS (eN v f t N) (eN v g t N) k := by
  have r : mulS (eN v f t N) (eN v g t N) k = sumN (fun i => sumN (fun j => pwQ t i * pwQ t j * mulS (dV v f i) (dV v g j) k) N) N := by
    show sumN (fun a => sumN (fun i => pwQ t i * dV v f i a) N * sumN (fun j => pwQ t j * dV v g j (k - a)) N) (k + 1) = _
    have e1 : ∀ a, sumN (fun i => pwQ t i * dV v f i a) N * sumN (fun j => pwQ t j * dV v g j (k - a)) N = sumN (fun i => sumN (fun j => pwQ t i * pwQ t j * (dV v f i a * dV v g j (k - a))) N) N := fun a => by
      rw [← sum_mulR]
      refine sum_congr fun i _ => ?_
      rw [← sum_mul]
      exact sum_congr fun j _ => by grind
    rw [sum_congr fun a _ => e1 a, sum_swap]
    refine sum_congr fun i _ => ?_
    rw [sum_swap]
    refine sum_congr fun j _ => ?_
    rw [sum_mul]
    rfl
  rw [r, sq_tri _ _ fun i j h => by rw [mul_lo hv (by omega), Rat.mul_zero]]
  refine sum_congr fun n _ => ?_
  show pwQ t n * dV v (mulS f g) n k = _
  rw [leib, ← sum_mul]
  refine sum_congr fun i hi => ?_
  have : pwQ t n = pwQ t i * pwQ t (n - i) := by rw [← pwQ_add, show i + (n - i) = n by omega]
  rw [this]
omit hv in
theorem exR_add (s t : Rat) : mulS (exR s) (exR t) = exR (s + t) := by
  have d : ∀ t, derS (exR t) = fun k => t * exR t k := fun t => by
    funext k
    show pwQ t k * t * (fcR k / ((k + 1 : Nat) : Rat)) * ((k + 1 : Nat) : Rat) = t * (pwQ t k * fcR k)
    have n0 := nat_ne (show k + 1 ≠ 0 by omega)
    have : fcR k / ((k + 1 : Nat) : Rat) * ((k + 1 : Nat) : Rat) = fcR k := Rat.div_mul_cancel n0
    grind
  have h : derS (mulS (exR s) (exR t)) = fun k => (s + t) * mulS (exR s) (exR t) k := by
    rw [der_mul, d, d, mulS_smul, mulS_smulR]
    funext k
    show s * _ + t * _ = (s + t) * _
    rw [Rat.add_mul]
  funext k
  induction k with
  | zero =>
    show 0 + (1 : Rat) * 1 * (1 * 1) = 1 * 1
    decide +kernel
  | succ k ih =>
    have n0 := nat_ne (show k + 1 ≠ 0 by omega)
    have h1 : mulS (exR s) (exR t) (k + 1) * ((k + 1 : Nat) : Rat) = (s + t) * mulS (exR s) (exR t) k := congrFun h k
    have h2 : exR (s + t) (k + 1) * ((k + 1 : Nat) : Rat) = (s + t) * exR (s + t) k := congrFun (d (s + t)) k
    rw [ih, ← h2] at h1
    have : ∀ {a b c : Rat}, c ≠ 0 → a * c = b * c → a = b := fun {a b c} hc e => by
      have h : c * c⁻¹ = 1 := Rat.mul_inv_cancel c hc
      have : a * c * c⁻¹ = b * c * c⁻¹ := by rw [e]
      rw [Rat.mul_assoc, Rat.mul_assoc, h, Rat.mul_one, Rat.mul_one] at this
      exact this
    exact this n0 h1
theorem eN_eN (u : Ser) (s t : Rat) {N k : Nat} (hk : k < N) : eN v (eN v u t N) s N k = eN v u (s + t) N k := by
  have e : ∀ j, pwQ s j * dV v (eN v u t N) j k = sumN (fun i => exR s j * exR t i * lP v u (j + i) k) N := fun j => by
    show pwQ s j * (lP v (fun k => sumN (fun i => pwQ t i * dV v u i k) N) j k * fcR j) = _
    rw [lP_sum v (fun i k => pwQ t i * dV v u i k) N j, ← sum_mulR, ← sum_mul]
    refine sum_congr fun i _ => ?_
    have e2 : (fun k => pwQ t i * dV v u i k) = fun k => exR t i * lP v u i k := by
      funext k
      show pwQ t i * (lP v u i k * fcR i) = pwQ t i * fcR i * _
      grind
    show pwQ s j * (lP v (fun k => pwQ t i * dV v u i k) j k * fcR j) = _
    rw [e2, lP_smul, lP_lP, Nat.add_comm i j]
    show pwQ s j * (exR t i * lP v u (j + i) k * fcR j) = pwQ s j * fcR j * exR t i * _
    grind
  have lo : ∀ i j, N ≤ i + j → exR s i * exR t j * lP v u (i + j) k = 0 := fun i j h => by
    rw [lP_low hv (i + j) k (by omega) (by omega), Rat.mul_zero]
  show sumN (fun j => pwQ s j * dV v (eN v u t N) j k) N = _
  rw [sum_congr fun j _ => e j, sq_tri _ _ lo]
  refine sum_congr fun n _ => ?_
  have h1 : sumN (fun i => exR s i * exR t (n - i) * lP v u (i + (n - i)) k) (n + 1) = sumN (fun i => exR s i * exR t (n - i) * lP v u n k) (n + 1) := sum_congr fun i hi => by rw [show i + (n - i) = n by omega]
  rw [h1, sum_mulR]
  have h2 : sumN (fun i => exR s i * exR t (n - i)) (n + 1) = exR (s + t) n := congrFun (exR_add s t) n
  rw [h2]
  show pwQ (s + t) n * fcR n * _ = pwQ (s + t) n * (_ * fcR n)
  grind
theorem eN_add (f g : Ser) (t : Rat) (N k : Nat) : eN v (addS f g) t N k = eN v f t N k + eN v g t N k := by
  show sumN _ N = sumN _ N + sumN _ N
  rw [← sum_add]
  refine sum_congr fun i _ => ?_
  show pwQ t i * (lP v (addS f g) i k * fcR i) = _
  rw [lP_add]
  show pwQ t i * ((lP v f i k + lP v g i k) * fcR i) = pwQ t i * (lP v f i k * fcR i) + pwQ t i * (lP v g i k * fcR i)
  grind
theorem eN_const (c t : Rat) {N : Nat} (hN : 0 < N) (k : Nat) : eN v (fun n => c * oneS n) t N k = c * oneS k := by
  obtain ⟨N, rfl⟩ : ∃ M, N = M + 1 := ⟨N - 1, by omega⟩
  have d : derS (fun n => c * oneS n) = fun _ => 0 := by
    funext n
    show c * oneS (n + 1) * _ = 0
    have : oneS (n + 1) = 0 := rfl
    rw [this, Rat.mul_zero, Rat.zero_mul]
  have l : ∀ i, lP v (fun n => c * oneS n) (i + 1) = fun _ => 0 := fun i => by
    induction i with
    | zero =>
      show lS v _ = _
      unfold lS
      have e : lP v (fun n => c * oneS n) 0 = fun n => c * oneS n := rfl
      rw [e, d]
      funext k
      exact sum_zero fun _ _ => Rat.mul_zero _
    | succ i ih =>
      show lS v (lP v _ (i + 1)) = _
      rw [ih, lS_zero]
  show sumN _ (N + 1) = _
  rw [sum_first, sum_zero fun i _ => by
    show pwQ t (i + 1) * (lP v _ (i + 1) k * _) = 0
    rw [l i, Rat.zero_mul, Rat.mul_zero]]
  rw [dV_zero]
  show 1 * (c * oneS k) + 0 = _
  rw [Rat.one_mul, Rat.add_zero]
theorem eN_x0 (t : Rat) {N : Nat} (hN : 0 < N) : eN v xS t N 0 = 0 := by
  obtain ⟨N, rfl⟩ : ∃ M, N = M + 1 := ⟨N - 1, by omega⟩
  show sumN _ (N + 1) = 0
  refine sum_zero fun i _ => ?_
  match i with
  | 0 => rw [dV_zero]; exact Rat.mul_zero _
  | i + 1 => rw [dV_lo hv (by omega) (by omega), Rat.mul_zero]
theorem eN_cmp (t : Rat) {N : Nat} : ∀ k u, k < N → eN v u t N k = cmpS u (eN v xS t N) k := by
  intro k
  induction k using Nat.strongRecOn with
  | _ k ih =>
    intro u hk
    have F0 := eN_x0 hv t (N := N) (by omega)
    have e : u = addS (fun n => u 0 * oneS n) (mulS xS fun n => u (n + 1)) := by
      funext n
      match n with
      | 0 =>
        show u 0 = u 0 * 1 + (0 + (0 : Rat) * _)
        rw [Rat.mul_one, Rat.zero_mul, Rat.add_zero, Rat.add_zero]
      | n + 1 =>
        show u (n + 1) = u 0 * 0 + mulS xS (fun n => u (n + 1)) (n + 1)
        rw [mulS_comm, mulS_x, Rat.mul_zero, Rat.zero_add]
    have c1 : cmpS (fun n => u 0 * oneS n) (eN v xS t N) k = u 0 * oneS k := by
      have : ∀ c : Rat, cmpS (fun n => c * oneS n) (eN v xS t N) k = c * cmpS oneS (eN v xS t N) k := fun c => by
        show sumN (fun j => c * oneS j * powS (eN v xS t N) j k) (k + 1) = c * sumN _ (k + 1)
        rw [← sum_mul]
        exact sum_congr fun j _ => by grind
      rw [this, cmpS_one]
    have rhs : cmpS u (eN v xS t N) k = u 0 * oneS k + mulS (eN v xS t N) (cmpS (fun n => u (n + 1)) (eN v xS t N)) k := by
      rw [show cmpS u (eN v xS t N) k = cmpS (addS (fun n => u 0 * oneS n) (mulS xS fun n => u (n + 1))) (eN v xS t N) k by rw [← e], cmpS_add, cmpS_mul F0]
      show _ + _ = _
      rw [c1]
      congr 1
      refine sum_congr fun i hi => ?_
      rcases Nat.eq_zero_or_pos i with rfl | i1
      · rw [F0, Rat.zero_mul, show cmpS xS (eN v xS t N) 0 = xS 0 from cmpS_zero]
        exact Rat.zero_mul _
      · rw [cmpS_xl _ i i1]
    have lhs : eN v u t N k = u 0 * oneS k + mulS (eN v xS t N) (eN v (fun n => u (n + 1)) t N) k := by
      rw [show eN v u t N k = eN v (addS (fun n => u 0 * oneS n) (mulS xS fun n => u (n + 1))) t N k by rw [← e], eN_add hv, eN_const hv _ _ (by omega), eN_mul hv _ _ _ hk]
    rw [lhs, rhs]
    congr 1
    refine sum_congr fun i hi => ?_
    rcases Nat.eq_zero_or_pos i with rfl | i1
    · rw [F0, Rat.zero_mul, Rat.zero_mul]
    · rw [ih (k - i) (by omega) _ (by omega)]
/-- the orbit of a flow -/
theorem eN_orb (m : Rat) {N k : Nat} (hk : k < N) : cmpS (eN v xS m N) (eN v xS 1 N) k = eN v xS (m + 1) N k := by
  rw [← eN_cmp hv 1 k _ hk, eN_eN hv xS 1 m hk, Rat.add_comm]
theorem eN_to (u : Ser) (t : Rat) {N k : Nat} (hk : k < N) (k1 : 1 ≤ k) : eN v u t N k = sumN (fun i => pwQ t i * dV v u i k) k := 
  sum_more (by omega) fun i hi => by rw [dV_lo hv (by omega) hi, Rat.mul_zero]
end
theorem lP_sc (v u : Ser) (q : Rat) : ∀ i, lP (fun k => v k * q) u i = fun k => lP v u i k * pwQ q i
  | 0 => by
    funext k
    exact (Rat.mul_one _).symm
  | i + 1 => by
    show lS _ (lP _ u i) = _
    rw [lP_sc v u q i]
    funext k
    show sumN (fun a => v a * q * (lP v u i (k - a + 1) * pwQ q i * ((k - a + 1 : Nat) : Rat))) (k + 1) = sumN (fun a => v a * (lP v u i (k - a + 1) * ((k - a + 1 : Nat) : Rat))) (k + 1) * (pwQ q i * q)
    rw [← sum_mulR]
    exact sum_congr fun a _ => by grind
theorem dV_sc (v u : Ser) (q : Rat) (i k : Nat) : dV (fun k => v k * q) u i k = dV v u i k * pwQ q i := by
  show lP _ u i k * _ = lP v u i k * _ * _
  rw [lP_sc]
  grind
end Kx
end
section
set_option maxHeartbeats 4000000
namespace Kx
open PySem PySem.Spec PyProof.Rows L2 RZ
/-! ### sizes of drawn slow steps, and of their drawn powers -/
theorem dq_of {q : Rat} {L B : Nat} (d : q.den ∣ L) (h : q.num.natAbs * L < 2 ^ B) : Dq L B q := by
  refine ⟨q.num * ((L : Int) / (q.den : Int)), (up_val d).symm, ?_⟩
  rw [Int.natAbs_mul]
  refine Nat.lt_of_le_of_lt (Nat.mul_le_mul_left _ ?_) h
  rw [← Int.natCast_ediv, Int.natAbs_natCast]
  exact Nat.div_le_self _ _
theorem serS_at (us : List Rat) (k : Nat) : serS us (k + 1) = us.getD k 0 := rfl
theorem gm_tl {rs : List Rat} {d n : Nat} (d0 : 0 < d) (d9 : d ≤ 99) (h : ∀ r ∈ rs, TlQ d r) : Gm (60 * d) 50 (serS (1 :: rs)) n := by
  refine ⟨rfl, fun k hk => ?_⟩
  match k with
  | 0 => exact Dq.one (show 1 < 2 ^ 1 by decide)
  | k + 1 =>
    rw [serS_at]
    show Dq _ _ (rs.getD k 0)
    rw [List.getD_eq_getElem?_getD]
    cases x : rs[k]? with
    | none => exact Dq.zero
    | some q =>
      have t := h q (List.mem_of_getElem? x)
      refine dq_of (Nat.dvd_trans t.1 (Nat.dvd_trans (Nat.dvd_refl _) (by rw [Nat.pow_succ]; exact Nat.dvd_mul_left _ _))) ?_
      have h1 : (60 * d) ^ (k + 1) < (2 ^ 13) ^ (k + 1) := Nat.pow_lt_pow_left (by show _ < 8192; omega) (by omega)
      rw [← Nat.pow_mul] at h1
      have h2 := lt_mul (a := 30) (b := 13 * (k + 1)) (show (q.num).natAbs < 2 ^ 30 by have := t.2; show _ < 1073741824; omega) (show (((60 * d) ^ (k + 1) : Nat) : Int).natAbs < 2 ^ (13 * (k + 1)) by rw [Int.natAbs_natCast]; exact h1)
      rw [Int.natAbs_mul, Int.natAbs_natCast] at h2
      exact Nat.lt_of_lt_of_le h2 (Nat.pow_le_pow_right (by decide) (by omega))
theorem bn_q {t : Rat} (h : NumQ t) {i : Nat} (hi : i < 10) : Dq 151200 23 ((t - (i : Rat)) / ((i + 1 : Nat) : Rat)) := by
  have a : Dq 60 10 t := dq_of h.1 (by have := h.2; show _ < 1024; omega)
  have b : Dq 60 10 ((i : Nat) : Rat) := by
    refine Dq.int (i : Int) ?_
    rw [Int.natAbs_mul, Int.natAbs_natCast, Int.natAbs_natCast]
    show _ < 1024
    omega
  obtain ⟨z, e, l⟩ := a.sub b (show 10 < 11 by decide) (by decide)
  obtain ⟨c, hc⟩ : (i + 1) ∣ 2520 := by
    have : ∀ i, i < 10 → (i + 1) ∣ 2520 := by decide
    exact this i hi
  have n0 := nat_ne (show i + 1 ≠ 0 by omega)
  refine ⟨z * (c : Int), ?_, ?_⟩
  · rw [show (151200 : Nat) = 60 * ((i + 1) * c) by rw [← hc], Rat.natCast_mul, Rat.natCast_mul, Rat.intCast_mul, ← e]
    have e1 : (((c : Nat) : Int) : Rat) = (c : Rat) := rfl
    have e2 : (t - (i : Rat)) / ((i + 1 : Nat) : Rat) * ((i + 1 : Nat) : Rat) = t - (i : Rat) := Rat.div_mul_cancel n0
    rw [e1]
    grind
  · rw [Int.natAbs_mul, Int.natAbs_natCast]
    have c1 : c ≤ 2520 := Nat.le_of_dvd (by decide) ⟨i + 1, by rw [hc, Nat.mul_comm]⟩
    have h1 : z.natAbs * c ≤ z.natAbs * 2520 := Nat.mul_le_mul_left _ c1
    have : z.natAbs < 2048 := l
    show _ < 8388608
    omega
theorem bn_num {t : Rat} (h : NumQ t) : ∀ i, i ≤ 10 → Dq (151200 ^ i) (23 * i + 1) (bnR t i)
  | 0, _ => Dq.one (show 1 < 2 ^ 1 by decide)
  | i + 1, hi => ((bn_num h i (by omega)).mul (bn_q h (show i < 10 by omega))).mono (by omega)
theorem gm_pw {D m n : Nat} {f : Ser} {t : Rat} (h : Gm D m f n) (f1 : f 1 = 1) (n1 : 1 ≤ n) (n11 : n ≤ 11) (ht : NumQ t) : Gm (151200 * D) (m + 190) (pwF f t n) n := by
  refine ⟨pw_00 h.z t n, fun k hk => ?_⟩
  match k, hk with
  | 0, _ =>
    rw [pw_01 h.z f1 t n1]
    exact Dq.one (by rw [Nat.mul_zero, Nat.pow_zero]; decide)
  | k + 1, hk =>
    refine (dq_sum (f := fun i => bnR t i * dfK f i (k + 2)) (B := (m + 183) * (k + 1) + 2) (c := 4) n (fun i hi => ?_) (by omega)).mono (by rw [Nat.add_mul, Nat.add_mul]; omega)
    rcases Nat.lt_or_ge (k + 1) i with c | c
    · rw [df_low h.z f1 i (k + 2) (by omega), Rat.mul_zero]
      exact Dq.zero
    · have a := (bn_num ht i (by omega)).up (M := 151200 ^ (k + 1)) (C := 18 * (k + 1 - i)) (151200 ^ (k + 1 - i)) (by rw [← Nat.pow_add, show i + (k + 1 - i) = k + 1 by omega]) (by
        rw [Nat.pow_mul]
        exact Nat.pow_le_pow_left (by decide) _)
      have b := (h.df f1 (show n ≤ 15 by omega) i).g (k + 1) hk
      have ab := a.mul b
      rw [← Nat.mul_pow] at ab
      refine ab.mono ?_
      have h1 : (m + 16 * i) * (k + 1) ≤ (m + 160) * (k + 1) := Nat.mul_le_mul_right _ (by omega)
      have h2 : (m + 183) * (k + 1) = (m + 160) * (k + 1) + 23 * (k + 1) := by rw [← Nat.add_mul]
      omega
section
variable {P : Program} {w : World} {K : PySem.W.Frag} {mg : Str → Option Value} {base : Heap} {f o0 : Addr} {fd : FuncData}
end
end Kx
end
section
set_option maxHeartbeats 4000000
namespace Kx
open PySem PySem.Spec PyProof.Rows L2 RZ
section
variable (K : PySem.W.Frag) (C : Addr)
end
section
variable {P : Program} {w : World} {K : PySem.W.Frag} {mg : Str → Option Value} {base : Heap} {f C S CF CO CN CP CL CU o0 : Addr} {fd : FuncData}
def spPut (K : PySem.W.Frag) : Sp := fun vs H Q _ => ∃ (x y : V) (qs rs : List Rat) (L B M Z : Nat), vs = [x, y] ∧ Ls K H x qs ∧ Ls K H y rs ∧ qs.length = rs.length ∧ 1 ≤ rs.length ∧ rs.length ≤ 24 ∧ SmL L ∧ B ≤ 100000 ∧ SmL M ∧ Z ≤ 100000 ∧ AllD L B qs ∧ PowD M Z rs ∧ GivesL K H Q (cmpL qs rs)
def spOpS (K : PySem.W.Frag) (S CU : Addr) : Sp := fun vs H Q E => ∃ (x y : V) (qs rs : List Rat), vs = [x, y] ∧ StAt K S H x qs ∧ StAt K S H y rs ∧ (qs.length ≠ rs.length → Air H CU (fs2 "UnlikeOrders" "one" "other" [.int (qs.length : Int), .int (rs.length : Int)]) E) ∧
  (qs.length = rs.length → ∃ L B M Z : Nat, SmL L ∧ B ≤ 100000 ∧ SmL M ∧ Z ≤ 100000 ∧ AllD L B qs ∧ PowD M Z rs ∧ GivesF K S H Q (cmpL qs rs))
section
variable {P : Program} {w : World} {K : PySem.W.Frag} {mg : Str → Option Value} {base : Heap} {f C S CF CO CU o0 : Addr} {fd : FuncData}
theorem scPb : FnScope ["one", "other"] ["one", "other"] (defScope F_put_behind) := ⟨rfl, rfl, rfl, by decide +kernel, rfl, by decide +kernel, by decide +kernel⟩
theorem ok_put (F : Fun K "put_behind" "put_behind" F_put_behind f fd) (UM : Use P w K mg base CX0 3 "mixed" ["factors", "lists"] (spMix K) []) (UT : Use P w K mg base CX0 3 "table_lines" ["numbers"] (spTab K) []) : FnOk P w K mg base CX0 4 f fd ["one", "other"] (spPut K) := by
  refine F.ok scPb (fun vs H Q E h => ?_) (fun cdv A outer s H vs Q E hr h => ?_)
  · obtain ⟨x, y, qs, rs, L, B, M, Z, rfl, _⟩ := h
    rfl
  obtain ⟨x, y, qs, rs, L, B, M, Z, rfl, lx, ly, le, l1, l24, sL, lB, sM, lZ, bq, br, q⟩ := h
  refine ⟨_, pss_one (ps_ret (pe_use UM hr rfl pass0 (pa_cons (pv 0) (pa_cons (pe_use UT hr rfl pass0 (pa_cons (pv 1) pa_nil)) pa_nil)))), ?_⟩
  refine ⟨_, rfl, _, rfl, y, rs, M, Z, rfl, ly, l1, l24, sM, lZ, br, fun b H1 xs s1 nb hb mb => ?_⟩
  refine ⟨x, _, qs, tabL rs, rs.length, L, B, M, Z, rfl, lx.same s1, ⟨b, xs, rfl, hb, mb⟩, by rw [tabL_len]; exact l1, by rw [tabL_len]; omega, by omega, tabL_row, sL, lB, sM, lZ, bq, tabL_d br, fun d H2 ys s2 nd hd md => ?_⟩
  rw [mix_step le] at md
  exact q d H2 ys (s1.trans s2) (s1.free nd) hd md
theorem scSm : FnScope ["self", "other"] ["self", "other"] (defScope C_Step_mul) := ⟨rfl, rfl, rfl, by decide +kernel, rfl, by decide +kernel, by decide +kernel⟩
theorem ok_smul (G : Fun K "__mul__" "Step.__mul__" C_Step_mul f fd) (k : StepK P w K mg base C S CF CO) (UO : Use P w K mg base (L2.CX P w) 3 "check_orders" ["one", "other"] (spCor K CU) []) (UT : Use P w K mg base CX0 4 "put_behind" ["one", "other"] (spPut K) []) (UN : MUse P w K mg base CX0 1 S "numbers" ["self"] (spNuS K S) []) :
    FnOk P w K mg base (L2.CX P w) 8 f fd ["self", "other"] (spOpS K S CU) := by
  refine G.okX scSm (fun vs H Q E h => ?_) (fun cdv A outer s H vs Q E hr h => ?_)
  · obtain ⟨x, y, qs, rs, rfl, _⟩ := h
    rfl
  obtain ⟨v, u, qs, rs, rfl, hR, hS, h1, h2⟩ := h
  obtain ⟨x, dx, b, xs, fs, ev, hx, hb, nx, f1, f2, l2, l24⟩ := hR.num
  obtain ⟨y, dy, c, ys, gs, eu, hy, hc, ny, g1, g2, m2, m24⟩ := hS.num
  have g4 : gs.lookup ("numbers" : Str) = none := by
    obtain ⟨_, _, _, _, _, _, _, e, h, _⟩ := hS
    rw [eu] at e
    obtain rfl := V.ref.inj e
    rw [hy] at h
    cases h
    rfl
  obtain ⟨fI, fdI, M, FI, bI⟩ := k.ini
  refine ⟨_, pss_cons (ps_expr (pe_use (E := E) UO (hr.mono (by decide)) rfl (passes_call (takes_of rfl rfl rfl rfl) (fun _ _ _ _ h => h)) (pa_cons (pv 0) (pa_cons (pv 1) pa_nil))))
    (pss_one (ps_ret (pe_make (E := E) M FI hr rfl k.m bI .nil (passes_call (takes_of rfl rfl rfl rfl) (fun _ _ _ _ h => h)) (pa_cons (pe_use UT (hr.mono (by decide)) rfl pass0 (pa_cons (pe_fld (pv 0) rfl) (pa_cons (pe_mu0 UN (pv 1) (hr.mono (by decide)) pass0) pa_nil))) pa_nil)))), ?_⟩
  subst ev
  subst eu
  refine ⟨_, rfl, _, rfl, .ref x, .ref y, (qs.length : Int), (rs.length : Int), rfl, ⟨x, S, dx, fs, rfl, hx, k.c, k.nA _ (by simp [stN]), f2⟩, ⟨y, S, dy, gs, rfl, hy, k.c, k.nA _ (by simp [stN]), g2⟩, fun e => ?_, fun e => h1 (fun z => e (by rw [z]))⟩
  have le : qs.length = rs.length := by omega
  obtain ⟨L, B, M, Z, sL, lB, sM, lZ, bq, br, gv⟩ := h2 le
  refine ⟨_, rfl, x, S, dx, _, _, rfl, hx, k.c, k.nA _ (by simp [stN]), f1, _, rfl, y, dy, _, rfl, hy, g4, .ref y, rs, rfl, hS, fun d H1 zs s1 n1 e1 m1 => ?_⟩
  refine ⟨_, _, qs, rs, L, B, M, Z, rfl, ⟨b, xs, rfl, s1 _ _ hb, nx.same s1⟩, ⟨d, zs, rfl, e1, m1⟩, le, by omega, m24, sL, lB, sM, lZ, bq, br, fun d2 H2 ws s2 n2 e2 m2 => ?_⟩
  exact step_new (s1.trans s2) (.inl e2) m2 (by rw [cmpL_len]; exact l2) (by rw [cmpL_len]; exact l24) gv
end
end
end Kx
end
section
set_option maxHeartbeats 4000000
namespace Kx
open PySem PySem.Spec PyProof.Rows L2 RZ
theorem ser_L {n : Nat} {f : Ser} {us : List Rat} (h : us = toL n f) : EqTo n (ser us) f := by
  subst h
  exact ser_toL
theorem bhdL_eq {n : Nat} {us rs : List Rat} {u f : Ser} (l : us.length = n) (h : EqTo n (ser us) u) (h' : EqTo n (serS rs) f) : bhdL us rs = toL n (cmpS u f) := by
  unfold bhdL
  rw [l]
  exact toL_eq (h.cmp h')
theorem cmpL_eq {n : Nat} {qs rs : List Rat} {u f : Ser} (l : qs.length = n) (h : EqTo (n + 1) (serS qs) u) (h' : EqTo (n + 1) (serS rs) f) : cmpL qs rs = toT n (cmpS u f) := by
  unfold cmpL
  rw [l]
  exact toT_eq (h.cmp h')
theorem bhd_mul {us ws rs : List Rat} (l : us.length = ws.length) : bhdL (mulL us ws) rs = mulL (bhdL us rs) (bhdL ws rs) := by
  rw [bhdL_eq (n := us.length) (by rw [mulL_len]) (by rw [mulL_ser]; exact ser_toL) (fun _ _ => rfl), cmpS_mul (serS_zero rs)]
  unfold bhdL
  rw [← l, mulL_toL]
theorem ser_take (us : List Rat) (m : Nat) : EqTo m (ser (us.take m)) (ser us) := fun i hi => by
  show List.getD _ _ _ = List.getD _ _ _
  rw [List.getD_eq_getElem?_getD, List.getD_eq_getElem?_getD, List.getElem?_take, if_pos hi]
theorem serS_take (qs : List Rat) (m : Nat) : EqTo (m + 1) (serS (qs.take m)) (serS qs) := ser_take (0 :: qs) (m + 1)
theorem bhd_take {us rs : List Rat} {m : Nat} (h : m + 1 ≤ us.length) : bhdL (us.take (m + 1)) (rs.take m) = (bhdL us rs).take (m + 1) := by
  rw [bhdL_eq (n := m + 1) (by rw [List.length_take]; omega) (ser_take us (m + 1)) (serS_take rs m)]
  unfold bhdL
  rw [toL_take _ h]
theorem cmp_take {qs rs : List Rat} {m : Nat} (h : m ≤ qs.length) : cmpL (qs.take m) (rs.take m) = (cmpL qs rs).take m := by
  rw [cmpL_eq (n := m) (by rw [List.length_take]; omega) (serS_take qs m) (serS_take rs m)]
  unfold cmpL
  rw [toT_take _ h]
theorem bhd_still (us : List Rat) (n : Nat) : bhdL us (1 :: List.replicate n 0) = us := by
  unfold bhdL
  rw [serS_still, cmpS_xr, toL_ser]
theorem cmp_still (qs : List Rat) (n : Nat) : cmpL qs (1 :: List.replicate n 0) = qs := by
  unfold cmpL
  rw [serS_still, cmpS_xr, toT_serS]
theorem still_cmp (qs : List Rat) (n : Nat) (h : n + 1 = qs.length) : cmpL (1 :: List.replicate n 0) qs = qs := by
  unfold cmpL
  rw [serS_still, List.length_cons, List.length_replicate, h]
  refine Eq.trans ?_ (toT_serS qs)
  exact List.map_congr_left fun i _ => cmpS_xl (serS qs) (i + 1) (Nat.succ_pos i)
theorem cmpS0 {u f : Ser} (h : u 0 = 0) : cmpS u f 0 = 0 := by rw [cmpS_zero, h]
theorem serS_cmp (qs rs : List Rat) : EqTo (qs.length + 1) (serS (cmpL qs rs)) (cmpS (serS qs) (serS rs)) := by
  unfold cmpL
  exact serS_toT (cmpS0 (serS_zero qs))
theorem cmp_assoc {qs rs ts : List Rat} (l : qs.length = rs.length) : cmpL (cmpL qs rs) ts = cmpL qs (cmpL rs ts) := by
  rw [cmpL_eq (n := qs.length) (cmpL_len qs rs) (serS_cmp qs rs) (fun _ _ => rfl), cmpS_assoc (serS_zero rs) (serS_zero ts), cmpL_eq (n := qs.length) rfl (fun _ _ => rfl) (by rw [l]; exact serS_cmp rs ts)]
theorem bhd_assoc {us qs rs : List Rat} (l : us.length = qs.length + 1) : bhdL (bhdL us qs) rs = bhdL us (cmpL qs rs) := by
  rw [bhdL_eq (n := us.length) (bhdL_len us qs) (by unfold bhdL; exact ser_toL) (fun _ _ => rfl), cmpS_assoc (serS_zero qs) (serS_zero rs), bhdL_eq (n := us.length) rfl (fun _ _ => rfl) (by rw [l]; exact serS_cmp qs rs)]
/-! ### lines solved, one place after another -/
def colL (rows : List (List Rat)) (k : Nat) : List Rat := rows.map fun r => r.getD k 0
def tt (rows : List (List Rat)) (i k : Nat) : Rat := (rows.getD i []).getD k 0
theorem colL_len (rows : List (List Rat)) (k : Nat) : (colL rows k).length = rows.length := by unfold colL; rw [List.length_map]
theorem col_at (rows : List (List Rat)) (k i : Nat) : ser (colL rows k) i = tt rows i k := by
  show List.getD _ _ _ = _
  unfold colL tt
  rw [List.getD_eq_getElem?_getD, List.getElem?_map, List.getD_eq_getElem?_getD (l := rows)]
  cases h : rows[i]? with
  | none => rfl
  | some r => rfl
def slvL (rows : List (List Rat)) (ws : List Rat) : Nat → List Rat
  | 0 => []
  | k + 1 => slvL rows ws k ++ [(ws.getD k 0 - dotL (slvL rows ws k) (colL rows k)) / tt rows k k]
theorem slvL_len (rows : List (List Rat)) (ws : List Rat) : ∀ k, (slvL rows ws k).length = k
  | 0 => rfl
  | k + 1 => by
    show (slvL rows ws k ++ [_]).length = _
    rw [List.length_append, slvL_len rows ws k]
    rfl
theorem slvL_pre (rows : List (List Rat)) (ws : List Rat) (k : Nat) : ∀ n, k ≤ n → ∀ i, i < k → ser (slvL rows ws n) i = ser (slvL rows ws k) i := by
  intro n h
  induction h with
  | refl => exact fun _ _ => rfl
  | step h ih =>
    rename_i m
    intro i hi
    rw [← ih i hi]
    have l := slvL_len rows ws m
    have h' : k ≤ m := h
    show List.getD (slvL rows ws m ++ [_]) i 0 = List.getD (slvL rows ws m) i 0
    rw [List.getD_eq_getElem?_getD, List.getElem?_append_left (by omega), ← List.getD_eq_getElem?_getD]
theorem slvL_last (rows : List (List Rat)) (ws : List Rat) (k : Nat) : ser (slvL rows ws (k + 1)) k = (ws.getD k 0 - dotL (slvL rows ws k) (colL rows k)) / tt rows k k := by
  show List.getD (slvL rows ws k ++ [_]) k 0 = _
  have l := slvL_len rows ws k
  rw [List.getD_eq_getElem?_getD, List.getElem?_append_right (by omega), l, Nat.sub_self]
  rfl
theorem dot_pre {rows : List (List Rat)} {ws : List Rat} {n k : Nat} (l : rows.length = n) (hk : k ≤ n) (c : Nat) : dotL (slvL rows ws k) (colL rows c) = sumN (fun i => ser (slvL rows ws n) i * tt rows i c) k := by
  unfold dotL
  rw [slvL_len, colL_len, l, Nat.min_eq_left hk, dotT_sum]
  exact sum_congr fun i hi => by rw [slvL_pre rows ws k n hk i hi, col_at]
/-- the factors mix the lines to what is wanted -/
theorem slv_mix {rows : List (List Rat)} {ws : List Rat} {n : Nat} (l : rows.length = n) (lw : ws.length = n) (low : ∀ i k, k < i → i < n → tt rows i k = 0) (dg : ∀ k, k < n → tt rows k k ≠ 0) : mixL n (slvL rows ws n) rows = ws := by
  apply List.ext_getElem?
  intro k
  rcases Nat.lt_or_ge k n with c | c
  · unfold mixL
    rw [List.getElem?_map, List.getElem?_range c]
    show some (dotL (slvL rows ws n) (colL rows k)) = _
    rw [dot_pre l (Nat.le_refl n)]
    have e1 : sumN (fun i => ser (slvL rows ws n) i * tt rows i k) n = sumN (fun i => ser (slvL rows ws n) i * tt rows i k) (k + 1) := by
      have : ∀ m, k + 1 ≤ m → m ≤ n → sumN (fun i => ser (slvL rows ws n) i * tt rows i k) m = sumN (fun i => ser (slvL rows ws n) i * tt rows i k) (k + 1) := by
        intro m h
        induction h with
        | refl => exact fun _ => rfl
        | step h ih =>
          rename_i m
          intro hm
          show sumN _ m + ser (slvL rows ws n) m * tt rows m k = _
          have h' : k + 1 ≤ m := h
          rw [ih (by omega), low m k (by omega) (by omega), Rat.mul_zero, Rat.add_zero]
      exact this n (by omega) (Nat.le_refl _)
    rw [e1]
    show some (sumN _ k + ser (slvL rows ws n) k * tt rows k k) = _
    rw [← dot_pre l (by omega) k, slvL_pre rows ws (k + 1) n (by omega) k (by omega), slvL_last, Rat.div_mul_cancel (dg k c)]
    have ew := List.getElem?_eq_getElem (l := ws) (i := k) (by omega)
    rw [List.getD_eq_getElem?_getD, ew]
    show some (_ + (ws[k] - _)) = some ws[k]
    congr 1
    grind
  · rw [List.getElem?_eq_none (by rw [mixL_len]; exact c), List.getElem?_eq_none (by omega)]
/-! ### steps turned back -/
def invL (rs : List Rat) : List Rat := slvL (tabL rs) (stL rs.length) rs.length
theorem invL_len (rs : List Rat) : (invL rs).length = rs.length := slvL_len _ _ _
theorem tt_tab {rs : List Rat} {i k : Nat} (hi : i < rs.length) (hk : k < rs.length) : tt (tabL rs) i k = powS (serS rs) (i + 1) (k + 1) := by
  have e : (tabL rs).getD i [] = (powL (0 :: rs) i).drop 1 := by
    unfold tabL
    rw [List.getD_eq_getElem?_getD, List.getElem?_map, List.getElem?_range hi]
    rfl
  unfold tt
  rw [e]
  exact pow_at hk
theorem rat_ne {a b : Rat} (ha : a ≠ 0) (hb : b ≠ 0) : a * b ≠ 0 := fun h => by
  have h2 : a * b / b = 0 := by rw [h, Rat.div_def, Rat.zero_mul]
  rw [Rat.mul_div_cancel hb] at h2
  exact ha h2
/-- the lead's powers stand on the diagonal -/
theorem pow_dg {f : Ser} (f0 : f 0 = 0) : ∀ k, powS f (k + 1) (k + 1) = powS f k k * f 1 := fun k => by
  show sumN (fun i => powS f k i * f (k + 1 - i)) (k + 1 + 1) = _
  show sumN (fun i => powS f k i * f (k + 1 - i)) (k + 1) + powS f k (k + 1) * f (k + 1 - (k + 1)) = _
  rw [Nat.sub_self, f0, Rat.mul_zero, Rat.add_zero]
  show sumN (fun i => powS f k i * f (k + 1 - i)) k + powS f k k * f (k + 1 - k) = _
  rw [sum_zero fun i hi => by rw [powS_low f0 k i hi, Rat.zero_mul], Rat.zero_add, show k + 1 - k = 1 by omega]
theorem pow_dg_ne {f : Ser} (f0 : f 0 = 0) (h : f 1 ≠ 0) : ∀ k, powS f k k ≠ 0
  | 0 => by
    show (if (0 : Nat) = 0 then (1 : Rat) else 0) ≠ 0
    rw [if_pos rfl]
    decide
  | k + 1 => by
    rw [pow_dg f0]
    exact rat_ne (pow_dg_ne f0 h k) h
def Trn (rs : List Rat) : Prop := serS rs 1 ≠ 0
theorem inv_cmp {rs : List Rat} (l1 : 1 ≤ rs.length) (h : Trn rs) : cmpL (invL rs) rs = stL rs.length := by
  rw [← mix_step (invL_len rs)]
  refine slv_mix (tabL_len rs) (stL_len l1) (fun i k hk hi => ?_) (fun k hk => ?_)
  · rw [tt_tab hi (by omega)]
    exact powS_low (serS_zero rs) _ _ (by omega)
  · rw [tt_tab hk hk]
    exact pow_dg_ne (serS_zero rs) h _
theorem stL_eq {n : Nat} (h : 1 ≤ n) : serS (stL n) = xS := serS_still (n - 1)
theorem cmp_st (qs : List Rat) (n : Nat) : cmpL qs (stL n) = qs := cmp_still qs (n - 1)
theorem st_cmp (qs : List Rat) (h : 1 ≤ qs.length) : cmpL (stL qs.length) qs = qs := still_cmp qs (qs.length - 1) (by omega)
theorem cmp_lead {qs rs : List Rat} (l : qs.length = rs.length) (l1 : 1 ≤ qs.length) : serS (cmpL qs rs) 1 = serS qs 1 * serS rs 1 := by
  rw [serS_cmp qs rs 1 (by omega)]
  show sumN (fun j => serS qs j * powS (serS rs) j 1) 2 = _
  show (0 : Rat) + serS qs 0 * powS (serS rs) 0 1 + serS qs 1 * powS (serS rs) 1 1 = _
  rw [powS_one, show serS qs 0 = 0 from rfl, Rat.zero_mul, Rat.add_zero, Rat.zero_add]
theorem inv_trn {rs : List Rat} (l1 : 1 ≤ rs.length) (h : Trn rs) : serS (invL rs) 1 * serS rs 1 = 1 := by
  rw [← cmp_lead (invL_len rs) (by rw [invL_len]; exact l1), inv_cmp l1 h]
  rfl
theorem inv_turn {rs : List Rat} (l1 : 1 ≤ rs.length) (h : Trn rs) : Trn (invL rs) := fun z => by
  have := inv_trn l1 h
  rw [z, Rat.zero_mul] at this
  exact absurd this (by decide)
/-- turned back twice -/
theorem inv_inv {rs : List Rat} (l1 : 1 ≤ rs.length) (h : Trn rs) : invL (invL rs) = rs := by
  have e1 := inv_cmp l1 h
  have e2 := inv_cmp (rs := invL rs) (by rw [invL_len]; exact l1) (inv_turn l1 h)
  have l : (invL (invL rs)).length = rs.length := by rw [invL_len, invL_len]
  have := cmp_assoc (qs := invL (invL rs)) (rs := invL rs) (ts := rs) (by rw [l, invL_len])
  rw [e2, e1, cmp_st, invL_len, st_cmp rs l1] at this
  exact this.symm
theorem cmp_inv {rs : List Rat} (l1 : 1 ≤ rs.length) (h : Trn rs) : cmpL rs (invL rs) = stL rs.length := by
  have e2 := inv_cmp (rs := invL rs) (by rw [invL_len]; exact l1) (inv_turn l1 h)
  rw [inv_inv l1 h, invL_len] at e2
  exact e2
/-- there is one alone -/
theorem inv_uni {xs rs : List Rat} (l : xs.length = rs.length) (l1 : 1 ≤ rs.length) (h : Trn rs) (e : cmpL xs rs = stL rs.length) : xs = invL rs := by
  have a := cmp_assoc (qs := xs) (rs := rs) (ts := invL rs) l
  rw [e, cmp_inv l1 h, cmp_st] at a
  have z := st_cmp (invL rs) (by rw [invL_len]; exact l1)
  rw [invL_len] at z
  rw [z] at a
  exact a.symm
theorem cmp_trn {qs rs : List Rat} (l : qs.length = rs.length) (l1 : 1 ≤ qs.length) (h : Trn qs) (h' : Trn rs) : Trn (cmpL qs rs) := by
  show serS (cmpL qs rs) 1 ≠ 0
  rw [cmp_lead l l1]
  exact rat_ne h h'
theorem inv_mul {qs rs : List Rat} (l : qs.length = rs.length) (l1 : 1 ≤ qs.length) (h : Trn qs) (h' : Trn rs) : invL (cmpL qs rs) = cmpL (invL rs) (invL qs) := by
  symm
  refine inv_uni (by rw [cmpL_len, cmpL_len, invL_len]; exact l.symm) (by rw [cmpL_len]; exact l1) (cmp_trn l l1 h h') ?_
  rw [cmp_assoc (by rw [invL_len, invL_len]; exact l.symm), ← cmp_assoc (qs := invL qs) (rs := qs) (ts := rs) (invL_len qs), inv_cmp l1 h, l, st_cmp rs (by omega), inv_cmp (by omega) h', cmpL_len, l]
theorem stL_take {n m : Nat} (h1 : 1 ≤ m) (h : m ≤ n) : (stL n).take m = stL m := by
  unfold stL
  obtain ⟨m', rfl⟩ : ∃ m', m = m' + 1 := ⟨m - 1, by omega⟩
  rw [List.take_succ_cons, List.take_replicate]
  congr 2
  omega
theorem inv_take {rs : List Rat} {m : Nat} (m1 : 1 ≤ m) (hm : m ≤ rs.length) (h : Trn rs) : invL (rs.take m) = (invL rs).take m := by
  have lt : (rs.take m).length = m := by rw [List.length_take]; omega
  have ht : Trn (rs.take m) := by
    show serS _ 1 ≠ 0
    rw [serS_take rs m 1 (by omega)]
    exact h
  symm
  refine inv_uni (by rw [List.length_take, invL_len, List.length_take]) (by omega) ht ?_
  rw [cmp_take (by rw [invL_len]; exact hm), inv_cmp (by omega) h, lt, stL_take m1 hm]
/-- done so many times -/
def itL (qs : List Rat) : Nat → List Rat
  | 0 => stL qs.length
  | k + 1 => cmpL qs (itL qs k)
theorem itL_len {qs : List Rat} (h : 1 ≤ qs.length) : ∀ k, (itL qs k).length = qs.length
  | 0 => stL_len h
  | k + 1 => cmpL_len _ _
theorem itL_one {qs : List Rat} : itL qs 1 = qs := cmp_st qs _
theorem itL_add {qs : List Rat} (h : 1 ≤ qs.length) (a : Nat) : ∀ b, itL qs (b + a) = cmpL (itL qs b) (itL qs a)
  | 0 => by
    rw [Nat.zero_add]
    show _ = cmpL (stL qs.length) (itL qs a)
    have := st_cmp (itL qs a) (by rw [itL_len h]; exact h)
    rw [itL_len h] at this
    exact this.symm
  | b + 1 => by
    rw [Nat.add_right_comm b 1 a]
    show cmpL qs (itL qs (b + a)) = cmpL (cmpL qs (itL qs b)) (itL qs a)
    rw [itL_add h a b, cmp_assoc (by rw [itL_len h])]
theorem itL_snoc {qs : List Rat} (h : 1 ≤ qs.length) (k : Nat) : itL qs (k + 1) = cmpL (itL qs k) qs := by
  have := itL_add h 1 k
  rw [itL_one] at this
  exact this
theorem it_inv {qs : List Rat} (l1 : 1 ≤ qs.length) (h : Trn qs) : ∀ k, cmpL (itL qs k) (itL (invL qs) k) = stL qs.length
  | 0 => by
    show cmpL (stL qs.length) (stL (invL qs).length) = _
    rw [cmp_st]
  | k + 1 => by
    have li : 1 ≤ (invL qs).length := by rw [invL_len]; exact l1
    rw [itL_snoc l1 k]
    show cmpL (cmpL (itL qs k) qs) (cmpL (invL qs) (itL (invL qs) k)) = _
    rw [cmp_assoc (itL_len l1 k), ← cmp_assoc (qs := qs) (rs := invL qs) (by rw [invL_len]), cmp_inv l1 h]
    have z := st_cmp (itL (invL qs) k) (by rw [itL_len li]; exact li)
    rw [itL_len li, invL_len] at z
    rw [z]
    exact it_inv l1 h k
end Kx
end
section
set_option maxHeartbeats 4000000
namespace Kx
open PySem PySem.Spec PyProof.Rows L2 RZ
/-! ### lines solved -/
theorem div_1 (x : Rat) : x / 1 = x := by grind
theorem SmL.left {L M : Nat} (h : SmL (L * M)) : SmL L := ⟨Nat.pos_of_mul_pos_right h.1, Nat.lt_of_le_of_lt (Nat.le_mul_of_pos_right _ (Nat.pos_of_mul_pos_left h.1)) h.2⟩
theorem SmL.right {L M : Nat} (h : SmL (L * M)) : SmL M := SmL.left (by rw [Nat.mul_comm]; exact h)
theorem still_o (n : Nat) : AllO (stL n) := fun q hq => by
  rcases List.mem_cons.mp hq with rfl | hq
  · exact Ok.one
  · obtain rfl := List.eq_of_mem_replicate hq
    exact Ok.zero
theorem pow_dg_one {f : Ser} (f0 : f 0 = 0) (h : f 1 = 1) : ∀ k, powS f k k = 1
  | 0 => rfl
  | k + 1 => by rw [pow_dg f0, pow_dg_one f0 h k, h, Rat.mul_one]
theorem trn_one {rs : List Rat} (h : serS rs 1 = 1) : Trn rs := fun z => by
  rw [h] at z
  exact absurd z (by decide)
def spSolv (K : PySem.W.Frag) : Sp := fun vs H Q _ => ∃ (x y : V) (rows : List (List Rat)) (ws : List Rat) (L B M Z : Nat), vs = [x, y] ∧ Lss K H x rows ∧ Ls K H y ws ∧ rows.length = ws.length ∧ 1 ≤ ws.length ∧ ws.length ≤ 24 ∧ (∀ r ∈ rows, r.length = ws.length) ∧ SmL (L * M) ∧ B + Z + 32 ≤ 100000 ∧
  AllD L B (slvL rows ws ws.length) ∧ (∀ r ∈ rows, AllD M Z r) ∧ AllO ws ∧ (∀ k, k < ws.length → tt rows k k ≠ 0 ∧ (tt rows k k).num.natAbs < 2 ^ 4450) ∧ GivesL K H Q (slvL rows ws ws.length)
abbrev nSv : List Str := ["lines", "wanted", "found", "at", "number", "have", "line"]
theorem slv_d {rows : List (List Rat)} {ws : List Rat} {L B n : Nat} (h : AllD L B (slvL rows ws n)) {k : Nat} (hk : k ≤ n) : AllD L B (slvL rows ws k) := fun q hq => by
  obtain ⟨i, hi⟩ := List.getElem?_of_mem hq
  have l := slvL_len rows ws k
  have hl : i < k := by
    rcases Nat.lt_or_ge i k with c | c
    · exact c
    · rw [List.getElem?_eq_none (by omega)] at hi; cases hi
  have e1 := slvL_pre rows ws k n hk i hl
  have e2 : ser (slvL rows ws k) i = q := by
    show List.getD _ _ _ = q
    rw [List.getD_eq_getElem?_getD, hi]
    rfl
  rw [← e2, ← e1]
  exact h.getD i
section
variable {P : Program} {w : World} {K : PySem.W.Frag} {mg : Str → Option Value} {base : Heap} {f C S CF CO CU o0 : Addr} {fd : FuncData}
theorem scSv : FnScope nSv ["lines", "wanted"] (defScope F_solved) := ⟨rfl, rfl, rfl, by decide +kernel, rfl, by decide +kernel, by decide +kernel⟩
theorem ok_solved (F : Fun K "solved" "solved" F_solved f fd) (me : mg "enumerate" = none) (UD : Use P w K mg base CX0 2 "dot" ["ones", "others"] (spDot K) []) (UF : Use P w K mg base CX0 2 "difference_of" ["one", "other"] (spTwoQ K (· - ·)) []) (UQ : Use P w K mg base CX0 2 "quotient_of" ["one", "other"] (spDivQ K) []) : FnOk P w K mg base CX0 3 f fd ["lines", "wanted"] (spSolv K) := by
  refine F.ok scSv (fun vs H Q E h => ?_) (fun cdv A outer s H vs Q E hr h => ?_)
  · obtain ⟨x, y, rows, ws, L, B, M, Z, rfl, _⟩ := h
    rfl
  obtain ⟨x, y, rows, ws, L, B, M, Z, rfl, ⟨la, ls, rfl, hl, ml⟩, ⟨wa, wv, rfl, hw, mw⟩, lr, l1, l24, sq, sL, bl, ze, zg, zw, dg, q⟩ := h
  refine ⟨_, pss_cons (ps_set (i := 2) scSv.nd rfl (Or.inl rfl) (pe_lst pa_nil))
    (pss_cons (ps_for PassesOwn.never rfl (pi_enumA rfl me (pa_cons (pv 1) pa_nil)) (pg_tup rfl (pgs_cons (pg_name (i := 3) scSv.nd rfl (Or.inr rfl)) (pgs_cons (pg_name (i := 4) scSv.nd rfl (Or.inl rfl)) pgs_nil)))
      (C8.pss_cut (ps_set (i := 5) scSv.nd rfl (Or.inl rfl) (pe_use UD hr rfl pass0 (pa_cons (pv 2) (pa_cons (pe_lc (own := [("line", 6)]) (g := gName 6) (tt := tYes) rfl scSv.nd (pi_list (pv 0)) (blkOk_by (N := nSv) (sc := defScope F_solved) (by decide +kernel)) (fun _ _ _ _ _ => pg_name (i := 6) scSv.nd rfl (Or.inl rfl)) (fun _ _ _ _ _ => pts_nil) (fun _ _ _ _ _ => pe_ix (ixl_at K rfl) (pv 6) (pv 3) (fun _ _ => rfl))) pa_nil))))
      (pss_one (ps_expr (pe_bm PySem.F.plainAttrs_list PySem.F.slot_list_append PySem.F.type_list_append mt_append (pv 2) (pa_cons (pe_use UQ hr rfl pass0 (pa_cons (pe_use UF hr rfl pass0 (pa_cons (pv 4) (pa_cons (pv 5) pa_nil))) (pa_cons (pe_ix ix_list (pe_ix ix_list (pv 0) (pv 3) (fun _ _ => rfl)) (pv 3) (fun _ _ => rfl)) pa_nil))) pa_nil))))))
    (pss_one (ps_ret (pv 2)))), ?_⟩
  have ll := ml.1
  have lw := mw.1
  refine ⟨(by show 0 ≤ sizeLine; decide), fun fb nf => ?_⟩
  have s1 := new_same nf (HO.lst [])
  refine ⟨_, rfl, wa, wv, rfl, .inl ⟨SqL.of (s1 _ _ hw), ?_⟩⟩
  refine for_it (walk_enum (K := K) (a := wa) (xs := wv)) (fun i σ H' => Same H H' ∧ (∃ v3 v4 v5 v6, σ = [some (.ref la), some (.ref wa), some (.ref fb), v3, v4, v5, v6]) ∧ ∃ zs, H' fb = some (.lst zs) ∧ Nl K H' zs (slvL rows ws i)) ⟨s1, ⟨none, none, none, none, rfl⟩, [], upd_same, Nl.nil⟩ (fun i σ H' _ h => SqL.of (h.1 _ _ hw)) ?_ ?_
  · rintro k x σ H2 H3 hk ⟨s2, ⟨v3, v4, v5, v6, rfl⟩, zs, hz, mz⟩ ⟨T, y, z, rfl, hT, rfl, hy, hzz⟩
    obtain rfl : y = .int ((k : Nat) : Int) := (Option.some.inj hy).symm
    have hk' : k < ws.length := by omega
    have s3 := s2.trans (new_same hT (.tup [.int (k : Nat), z]))
    have hz3 := new_same hT (.tup [.int (k : Nat), z]) _ _ hz
    have mz3 := mz.same (new_same hT (.tup [.int (k : Nat), z]))
    obtain ⟨wq, ewq, nwq⟩ := mw.get hzz
    have lz : zs.length = k := by rw [mz.1, slvL_len]
    refine ⟨T, [_, _], rfl, SqT.of upd_same, rfl, _, [_], rfl, _, [], rfl, rfl, ?_⟩
    generalize upd H2 T (.tup [.int (k : Nat), z]) = H3 at s3 hz3 mz3
    have nwq3 := nwq.same s3
    refine ⟨fun σ G => Same H3 G ∧ ∃ hv v6, σ = [some (.ref la), some (.ref wa), some (.ref fb), some (.int (k : Nat)), some z, some hv, v6] ∧ Nq K G hv (dotL (slvL rows ws k) (colL rows k)), ?_, ?_⟩
    · refine ⟨_, rfl, _, rfl, la, rfl, ⟨_, SqL.of (s3 _ _ hl)⟩, fun D nD => ?_⟩
      refine lc_nums (K := K) (walk_list (K := K) (a := la) (xs := ls)) (colL rows k) (by rw [colL_len]; omega) nD (by omega) (fun H' s => SqL.of (s _ _ (s3 _ _ hl))) ?_ (fun H5 cs s5 hD md => ?_)
      · rintro i qi x H4 H5 kk hq s4 ⟨rfl, hx2⟩ hkk
        obtain ⟨r, er, ra, rxs, rfl, hra, nra⟩ := ml.get hx2
        have lr' := sq r (List.mem_of_getElem? er)
        obtain ⟨v, ev, nv⟩ := nra.get' (i := k) (by omega)
        have eq' : r[k]'(by omega) = qi := by
          unfold colL at hq
          rw [List.getElem?_map, er] at hq
          have := Option.some.inj hq
          rw [← this]
          show _ = r.getD k 0
          rw [List.getD_eq_getElem?_getD, List.getElem?_eq_getElem (by omega)]
          rfl
        rw [eq'] at nv
        exact ⟨rfl, _, rfl, _, rfl, ra, rxs, (k : Nat), v, rfl, rfl, SqL.of ((s3.trans s4) _ _ hra), at_of (j := k) rfl ev, hkk v _ (Same.refl _) (nv.same (s3.trans s4))⟩
      · have zc : AllD M Z (colL rows k) := fun p hp => by
          obtain ⟨r, hr', rfl⟩ := List.mem_map.mp hp
          exact (zg r hr').getD k
        refine ⟨.ref fb, .ref D, slvL rows ws k, colL rows k, L, B, M, Z, rfl, ⟨fb, zs, rfl, s5 _ _ hz3, mz3.same s5⟩, ⟨D, cs, rfl, hD, md⟩, by rw [slvL_len, colL_len]; omega, sL.left, by omega, sL.right, by omega, slv_d ze (by omega), zc, fun d H6 s6 n6 e6 => ⟨s5.trans s6, .ref d, _, rfl, .at e6⟩⟩
    · rintro σ G ⟨s4, hv, v6', rfl, nh⟩
      have sG := s3.trans s4
      have hzG := s4 _ _ hz3
      have zc : AllD M Z (colL rows k) := fun p hp => by
        obtain ⟨r, hr', rfl⟩ := List.mem_map.mp hp
        exact (zg r hr').getD k
      have zh : Ok (dotL (slvL rows ws k) (colL rows k)) := (dotL_d (slv_d ze (by omega)) zc (by rw [slvL_len, colL_len]; omega)).ok sL bl
      have ewq' : ws.getD k 0 = wq := by rw [List.getD_eq_getElem?_getD, ewq]; rfl
      have ed : wq - dotL (slvL rows ws k) (colL rows k) = ser (slvL rows ws ws.length) k * tt rows k k := by
        rw [slvL_pre rows ws (k + 1) ws.length (by omega) k (by omega), slvL_last, ewq', Rat.div_mul_cancel (dg k hk').1]
      have zt : Dq M Z (tt rows k k) := by
        have er := List.getElem?_eq_getElem (l := rows) (i := k) (by omega)
        have := (zg _ (List.getElem_mem (l := rows) (n := k) (by omega))).getD k
        unfold tt
        rw [List.getD_eq_getElem?_getD (l := rows), er]
        exact this
      have zd : Ok (wq - dotL (slvL rows ws k) (colL rows k)) := by
        rw [ed]
        exact ((ze.getD k).mul zt).ok sL (by omega)
      obtain ⟨lv, elv, llv⟩ := ml.get' (i := k) (by omega)
      have er := List.getElem?_eq_getElem (l := rows) (i := k) (by omega)
      have lrk := sq _ (List.getElem_mem (l := rows) (n := k) (by omega))
      obtain ⟨ra, rxs, rfl, hra, nra⟩ := llv
      obtain ⟨v, ev, nv⟩ := nra.get' (i := k) (by omega)
      have et : (rows[k]'(by omega))[k]'(by omega) = tt rows k k := by
        unfold tt
        rw [List.getD_eq_getElem?_getD (l := rows), er]
        show _ = (rows[k]'(by omega)).getD k 0
        rw [List.getD_eq_getElem?_getD, List.getElem?_eq_getElem (by omega)]
        rfl
      rw [et] at nv
      refine ⟨_, rfl, .inl ⟨rfl, _, SqL.of hzG⟩, _, rfl, _, rfl, z, hv, wq, dotL (slvL rows ws k) (colL rows k), rfl, nwq3.same s4, nh, ?_, zh, fun d H6 s6 n6 e6 => ?_⟩
      · exact zw wq (List.mem_of_getElem? ewq)
      have sG6 := sG.trans s6
      refine ⟨_, rfl, _, rfl, la, ls, (k : Nat), _, rfl, rfl, SqL.of (sG6 _ _ hl), at_of (j := k) rfl elv, _, rfl, ra, rxs, (k : Nat), v, rfl, rfl, SqL.of (sG6 _ _ hra), at_of (j := k) rfl ev, ?_⟩
      refine ⟨.ref d, v, _, tt rows k k, rfl, .at e6, nv.same sG6, zd, zt.ok sL.right (by omega), (dg k hk').1, (dg k hk').2, fun d2 H7 s7 n7 e7 => ?_⟩
      have s67 := s6.trans s7
      refine ⟨fb, zs, _, rfl, rfl, s67 _ _ hzG, small1000 (by omega), fun b o hb => ?_, ⟨_, _, _, _, rfl⟩, zs ++ [.ref d2], upd_same, ?_⟩
      · rw [upd_ne (fun y => by rw [y, nf] at hb; cases hb)]
        exact (sG.trans s67) b o hb
      · have nb : Nl K H7 (zs ++ [V.ref d2]) (slvL rows ws (k + 1)) := by
          show Nl K H7 _ (slvL rows ws k ++ [(ws.getD k 0 - dotL (slvL rows ws k) (colL rows k)) / tt rows k k])
          rw [ewq']
          exact (mz3.same (s4.trans s67)).snoc (.at e7)
        exact ⟨nb.1, fun j x r h1 h2 => (nb.2 j x r h1 h2).butL (s67 _ _ hzG) (fun b o n h => by rw [upd_ne n]; exact h)⟩
  · rintro σ H2 ⟨s2, ⟨v3, v4, v5, v6, rfl⟩, zs, hz, mz⟩
    rw [lw] at mz
    exact ⟨_, rfl, q fb H2 zs s2 nf hz mz⟩
end
/-! ### turned back -/
def spTrn (K : PySem.W.Frag) : Sp := fun vs H Q _ => ∃ (x : V) (rs : List Rat) (L B M Z : Nat), vs = [x] ∧ Ls K H x rs ∧ 2 ≤ rs.length ∧ rs.length ≤ 24 ∧ Trn rs ∧ (∀ k, k < rs.length → (powS (serS rs) (k + 1) (k + 1)).num.natAbs < 2 ^ 4450) ∧ SmL (L * M) ∧ B + Z + 32 ≤ 100000 ∧ AllD L B (invL rs) ∧ PowD M Z rs ∧ GivesL K H Q (invL rs)
section
variable {P : Program} {w : World} {K : PySem.W.Frag} {mg : Str → Option Value} {base : Heap} {f C S CF CO CU o0 : Addr} {fd : FuncData}
theorem scTrb : FnScope ["numbers"] ["numbers"] (defScope F_turned_back) := ⟨rfl, rfl, rfl, by decide +kernel, rfl, by decide +kernel, by decide +kernel⟩
theorem ok_turned (F : Fun K "turned_back" "turned_back" F_turned_back f fd) (mn : mg "len" = none) (US : Use P w K mg base CX0 3 "solved" ["lines", "wanted"] (spSolv K) []) (UT : Use P w K mg base CX0 3 "table_lines" ["numbers"] (spTab K) []) (UN : Use P w K mg base CX0 1 "still_numbers" ["order"] (spSn K) []) : FnOk P w K mg base CX0 4 f fd ["numbers"] (spTrn K) := by
  refine F.ok scTrb (fun vs H Q E h => ?_) (fun cdv A outer s H vs Q E hr h => ?_)
  · obtain ⟨x, rs, L, B, M, Z, rfl, _⟩ := h
    rfl
  obtain ⟨x, rs, L, B, M, Z, rfl, hx, l2, l24, ht, dgb, sL, bl, ze, zp, q⟩ := h
  refine ⟨_, pss_one (ps_ret (pe_use US hr rfl pass0 (pa_cons (pe_use UT hr rfl pass0 (pa_cons (pv 0) pa_nil)) (pa_cons (pe_use UN (hr.mono (by decide)) rfl pass0 (pa_cons (pe_callB call_len_seq rfl mn PySem.boot_len (pa_cons (pv 0) pa_nil)) pa_nil)) pa_nil)))), ?_⟩
  refine ⟨_, rfl, x, rs, M, Z, rfl, hx, by omega, l24, sL.right, by omega, zp, fun b H1 xs s1 nb hb mb => ?_⟩
  obtain ⟨xa, xv, rfl, hxa, nx⟩ := id hx
  have lx := nx.1
  refine ⟨_, rfl, xa, xv, rfl, .inl (SqL.of (s1 _ _ hxa)), xv.length, rfl, by omega, by omega, fun c H2 ys s2 nc hc mc => ?_⟩
  rw [lx] at mc
  have lst := stL_len (n := rs.length) (by omega)
  refine ⟨.ref b, .ref c, tabL rs, stL rs.length, L, B, M, Z, rfl, ⟨b, xs, rfl, s2 _ _ hb, mb.same s2⟩, ⟨c, ys, rfl, hc, mc⟩, by rw [tabL_len, lst], by omega, by omega, fun r hr' => by rw [tabL_row r hr', lst], sL, bl, ?_, tabL_d zp, still_o _, fun k hk => ?_, fun d H3 zs s3 nd hd md => ?_⟩
  · rw [lst]
    exact ze
  · rw [lst] at hk
    rw [tt_tab hk hk]
    exact ⟨pow_dg_ne (serS_zero rs) ht _, dgb k hk⟩
  · rw [lst] at md
    exact q d H3 zs (s1.trans (s2.trans s3)) (s1.free (s2.free nd)) hd md
end
end Kx
end
section
set_option maxHeartbeats 4000000
namespace Kx
open PySem PySem.Spec PyProof.Rows L2 RZ
theorem passF {P : Program} {w : World} {X : Cx} : Passes (L2.CX P w) X (fun _ _ _ => False) := fun _ _ _ _ _ _ _ h => by
  obtain ⟨_, _, _, _, _, _, _, _, _, _, _, _, z⟩ := h
  exact z.elim
/-- objects of the class say what they are -/
structure IsS (K : PySem.W.Frag) (S : Addr) : Prop where
  ty : ∀ H a dx fs, H a = some (.ins S dx fs) → TyX K H (.ref a) (.ref S)
  kit : PySem.W.kitOne K (.ref S) (.ref S) = some true
section
variable {P : Program} {w : World} {K : PySem.W.Frag} {mg : Str → Option Value} {base : Heap} {f C S SD CF CO CP CN o0 o1 : Addr} {fd : FuncData}
end
end Kx
end
section
set_option maxHeartbeats 4000000
namespace Kx
open PySem PySem.Spec PyProof.Rows L2 RZ
/-! ### ~ of an own class -/
section
variable {X : Cx} {CX : CXT} {k : Nat} {C : Addr} {sp : Sp} {E : XK}
theorem un_inv (O : OpM X.prog X.w X.K X.mg X.base CX k C "__invert__" sp) (hr : Room k X.A) (hx : Passes CX X E) : UnR X (unaryOp .Invert) (rUnO C sp E) := by
  intro pins s σ H x v Q I rx h
  obtain ⟨a, dx, fs, rfl, ha, hsp⟩ := h
  obtain ⟨g, fd, ps, h1, h2, F, hb⟩ := O.ex
  cases rx
  obtain ⟨mA, J, _⟩ := ins_get I.hok ha
  obtain ⟨od, J, _⟩ := J.look
  obtain ⟨m, hF⟩ := I.fr
  refine PySem.W.ksp_inv hF I.ok.mod.kin J h1 h2 ?_
  exact run_fn (us := [.ref a]) (vs := [.ref a]) F hr hb .nil hx I (.cons rfl .nil) (by rw [List.append_nil]; exact hsp)
end
/-! ### steps that are turned back and done so many times -/
/-- what turning back may take -/
def BkOk (qs : List Rat) : Prop := ∃ L B M Z : Nat, SmL (L * M) ∧ B + Z + 32 ≤ 100000 ∧ AllD L B (invL qs) ∧ PowD M Z qs ∧ ∀ k, k < qs.length → (powS (serS qs) (k + 1) (k + 1)).num.natAbs < 2 ^ 4450
def fs0 (nm : Str) (ws : List V) : List (Str × V) := match ws with
  | [] => [("code", .str nm)]
  | _ => []
def spCkT (K : PySem.W.Frag) (S CC : Addr) : Sp := fun vs H Q E => ∃ (v : V) (qs : List Rat), vs = [v] ∧ StAt K S H v qs ∧ (Trn qs → Q .non H) ∧ (¬ Trn qs → Air H CC (fs0 "CantTurn" []) E)
def spInv (K : PySem.W.Frag) (S : Addr) : Sp := fun vs H Q _ => ∃ (v : V) (qs : List Rat), vs = [v] ∧ StAt K S H v qs ∧ Trn qs ∧ BkOk qs ∧ GivesF K S H Q (invL qs)
section
variable {P : Program} {w : World} {K : PySem.W.Frag} {mg : Str → Option Value} {base : Heap} {f C S CF CO CU CC o0 : Addr} {fd : FuncData} {H : Hp}
theorem scI0 : FnScope ["self"] ["self"] (defScope C_CantTurn_init) := ⟨rfl, rfl, rfl, by decide +kernel, rfl, by decide +kernel, by decide +kernel⟩
theorem init_C (F : Fun K "__init__" "CantTurn.__init__" C_CantTurn_init f fd) (T : XC K C) (n0 : PySem.W.findIn K (.ref C) "code" = some none) : FnOk P w K mg base CX0 1 f fd ["self"] (spIn C 0 (fs0 "CantTurn")) := by
  refine F.ok scI0 (fun vs H Q E h => ?_) (fun cdv A outer s H vs Q E hr h => ?_)
  · obtain ⟨a, ws, rfl, l, _⟩ := h
    exact congrArg Nat.succ l
  obtain ⟨a, ws, rfl, l, ha, q⟩ := h
  obtain rfl : ws = [] := List.eq_nil_of_length_eq_zero l
  refine ⟨_, pss_one (ps_xst (pv 0) pe_str), ?_⟩
  refine ⟨_, rfl, a, _, rfl, T, n0, .inl ⟨ha, fun e H1 ne he h1 h2 h3 => ?_⟩⟩
  exact q e _ ne he h1 h2 h3
theorem scCkT : FnScope ["step"] ["step"] (defScope F_check_turnable) := ⟨rfl, rfl, rfl, by decide +kernel, rfl, by decide +kernel, by decide +kernel⟩
theorem ok_cturn (G : Fun K "check_turnable" "check_turnable" F_check_turnable f fd) (k : StepK P w K mg base C S CF CO) (k0 : KP K o0 0 1) (mZ : mg "ZERO" = some (.ref o0)) (Z : ErrC P w K mg base "CantTurn" 0 (fs0 "CantTurn") CC) : FnOk P w K mg base (L2.CX P w) 3 f fd ["step"] (spCkT K S CC) := by
  refine G.okX scCkT (fun vs H Q E h => ?_) (fun cdv A outer s H vs Q E hr h => ?_)
  · obtain ⟨v, qs, rfl, _⟩ := h
    rfl
  obtain ⟨v, qs, rfl, hX, h1, h2⟩ := h
  obtain ⟨x, dx, fs, x0, rfl, hx, fl, nq, _⟩ := hX.ld
  obtain ⟨fI, fdI, ps, i1, i2, i3, i4⟩ := Z.i
  refine ⟨_, pss_one (ps_if (pt_cmpR (op_eqD hr.units) (pe_fld (pv 0) rfl) (C8.pe_gc (v := .ref o0) rfl ⟨_, mZ, rfl⟩) (nomark _)) (pss_one (ps_raise rfl (takes_of rfl rfl rfl rfl) (pmk_xo0 Z.T Z.ty i1 i2 i3 (hr.mono (by decide)) i4 pass0 rfl Z.m))) pss_nil), ?_⟩
  refine ⟨_, rfl, x, S, dx, _, _, rfl, hx, k.c, k.nA _ (by simp [stN]), fl, tupQ (serS qs 1), tupQ 0, nq.dp, k0.dp _, rfl, rfl, _, rfl, ?_⟩
  rw [eqv_num]
  by_cases c : serS qs 1 = 0
  · rw [decide_eq_true c]
    exact iteT ⟨(by show 0 ≤ 1000; decide), fun a na => air_of (C := CC) (n := 0) (ws := []) na rfl (h2 fun z => z c)⟩
  · rw [decide_eq_false c]
    exact iteF (h1 c)
theorem scInv : FnScope ["self"] ["self"] (defScope C_Step_invert) := ⟨rfl, rfl, rfl, by decide +kernel, rfl, by decide +kernel, by decide +kernel⟩
theorem ok_invert (G : Fun K "__invert__" "Step.__invert__" C_Step_invert f fd) (k : StepK P w K mg base C S CF CO) (UC : Use P w K mg base (L2.CX P w) 3 "check_turnable" ["step"] (spCkT K S CC) []) (UT : Use P w K mg base CX0 4 "turned_back" ["numbers"] (spTrn K) []) : FnOk P w K mg base (L2.CX P w) 8 f fd ["self"] (spInv K S) := by
  refine G.okX scInv (fun vs H Q E h => ?_) (fun cdv A outer s H vs Q E hr h => ?_)
  · obtain ⟨v, qs, rfl, _⟩ := h
    rfl
  obtain ⟨v, qs, rfl, hX, h1, ⟨L, B, M, Z, sL, lB, zi, zp, dgb⟩, gv⟩ := h
  obtain ⟨x, dx, b, xs, fs, rfl, hx, hb, nx, f1, f2⟩ := hX.nb
  obtain ⟨l2, l24⟩ := hX.le
  obtain ⟨fI, fdI, MM, FI, bI⟩ := k.ini
  refine ⟨_, pss_cons (ps_expr (pe_use (E := E) UC (hr.mono (by decide)) rfl (passes_call (takes_of rfl rfl rfl rfl) (fun _ _ _ _ h => h)) (pa_cons (pv 0) pa_nil)))
    (pss_one (ps_ret (pe_make (E := E) MM FI hr rfl k.m bI .nil (passes_call (takes_of rfl rfl rfl rfl) (fun _ _ _ _ h => h)) (pa_cons (pe_use UT (hr.mono (by decide)) rfl pass0 (pa_cons (pe_fld (pv 0) rfl) pa_nil)) pa_nil)))), ?_⟩
  refine ⟨_, rfl, .ref x, qs, rfl, hX, fun _ => ?_, fun n => absurd h1 n⟩
  refine ⟨_, rfl, x, S, dx, _, _, rfl, hx, k.c, k.nA _ (by simp [stN]), f1, .ref b, qs, L, B, M, Z, rfl, ⟨b, xs, rfl, hb, nx⟩, l2, l24, h1, dgb, sL, lB, zi, zp, fun d H1 zs s1 nd hd md => ?_⟩
  exact step_new s1 (.inl hd) md (by rw [invL_len]; exact l2) (by rw [invL_len]; exact l24) gv
end
end Kx
end
section
set_option maxHeartbeats 4000000
namespace Kx
open PySem PySem.Spec PyProof.Rows L2 RZ
/-! ### the still step, steps compared -/
def spStil (K : PySem.W.Frag) (S : Addr) : Sp := fun vs H Q _ => ∃ n : Nat, vs = [.int (n : Nat)] ∧ 2 ≤ n ∧ n ≤ 24 ∧ GivesF K S H Q (stL n)
section
variable {P : Program} {w : World} {K : PySem.W.Frag} {mg : Str → Option Value} {base : Heap} {f C S CF CO : Addr} {fd : FuncData} {H : Hp}
theorem scStl : FnScope ["order"] ["order"] (defScope C_Step_still) := ⟨rfl, rfl, rfl, by decide +kernel, rfl, by decide +kernel, by decide +kernel⟩
theorem ok_still (G : Fun K "still" "Step.still" C_Step_still f fd) (k : StepK P w K mg base C S CF CO) (UC : Use P w K mg base (L2.CX P w) 3 "check_order" ["order"] (spCo K CO) []) (UN : Use P w K mg base CX0 1 "still_numbers" ["order"] (spSn K) []) :
    FnOk P w K mg base (L2.CX P w) 8 f fd ["order"] (spStil K S) := by
  refine G.okX scStl (fun vs H Q E h => ?_) (fun cdv A outer s H vs Q E hr h => ?_)
  · obtain ⟨n, rfl, _⟩ := h
    rfl
  obtain ⟨n, rfl, h2, h24, q⟩ := h
  obtain ⟨fI, fdI, M, FI, bI⟩ := k.ini
  refine ⟨_, pss_cons (ps_expr (pe_use (E := E) UC (hr.mono (by decide)) rfl (passes_call (takes_of rfl rfl rfl rfl) (fun _ _ _ _ h => h)) (pa_cons (pv 0) pa_nil)))
    (pss_one (ps_ret (pe_make (E := E) M FI hr rfl k.m bI .nil (passes_call (takes_of rfl rfl rfl rfl) (fun _ _ _ _ h => h)) (pa_cons (pe_use UN (hr.mono (by decide)) rfl pass0 (pa_cons (pv 0) pa_nil)) pa_nil)))), ?_⟩
  refine ⟨_, rfl, .int (n : Nat), true, rfl, .yes (by omega) (by omega), fun _ => ?_, fun z => Bool.noConfusion z⟩
  refine ⟨_, rfl, n, rfl, h2, h24, fun d H1 xs s1 n1 e1 m1 => ?_⟩
  exact step_new s1 (.inl e1) m1 (by rw [List.length_cons, List.length_replicate]; omega) (by rw [List.length_cons, List.length_replicate]; omega) q
theorem rd_inF {vx : V} {qs : List Rat} {E : XK} {R : VK} (hX : StAt K S H vx qs) (h1 : Trn qs) (b : BkOk qs) (q : GivesF K S H R (invL qs)) : rUnO S (spInv K S) E vx H R := by
  obtain ⟨x, dx, _, _, _, _, _, ex, hx, _⟩ := id hX
  exact ⟨x, dx, _, ex, hx, vx, qs, rfl, hX, h1, b, q⟩
end
end Kx
end
section
set_option maxHeartbeats 4000000
namespace Kx
open PySem PySem.Spec PyProof.Rows L2 RZ
/-! ### the law's lists taken off each other -/
section
variable {P : Program} {w : World} {K : PySem.W.Frag} {mg : Str → Option Value} {base : Heap} {f o0 : Addr} {fd : FuncData}
theorem scLLe : FnScope nPl ["_law_u", "_law_w"] (defScope L_less) := ⟨rfl, rfl, rfl, by decide +kernel, rfl, by decide +kernel, by decide +kernel⟩
theorem ok_lless (G : Fun K "_law_less" "_law_less" L_less f fd) (mz : mg "zip" = none) (UA : Use P w K mg base CX0 2 "_law_sub" ["_law_p", "_law_q"] (spTwoQ K (· - ·)) []) : FnOk P w K mg base CX0 3 f fd ["_law_u", "_law_w"] (spTwoL K (· - ·)) := by
  refine G.ok scLLe (fun vs H Q E h => ?_) (fun cdv A outer s H vs Q E hr h => ?_)
  · obtain ⟨x, y, qs, rs, rfl, _⟩ := h
    rfl
  obtain ⟨x, y, qs, rs, rfl, ⟨xa, xs, rfl, hx, nx⟩, ⟨ya, ys, rfl, hy, ny⟩, le, l1, bq, br, q⟩ := h
  refine ⟨_, pss_one (ps_ret (pe_lc (own := [("_law_p", 2), ("_law_q", 3)]) (g := gTup K 2 (gCons (gName 2) (gCons (gName 3) gNil))) (tt := tYes) rfl scLLe.nd (pi_zip rfl mz (pa_cons (pv 0) (pa_cons (pv 1) pa_nil))) (blkOk_by (N := nPl) (sc := defScope L_less) (by decide +kernel))
      (fun _ _ _ _ _ => pg_tup rfl (pgs_cons (pg_name (i := 2) scLLe.nd rfl (Or.inl rfl)) (pgs_cons (pg_name (i := 3) scLLe.nd rfl (Or.inl rfl)) pgs_nil))) (fun _ _ _ _ _ => pts_nil)
      (fun _ _ _ _ _ => pe_use UA hr rfl pass0 (pa_cons (pv 2) (pa_cons (pv 3) pa_nil))))), ?_⟩
  refine ⟨_, rfl, _, rfl, xa, ya, xs, ys, rfl, SqL.of hx, SqL.of hy, fun D nD => ?_⟩
  have lx : xs.length = qs.length := nx.1
  have ly : ys.length = rs.length := ny.1
  refine lc_nums (K := K) (walk_zip (K := K) (a := xa) (b := ya) (xs := xs) (ys := ys) (n := xs.length) (by omega)) (qs.zipWith (· - ·) rs) (by rw [List.length_zipWith]; omega) nD (by omega) (fun H' s => ⟨SqL.of (s _ _ hx), SqL.of (s _ _ hy)⟩) ?_ (fun H' zs s h n => q D H' zs s nD h n)
  rintro i r x H2 H3 k hq s2 ⟨T, y, z, rfl, hT, rfl, hy2, hz2⟩ hk
  obtain ⟨a, b, ea, eb, rfl⟩ := zip_get hq
  have sT := new_same hT (.tup [y, z])
  exact ⟨T, _, rfl, SqT.of upd_same, rfl, _, _, rfl, _, _, rfl, rfl, rfl, _, rfl, _, rfl, _, _, a, b, rfl, (nx.2 i y a hy2 ea).same (s2.trans sT), (ny.2 i z b hz2 eb).same (s2.trans sT), bq a (List.mem_of_getElem? ea), br b (List.mem_of_getElem? eb), fun t H4 s4 n4 h4 => hk _ _ (sT.trans s4) (.at h4)⟩
end
section
variable {P : Program} {w : World} {K : PySem.W.Frag} {mg : Str → Option Value} {base : Heap} {f fL : Addr} {fd fdL : FuncData}
theorem scSub : FnScope nPQ ["_law_p", "_law_q"] (defScope L_sub) := ⟨rfl, rfl, rfl, by decide +kernel, rfl, by decide +kernel, by decide +kernel⟩
theorem ok_subQ (F : Fun K "_law_sub" "_law_sub" L_sub f fd) (G : FnOk P w K mg base CX0 1 fL fdL ["_law_num_here", "_law_den"] spLowQ) (bL : Binds K fdL ["_law_num_here", "_law_den"] []) (kL : PySem.W.keepIn K (.ref fL) = true) (mL : mg "_law_low" = some (.ref fL)) :
    FnOk P w K mg base CX0 2 f fd ["_law_p", "_law_q"] (spTwoQ K (· - ·)) := by
  refine F.ok scSub (fun vs H Q E h => ?_) (fun cdv A outer s H vs Q E hr h => ?_)
  · obtain ⟨x, y, a, b, rfl, _⟩ := h
    rfl
  obtain ⟨x, y, a, b, rfl, hx, hy, ba, bb, q⟩ := h
  obtain ⟨xa, rfl, sx, _⟩ := hx.sq
  obtain ⟨ya, rfl, sy, _⟩ := hy.sq
  refine ⟨_, pss_one (ps_ret (pe_call G hr rfl mL kL bL .nil pass0 (pa_cons (pe_op op_sub (pe_op op_mulW (pe_ix ix_tup (pv 0) pe_int (fun _ _ => rfl)) (pe_ix ix_tup (pv 1) pe_int (fun _ _ => rfl))) (pe_op op_mulW (pe_ix ix_tup (pv 1) pe_int (fun _ _ => rfl)) (pe_ix ix_tup (pv 0) pe_int (fun _ _ => rfl))))
      (pa_cons (pe_op op_mulW (pe_ix ix_tup (pv 0) pe_int (fun _ _ => rfl)) (pe_ix ix_tup (pv 1) pe_int (fun _ _ => rfl))) pa_nil)))), ?_⟩
  exact ⟨_, rfl, xa, _, 0, _, rfl, rfl, sx, rfl, _, rfl, ya, _, 1, _, rfl, rfl, sy, rfl, a.num, (b.den : Nat), rfl, rfl, wide_mul ba.1 bb.dn (by decide) (by decide) (by decide), _, rfl, ya, _, 0, _, rfl, rfl, sy, rfl, _, rfl, xa, _, 1, _, rfl, rfl, sx, rfl, b.num, (a.den : Nat), rfl, rfl, wide_mul bb.1 ba.dn (by decide) (by decide) (by decide), _, _, rfl, rfl,
      _, rfl, xa, _, 1, _, rfl, rfl, sx, rfl, _, rfl, ya, _, 1, _, rfl, rfl, sy, rfl, (a.den : Nat), (b.den : Nat), rfl, rfl, wide_mul ba.dn bb.dn (by decide) (by decide) (by decide), _, _, rfl, Int.mul_ne_zero (den_ne a) (den_ne b), log_two ba.dn bb.dn, by rw [← rat_sub]; exact q⟩
end
end Kx
end
section
set_option maxHeartbeats 4000000
namespace Kx
open PySem PySem.Spec PyProof.Rows L2 RZ
def spEqF (K : PySem.W.Frag) (S : Addr) : Sp := fun vs H Q _ => ∃ (x y : V) (qs rs : List Rat), vs = [x, y] ∧ StAt K S H x qs ∧ StAt K S H y rs ∧ Q (.bl (decide (qs = rs))) H
section
variable {P : Program} {w : World} {K : PySem.W.Frag} {mg : Str → Option Value} {base : Heap} {f C S CF CO : Addr} {fd : FuncData} {H : Hp}
theorem scSE : FnScope ["self", "other"] ["self", "other"] (defScope C_Step_eq) := ⟨rfl, rfl, rfl, by decide +kernel, rfl, by decide +kernel, by decide +kernel⟩
theorem ok_seqF (G : Fun K "__eq__" "Step.__eq__" C_Step_eq f fd) (k : StepK P w K mg base C S CF CO) (ks : IsS K S) (mI : mg "isinstance" = none) : FnOk P w K mg base CX0 1 f fd ["self", "other"] (spEqF K S) := by
  refine G.ok scSE (fun vs H Q E h => ?_) (fun cdv A outer s H vs Q E hr h => ?_)
  · obtain ⟨x, y, qs, rs, rfl, _⟩ := h
    rfl
  obtain ⟨v, u, qs, rs, rfl, hS, hT, q⟩ := h
  obtain ⟨x, dx, b, xs, fs, rfl, hx, hb, nx, f1, _⟩ := hS.num
  obtain ⟨y, dy, c, ys, gs, rfl, hy, hc, ny, g1, _⟩ := hT.num
  refine ⟨_, pss_one (ps_ret (pe_and (pe_callB call_isi rfl mI (by decide +kernel) (pa_cons (pv 1) (pa_cons (C8.pe_gc (v := .ref S) rfl ⟨_, k.m, rfl⟩) pa_nil))) (pe_one (pe_cmpR (op_eqD hr.units) (pe_fld (pv 0) rfl) (pe_fld (pv 1) rfl) (nomark _))))), ?_⟩
  refine ⟨_, rfl, .ref y, .ref S, .ref S, .ref S, true, rfl, .own S, ks.ty _ _ _ _ hy, ks.kit, _, rfl, iteT ?_⟩
  refine ⟨_, rfl, x, S, dx, _, _, rfl, hx, k.c, k.nA _ (by simp [stN]), f1, _, rfl, y, S, dy, _, _, rfl, hy, k.c, k.nA _ (by simp [stN]), g1, datL qs, datL rs, nx.dp hb, ny.dp hc, shaped_list _, shaped_list _, ?_⟩
  rw [eqv_list]
  exact q
/-- two steps compared -/
theorem rd_eqS {vx vy : V} {qs rs : List Rat} {E : XK} {R : VK} (ks : IsS K S) (hX : StAt K S H vx qs) (hY : StAt K S H vy rs) (q : R (.bl (decide (qs = rs))) H) : rEqO K S (spEqF K S) E vx vy H R := by
  have nf : PySem.W.notFirst K S (.ref S) = true := by
    unfold PySem.W.notFirst
    rw [beq_self_eq_true]
    rfl
  obtain ⟨x, dx, b, xs, x0, fv, sv, e, hx, _⟩ := id hX
  obtain ⟨y, dy, d, ys, y0, fw, sw, rfl, hy, _⟩ := id hY
  exact ⟨x, dx, _, .ref S, e, hx, ks.ty _ _ _ _ hy, nf, vx, _, qs, rs, rfl, hX, hY, q⟩
end
/-! ### != of two own objects whose class has == alone -/
section
variable {M : Model} {A : Around} {E : Value → Shared → Prop} {s : Shared} {K : PySem.W.Frag} {x C : Addr} {ox : Obj} {od : Option Obj}
open PySem.W in
theorem ifBound_B {name : Str} {id : String} {args : List Value} {Q : Option Value → Shared → Prop} (X : K.In s.heap) (I : InstAt s.heap x ox C od) (hs : findIn K (.ref C) name = some (some (.builtin id)))
    (hb : ∀ self, bindSpecial (.builtin id) self = pure (.builtin id, [self])) (h : wpAny M A (call (.builtin id) (.ref x :: args)) (fun v => Q (some v)) E s) : wpAny M A (callSpecialIfBound? (.ref x) name args) Q E s := by
  simp only [callSpecialIfBound?, bindSpecialIfBound?]
  refine wpAny_holding (wpAny_bind (wpAny_bind (wpAny_bind (I.type.here ((looks_findIn X hs).here ?_)))))
  refine wpAny_bind (wpAny_askSetting (wpAny_ite ?_))
  have fin : wpAny M A (call (.builtin id) ([.ref x] ++ args) >>= fun v => pure (some v)) Q E s := wpAny_bind (wpAny_mono h (fun v s' h' => wpAny_pure h') fun _ _ h' => h')
  split
  · exact wpAny_bind ((Looks.of_pure (hb _)).here (wpAny_pure (by exact fin)))
  · exact wpAny_tryCatch (wpAny_bind ((Looks.of_pure (hb _)).here (wpAny_pure (by exact fin))))
end
section
variable {prog : Program} {w : World} {A : Around} {E : Value → Shared → Prop} {s : Shared} {K : PySem.W.Frag} {x C f : Addr} {ox : Obj} {od : Option Obj} {b tb : Value}
open PySem.W in
theorem objNe_K {Q : Value → Shared → Prop} (hu : A.in1.units < cLine) (X : K.In s.heap) (I : InstAt s.heap x ox C od) (hm : mroIn K C (.type "object") = some true) (he : findIn K (.ref C) "__eq__" = some (some (.ref f))) (hf : isFn K (.ref f) = true)
    (h : wpAny (model prog w) A.in1 (call (.ref f) [.ref x, b]) (fun v s' => ∃ r, v = .bool r ∧ Q (.bool (!r)) s') E s) : wpAny (model prog w) A (call (.builtin "object.__ne__") [.ref x, b]) Q E s := by
  have FB := PySem.F.cmp_object
  refine wpAny_call (codeAny_call_builtin FB.ne.plain PySem.F.cmpEntry_ne (check_slot (i := "object.__ne__") (owner := "object") (n := "__ne__") PySem.F.cmpKind_ne PySem.F.cmpSplit_ne (I.type.andThen (looks_mroIn X hm)) (PySem.F.cmpArgs_ne _ _) ?_))
  unfold Builtin.«object.__ne__»
  repeat (first
    | with_reducible refine wpAny_cRoomFor hu ?_
    | (refine wpAny_bind (m := callSpecialIfBound? (.ref x) (Str.ofString "__eq__") [b])
        (ifBound_K X I he hf (wpAny_mono h (fun r s' hr => by
          obtain ⟨c, rfl, hq⟩ := hr
          repeat (first | exact hq | exact wpAny_pure hq | exact wpAny_truthy_bool hq | (refine wpAny_bind (m := truthy (.bool _)) (wpAny_truthy_bool ?_)) | wp_step)) fun _ _ e => e)))
    | wp_step)
open PySem.W in
theorem ne_own {L : Addr} {h₀ : Heap} {m : Str → Option Value} {Q : Value → Shared → Prop} (hu : A.units < cLine) (hu1 : A.in1.units < cLine) (F : Fr h₀ L s.heap m) (X₀ : K.In h₀) (I : InstAt s.heap x ox C od) (hb : Looks (model prog w) s.heap (typeOf b) tb) (hn : notFirst K C tb = true)
    (hs : findIn K (.ref C) "__ne__" = some (some (.builtin "object.__ne__"))) (hm : mroIn K C (.type "object") = some true) (he : findIn K (.ref C) "__eq__" = some (some (.ref f))) (hf : isFn K (.ref f) = true)
    (h : wpAny (model prog w) A.in1 (call (.ref f) [.ref x, b]) (fun v s' => ∃ r, v = .bool r ∧ Q (.bool (!r)) s') E s) : wpAny (model prog w) A (compareOp .NotEq (.ref x) b) Q E s := by
  have X := X₀.keeps F.keep
  have one : wpAny (model prog w) A (tryCompare (.ref x) "__ne__" b) (fun r s' => ∃ v, r = some v ∧ Q v s') E s := by
    unfold tryCompare
    refine wpAny_bind (ifBound_B X I hs PySem.F.cmp_object.ne.bind (objNe_K hu1 X I hm he hf (wpAny_mono h (fun v s' hv => ?_) fun _ _ e => e)))
    obtain ⟨r, rfl, hq⟩ := hv
    exact ⟨r, rfl, wpAny_pure ⟨_, rfl, hq⟩⟩
  show wpAny _ _ (richCompare .NotEq (.ref x) b) Q E s
  unfold richCompare
  simp only [oneThing_ref]
  refine wpAny_holding (wpAny_bind (wpAny_cRoomFor hu ?_))
  refine wpAny_bind (I.type.here (wpAny_bind (hb.here ?_)))
  split
  · rename_i q
    have e : subIn K tb (.ref C) = some false := by
      rcases Bool.or_eq_true_iff.mp hn with e | e
      · rw [beq_iff_eq.mp e] at q; simp at q
      · exact beq_iff_eq.mp e
    refine wpAny_bind ((looks_subIn X e).here ?_)
    simp only [Bool.false_eq_true, if_false]
    refine wpAny_bind (wpAny_mono one (fun r s' z => ?_) fun _ _ e => e)
    obtain ⟨v, rfl, hq⟩ := z
    exact wpAny_pure hq
  · refine wpAny_bind (wpAny_pure ?_)
    simp only [Bool.false_eq_true, if_false]
    refine wpAny_bind (wpAny_mono one (fun r s' z => ?_) fun _ _ e => e)
    obtain ⟨v, rfl, hq⟩ := z
    exact wpAny_pure hq
end
/-- !=, the left one of the class -/
def rNeO (K : PySem.W.Frag) (C : Addr) (sp : Sp) (E : XK) : R2 := fun x y H Q => ∃ (a dx : Addr) (fs : List (Str × V)) (t : Value), x = .ref a ∧ H a = some (.ins C dx fs) ∧ TyX K H y t ∧ PySem.W.notFirst K C t = true ∧ sp [x, y] H (fun v H' => ∃ r : Bool, v = .bl r ∧ Q (.bl (!r)) H') E
/-- the class has == alone -/
structure NeS (K : PySem.W.Frag) (C : Addr) : Prop where
  ne : PySem.W.findIn K (.ref C) "__ne__" = some (some (.builtin "object.__ne__"))
  mro : PySem.W.mroIn K C (.type "object") = some true
section
variable {X : Cx} {CX : CXT} {k : Nat} {C : Addr} {sp : Sp} {E : XK}
theorem op_neO (O : OpM X.prog X.w X.K X.mg X.base CX k C "__eq__" sp) (N : NeS X.K C) (hr : Room (k + 1) X.A) (hx : Passes CX X E) : OpR X (compareOp .NotEq) (rNeO X.K C sp E) := by
  intro pins s σ H x y v u Q I rx ry h
  obtain ⟨a, dx, fs, t, rfl, ha, ty, nf, hsp⟩ := h
  obtain ⟨g, fd, ps, h1, h2, F, hb⟩ := O.ex
  cases rx
  obtain ⟨mA, J, _⟩ := ins_get I.hok ha
  obtain ⟨od, J, _⟩ := J.look
  obtain ⟨m, hF⟩ := I.fr
  obtain ⟨Pp, Z, pp, _⟩ := kit_of I ry ty
  refine ne_own (tb := t) hr.units0 hr.in1.units0 hF I.ok.mod.kin J (Z.ty _ _ I.kIn pp) nf N.ne N.mro h1 h2 ?_
  have hl := F.len _ _ _ _ hsp
  refine wpAny_call (codeAny_mono (F.run X.A.in1 X.stack s H ⟨[.ref a, u], []⟩ [.ref a, u] [.ref a, y] _ E hr.in1 I.env0.in1 (by
    have := hb s [.ref a, u] I.kIn (by simpa using hl)
    simpa using this) (.cons rfl (.cons ry .nil)) hsp) fun r s' hq => ?_)
  cases r with
  | error e => exact hx pins σ H s e s' I hq
  | ok fl =>
    cases fl with
    | ret w =>
      obtain ⟨z, H', I', rz, r, ez, q⟩ := I.after hq
      subst ez
      obtain rfl : w = .bool r := rz
      exact ⟨r, rfl, .bl (!r), H', I', rfl, q⟩
    | next => exact False.elim hq
    | brk => exact False.elim hq
    | cont => exact False.elim hq
end
section
variable {K : PySem.W.Frag} {S : Addr} {H : Hp}
/-- two steps told apart -/
theorem rd_neS {vx vy : V} {qs rs : List Rat} {E : XK} {R : VK} (ks : IsS K S) (hX : StAt K S H vx qs) (hY : StAt K S H vy rs) (q : R (.bl (!decide (qs = rs))) H) : rNeO K S (spEqF K S) E vx vy H R := by
  have nf : PySem.W.notFirst K S (.ref S) = true := by
    unfold PySem.W.notFirst
    rw [beq_self_eq_true]
    rfl
  obtain ⟨x, dx, b, xs, x0, fv, sv, e, hx, _⟩ := id hX
  obtain ⟨y, dy, d, ys, y0, fw, sw, rfl, hy, _⟩ := id hY
  exact ⟨x, dx, _, .ref S, e, hx, ks.ty _ _ _ _ hy, nf, vx, _, qs, rs, rfl, hX, hY, _, rfl, q⟩
end
end Kx
end
section
set_option maxHeartbeats 4000000
namespace Kx
open PySem PySem.Spec PyProof.Rows L2 RZ
/-! ### the series turned back -/
def invS (h : Ser) : Ser := fun n => serS (invL (toT n h)) n
section
variable {h : Ser} (h0 : h 0 = 0) (h1 : h 1 ≠ 0)
include h0 h1
theorem toT_trn {n : Nat} (hn : 1 ≤ n) : Trn (toT n h) := by
  show serS (toT n h) 1 ≠ 0
  rw [serS_toT h0 1 (by omega)]
  exact h1
theorem invS_at {n k : Nat} (hk : k ≤ n) : invS h k = serS (invL (toT n h)) k := by
  match k, hk with
  | 0, _ => rfl
  | k + 1, hk =>
    show serS (invL (toT (k + 1) h)) (k + 1) = _
    rw [← toT_take h hk, inv_take (by omega) (by rw [toT_len]; exact hk) (toT_trn h0 h1 (by omega))]
    exact serS_take _ _ _ (by omega)
theorem inv_x : cmpS (invS h) h = xS := by
  funext n
  rcases Nat.eq_zero_or_pos n with c | c
  · rw [c, cmpS_zero]
    rfl
  · have e1 : EqTo (n + 1) (invS h) (serS (invL (toT n h))) := fun k hk => invS_at h0 h1 (by omega)
    have e2 : EqTo (n + 1) h (serS (toT n h)) := fun k hk => (serS_toT h0 k hk).symm
    rw [EqTo.cmp e1 e2 n (by omega), ← serS_cmp _ _ n (by rw [invL_len, toT_len]; omega), inv_cmp (by rw [toT_len]; exact c) (toT_trn h0 h1 c), toT_len, stL_eq c]
theorem x_inv : cmpS h (invS h) = xS := by
  funext n
  rcases Nat.eq_zero_or_pos n with c | c
  · rw [c, cmpS_zero, h0]
    rfl
  · have e1 : EqTo (n + 1) (invS h) (serS (invL (toT n h))) := fun k hk => invS_at h0 h1 (by omega)
    have e2 : EqTo (n + 1) h (serS (toT n h)) := fun k hk => (serS_toT h0 k hk).symm
    rw [EqTo.cmp e2 e1 n (by omega), ← serS_cmp _ _ n (by rw [toT_len]; omega), cmp_inv (by rw [toT_len]; exact c) (toT_trn h0 h1 c), toT_len, stL_eq c]
theorem xl_eq {f : Ser} (f0 : f 0 = 0) : cmpS xS f = f := by
  funext n
  rcases Nat.eq_zero_or_pos n with c | c
  · rw [c, cmpS_zero, f0]
    rfl
  · exact cmpS_xl f n c
theorem invS_uni {g : Ser} (g0 : g 0 = 0) (e : cmpS g h = xS) : g = invS h := by
  have a := cmpS_assoc (u := g) h0 (g := invS h) rfl
  rw [e, x_inv h0 h1, cmpS_xr, xl_eq h0 h1 rfl] at a
  exact a.symm
/-- what is put before h is found again -/
theorem led_uni {c g : Ser} (e : cmpS c h = g) : c = cmpS g (invS h) := by
  have a := cmpS_assoc (u := c) h0 (g := invS h) rfl
  rw [e, x_inv h0 h1, cmpS_xr] at a
  exact a.symm
theorem led_back (g : Ser) : cmpS (cmpS g (invS h)) h = g := by
  rw [cmpS_assoc (show invS h 0 = 0 from rfl) h0, inv_x h0 h1, cmpS_xr]
theorem inv_one : invS h 1 * h 1 = 1 := by
  have a := congrFun (inv_x h0 h1) 1
  have e : cmpS (invS h) h 1 = invS h 1 * h 1 := by
    show (0 : Rat) + invS h 0 * powS h 0 1 + invS h 1 * powS h 1 1 = _
    rw [powS_one, show invS h 0 = 0 from rfl]
    grind
  rw [e] at a
  exact a
end
/-! ### scaled -/
def scS (a : Rat) (f : Ser) : Ser := fun k => a * f k
def wtS (b : Rat) (f : Ser) : Ser := fun k => f k * pwQ b k
theorem pow_sc (a : Rat) (f : Ser) : ∀ j k, powS (scS a f) j k = pwQ a j * powS f j k
  | 0, k => by show oneS k = 1 * oneS k; rw [Rat.one_mul]
  | j + 1, k => by
    show sumN (fun i => powS (scS a f) j i * (a * f (k - i))) (k + 1) = pwQ a j * a * sumN (fun i => powS f j i * f (k - i)) (k + 1)
    rw [← sum_mul]
    exact sum_congr fun i _ => by rw [pow_sc a f j i]; grind
theorem pow_wt (b : Rat) (f : Ser) : ∀ j k, powS (wtS b f) j k = powS f j k * pwQ b k
  | 0, k => by
    show oneS k = oneS k * pwQ b k
    rcases Nat.eq_zero_or_pos k with c | c
    · rw [c]; show oneS 0 = oneS 0 * 1; rw [Rat.mul_one]
    · rw [show oneS k = 0 from if_neg (by omega), Rat.zero_mul]
  | j + 1, k => by
    show sumN (fun i => powS (wtS b f) j i * (f (k - i) * pwQ b (k - i))) (k + 1) = sumN (fun i => powS f j i * f (k - i)) (k + 1) * pwQ b k
    rw [← sum_mulR]
    refine sum_congr fun i hi => ?_
    have e := pwQ_add b i (k - i)
    rw [show i + (k - i) = k by omega] at e
    rw [pow_wt b f j i, e]
    grind
theorem pwQ_mul {a b : Rat} (e : a * b = 1) : ∀ j, pwQ a j * pwQ b j = 1
  | 0 => by show (1 : Rat) * 1 = 1; decide +kernel
  | j + 1 => by
    show pwQ a j * a * (pwQ b j * b) = 1
    have := pwQ_mul e j
    grind
theorem cmp_sc (a : Rat) (u f : Ser) : cmpS (scS a u) f = scS a (cmpS u f) := by
  funext n
  show sumN (fun j => a * u j * powS f j n) (n + 1) = a * sumN (fun j => u j * powS f j n) (n + 1)
  rw [← sum_mul]
  exact sum_congr fun j _ => by rw [Rat.mul_assoc]
theorem cmp_wt (b : Rat) (u f : Ser) : cmpS u (wtS b f) = wtS b (cmpS u f) := by
  funext n
  show sumN (fun j => u j * powS (wtS b f) j n) (n + 1) = sumN (fun j => u j * powS f j n) (n + 1) * pwQ b n
  rw [← sum_mulR]
  exact sum_congr fun j _ => by rw [pow_wt, Rat.mul_assoc]
theorem wt_sc {a b : Rat} (e : a * b = 1) (u f : Ser) : cmpS (wtS b u) (scS a f) = cmpS u f := by
  funext n
  refine sum_congr fun j _ => ?_
  show u j * pwQ b j * powS (scS a f) j n = u j * powS f j n
  have := pwQ_mul e j
  rw [pow_sc]
  grind
theorem inv_sc {a b : Rat} (e : a * b = 1) {f : Ser} (f0 : f 0 = 0) (f1 : f 1 ≠ 0) : invS (scS a f) = wtS b (invS f) := by
  have a0 : a ≠ 0 := fun z => by rw [z, Rat.zero_mul] at e; exact absurd e (by decide)
  refine (invS_uni (show scS a f 0 = 0 by show a * f 0 = 0; rw [f0, Rat.mul_zero]) (rat_ne a0 f1) (show invS f 0 * pwQ b 0 = 0 from Rat.zero_mul _) ?_).symm
  rw [wt_sc e, inv_x f0 f1]
/-! ### sizes -/
theorem Gm.inv {D m n : Nat} {h : Ser} (g : Gm D m h n) (h1 : h 1 = 1) (n9 : n ≤ 9) : Gm D (m + 60) (invS h) n := by
  have h1' : h 1 ≠ 0 := by rw [h1]; decide
  refine ⟨rfl, fun k => ?_⟩
  induction k using Nat.strongRecOn with
  | ind k ih =>
    intro hk
    have a := congrFun (inv_x g.z h1') (k + 1)
    have e : cmpS (invS h) h (k + 1) = sumN (fun j => invS h j * powS h j (k + 1)) (k + 1) + invS h (k + 1) * powS h (k + 1) (k + 1) := rfl
    rw [e, pow_d1 g.z h1, Rat.mul_one, sum_first, show invS h 0 = 0 from rfl, Rat.zero_mul, Rat.zero_add] at a
    match k, hk, ih with
    | 0, _, _ =>
      have e1 : invS h (0 + 1) = 1 := by
        have : sumN (fun i => invS h (i + 1) * powS h (i + 1) (0 + 1)) 0 = 0 := rfl
        rw [this, Rat.zero_add] at a
        exact a
      rw [e1]
      exact Dq.one (show 1 < 2 ^ 1 by decide)
    | k + 1, hk, ih =>
      have e1 : invS h (k + 1 + 1) = -sumN (fun i => invS h (i + 1) * powS h (i + 1) (k + 1 + 1)) (k + 1) := by
        rw [show xS (k + 1 + 1) = 0 from if_neg (by omega)] at a
        grind
      rw [e1]
      refine (dq_sum (L := D ^ (k + 1)) (B := (m + 60) * (k + 1) - 14) (c := 4) _ (fun i hi => ?_) (by omega)).neg.mono (by rw [Nat.add_mul]; omega)
      have p := ih i (by omega) (by omega)
      have q := g.pow (by omega) i (k + 1 - i) (by omega)
      rw [show i + 1 + (k + 1 - i) = k + 1 + 1 by omega] at q
      have r := p.mul q
      rw [← Nat.pow_add, show i + (k + 1 - i) = k + 1 by omega] at r
      refine r.mono ?_
      have e2 : (m + 60) * i + (m + 60) * (k + 1 - i) = (m + 60) * (k + 1) := by rw [← Nat.mul_add, show i + (k + 1 - i) = k + 1 by omega]
      have e3 : (m + 60) * (k + 1 - i) = m * (k + 1 - i) + 60 * (k + 1 - i) := Nat.add_mul _ _ _
      omega
/-- a lead and its inverse -/
structure LdQ (a b : Rat) : Prop where
  e : a * b = 1
  a : Dq 6 4 a
  b : Dq 2 3 b
theorem pw_dq {L B : Nat} {a : Rat} (h : Dq L B a) : ∀ j, Dq (L ^ j) (B * j + 1) (pwQ a j)
  | 0 => Dq.one (show 1 < 2 ^ 1 by decide)
  | j + 1 => ((pw_dq h j).mul h).mono (by rw [Nat.mul_succ]; omega)
theorem Gm.wt {D m n : Nat} {f : Ser} {b : Rat} (g : Gm D m f n) (f1 : f 1 = 1) (hb : Dq 2 3 b) : Gm (2 * D) (m + 4) (fun k => f k * pwQ b (k - 1)) n := by
  refine ⟨by show f 0 * _ = 0; rw [g.z, Rat.zero_mul], fun k hk => ?_⟩
  match k, hk with
  | 0, _ =>
    show Dq _ _ (f 1 * pwQ b 0)
    rw [f1, show pwQ b 0 = 1 from rfl, Rat.mul_one]
    exact Dq.one (show 1 < 2 ^ 1 by decide)
  | k + 1, hk =>
    have r := (pw_dq hb (k + 1)).mul (g.g (k + 1) hk)
    rw [← Nat.mul_pow, Rat.mul_comm] at r
    exact r.mono (by rw [Nat.add_mul]; omega)
/-- all powers of a series, up to a place -/
def Gl (L B : Nat) (f : Ser) (n : Nat) : Prop := ∀ j k, 1 ≤ j → k ≤ n → Dq L B (powS f j k)
theorem Gm.gl {D m n : Nat} {f : Ser} (g : Gm D m f n) (d0 : 0 < D) (d : D < 2 ^ 90) (n1 : 1 ≤ n) (n7 : n ≤ 7) : Gl (D ^ (n - 1)) (15 * m + 900) f n := fun j k j1 hk => by
  obtain ⟨j, rfl⟩ : ∃ i, j = i + 1 := ⟨j - 1, by omega⟩
  rcases Nat.lt_or_ge k (j + 1) with e | e
  · rw [powS_low g.z (j + 1) k e]
    exact Dq.zero
  · have a := g.pow (by omega) j (k - (j + 1)) (by omega)
    rw [show j + 1 + (k - (j + 1)) = k by omega] at a
    refine (a.dv (Nat.pow_dvd_pow D (show k - (j + 1) ≤ n - 1 by omega)) (Nat.pow_pos d0) (Dpow d (show n - 1 ≤ n by omega) n1)).mono ?_
    have : m * (k - (j + 1)) ≤ m * 15 := Nat.mul_le_mul_left m (by omega)
    omega
theorem gl_cut {L B n : Nat} {f g : Ser} (h : Gl L B f n) (e : EqTo (n + 1) g f) : Gl L B g n := fun j k j1 hk => by
  rw [e.pow j k (by omega)]
  exact h j k j1 hk
theorem Gl.pow {L B n : Nat} {f : Ser} {qs : List Rat} (h : Gl L B f n) (l : qs.length = n) (e : EqTo (n + 1) (serS qs) f) : PowD L B qs := fun j hj q hq => by
  rw [powL_S] at hq
  obtain ⟨i, hi⟩ := List.getElem?_of_mem hq
  rcases Nat.lt_or_ge i (qs.length + 1) with c | c
  · rw [toL_get c] at hi
    rw [← Option.some.inj hi, e.pow (j + 1) i (by omega)]
    exact h (j + 1) i (by omega) (by omega)
  · rw [List.getElem?_eq_none (by rw [toL_len]; exact c)] at hi
    cases hi
theorem Gl.one {L B n : Nat} {f : Ser} (h : Gl L B f n) {k : Nat} (hk : k ≤ n) : Dq L B (f k) := by
  have := h 1 k (by omega) hk
  rw [powS_one] at this
  exact this
theorem all_ser {L B : Nat} {qs : List Rat} (h : ∀ k, k < qs.length → Dq L B (serS qs (k + 1))) : AllD L B qs := fun q hq => by
  obtain ⟨i, hi⟩ := List.getElem?_of_mem hq
  have c : i < qs.length := by
    rcases Nat.lt_or_ge i qs.length with c | c
    · exact c
    · rw [List.getElem?_eq_none c] at hi; cases hi
  have e := h i c
  rw [serS_at, List.getD_eq_getElem?_getD, hi] at e
  exact e
theorem Gl.all {L B n : Nat} {f : Ser} {qs : List Rat} (h : Gl L B f n) (l : qs.length = n) (e : EqTo (n + 1) (serS qs) f) : AllD L B qs := all_ser fun k hk => by
  rw [e (k + 1) (by omega)]
  exact h.one (by omega)
/-- a scaled one -/
theorem Gl.sc {D m n : Nat} {f : Ser} {a : Rat} (g : Gm D m f n) (d0 : 0 < D) (d : D < 2 ^ 90) (n1 : 1 ≤ n) (n7 : n ≤ 7) (ha : Dq 6 4 a) : Gl (6 ^ n * D ^ (n - 1)) (15 * m + 980) (scS a f) n := fun j k j1 hk => by
  rw [pow_sc]
  rcases Nat.lt_or_ge n j with c | c
  · rw [powS_low g.z j k (by omega), Rat.mul_zero]
    exact Dq.zero
  · have p := (pw_dq ha j).dv (Nat.pow_dvd_pow 6 c) (Nat.pow_pos (by decide)) (show 6 ^ n < 2 ^ 21 from Nat.lt_of_le_of_lt (Nat.pow_le_pow_right (by decide) n7) (by decide))
    exact (p.mul (g.gl d0 d n1 n7 j k j1 hk)).mono (by omega)
theorem Gl.wt {D m n : Nat} {f : Ser} {b : Rat} (g : Gm D m f n) (d0 : 0 < D) (d : D < 2 ^ 90) (n1 : 1 ≤ n) (n7 : n ≤ 7) (hb : Dq 2 3 b) : Gl (2 ^ n * D ^ (n - 1)) (15 * m + 980) (wtS b f) n := fun j k j1 hk => by
  rw [pow_wt, Rat.mul_comm]
  have p := (pw_dq hb k).dv (Nat.pow_dvd_pow 2 hk) (Nat.pow_pos (by decide)) (show 2 ^ n < 2 ^ 8 from Nat.pow_lt_pow_right (by decide) (by omega))
  exact (p.mul (g.gl d0 d n1 n7 j k j1 hk)).mono (by omega)
end Kx
end
section
set_option maxHeartbeats 4000000
namespace Kx
open PySem PySem.Spec PyProof.Rows L2 RZ
section
variable {X : Cx} {CX : CXT} {k : Nat} {f : Addr} {sp : Sp} {E : XK} {x : Str} {e : Expr} {es : List Expr} {t : TA} {p pos : Pos}
end
theorem gm_T {E m N : Nat} {J : Ser} (g : Gm E m J N) : Gm E m (serS (toT N J)) (toT N J).length := by
  rw [toT_len]
  exact ⟨rfl, fun k hk => by rw [serS_toT g.z (k + 1) (by omega)]; exact g.g k hk⟩
theorem cmp_one' {p q : Ser} (p0 : p 0 = 0) (p1 : p 1 = 1) (q1 : q 1 = 1) : cmpS p q 1 = 1 := by
  show (0 : Rat) + p 0 * _ + p 1 * powS q 1 1 = 1
  rw [p0, p1, powS_one, q1]
  grind
section
variable {E N : Nat} {J F : Ser}
end
section
variable {P : Program} {w : World} {K : PySem.W.Frag} {mg : Str → Option Value} {base : Heap} {f C S SD CF CO o0 o1 CN : Addr} {cs : Fin 2 → Addr} {fd : FuncData}
end
end Kx
end
section
set_option maxHeartbeats 4000000
namespace Kx
open PySem PySem.Spec PyProof.Rows L2 RZ
/-! ### half of a step behind itself -/
theorem xl0 {f : Ser} (f0 : f 0 = 0) : cmpS xS f = f := by
  funext n
  rcases Nat.eq_zero_or_pos n with c | c
  · rw [c, cmpS_zero, f0]
    rfl
  · exact cmpS_xl f n c
theorem it_com2 {f g : Ser} (f0 : f 0 = 0) (g0 : g 0 = 0) (c : cmpS f g = cmpS g f) : ∀ n, cmpS f (itS g n) = cmpS (itS g n) f
  | 0 => by
    show cmpS f xS = cmpS xS f
    rw [cmpS_xr, xl0 f0]
  | n + 1 => by
    show cmpS f (cmpS (itS g n) g) = cmpS (cmpS (itS g n) g) f
    rw [← cmpS_assoc (it_00 n) g0, it_com2 f0 g0 c n, cmpS_assoc f0 g0, c, ← cmpS_assoc g0 f0]
def hfq : Rat := mkRat 1 2
theorem hfq_two : hfq + hfq = 1 := by decide +kernel
def hfS (g : Ser) : Ser := fun i => pwF g hfq i i
section
variable {g : Ser} (g0 : g 0 = 0) (g1 : g 1 = 1)
include g0 g1
theorem hf_to (N : Nat) : EqTo (N + 1) (pwF g hfq N) (hfS g) := fun i hi => sum_tail (by omega) fun k hk => by rw [df_low g0 g1 k i hk, Rat.mul_zero]
theorem hf_one : hfS g 1 = 1 := pw_01 g0 g1 hfq (Nat.le_refl 1)
theorem hf_sq : cmpS (hfS g) (hfS g) = g := by
  funext i
  have e := hf_to g0 g1 (i + 1)
  have e1 : cmpS xS g = g := xl0 g0
  rw [← EqTo.cmp e e i (by omega), pw_cmp g0 g1 (by omega) hfq hfq i (by omega), hfq_two, show (1 : Rat) = ((1 : Nat) : Rat) from rfl, pw_nat g0 g1 (by omega) 1 i (by omega)]
  show cmpS xS g i = g i
  rw [e1]
theorem hf_com {f : Ser} (f0 : f 0 = 0) (c : cmpS f g = cmpS g f) : cmpS f (hfS g) = cmpS (hfS g) f := by
  funext i
  have e := hf_to g0 g1 (i + 1)
  rw [← EqTo.cmp (fun _ _ => rfl) e i (by omega), ← EqTo.cmp e (fun _ _ => rfl) i (by omega)]
  exact Pl.eq (p := fun t => cmpS f (pwF g t (i + 1)) i) (q := fun t => cmpS (pwF g t (i + 1)) f i) ((PlS.const f).cmp (pw_pl g (i + 1)) i) ((pw_pl g (i + 1)).cmp (PlS.const f) i) (fun n => by
    show cmpS f (pwF g ((n : Nat) : Rat) (i + 1)) i = cmpS (pwF g ((n : Nat) : Rat) (i + 1)) f i
    have en := pw_nat g0 g1 (show 1 ≤ i + 1 by omega) n
    rw [EqTo.cmp (fun _ _ => rfl) en i (by omega), EqTo.cmp en (fun _ _ => rfl) i (by omega), it_com2 f0 g0 c]) hfq
end
theorem hf_00 (g : Ser) : hfS g 0 = 0 := rfl
theorem df_cg {f g : Ser} {n : Nat} (e : EqTo n f g) : ∀ k, EqTo n (dfK f k) (dfK g k)
  | 0 => fun _ _ => rfl
  | k + 1 => fun i hi => by
    show cmpS (dfK f k) f i - dfK f k i = cmpS (dfK g k) g i - dfK g k i
    rw [EqTo.cmp (df_cg e k) e i hi, df_cg e k i hi]
theorem pwF_cg {f g : Ser} {n : Nat} (e : EqTo n f g) (t : Rat) (N : Nat) : EqTo n (pwF f t N) (pwF g t N) := fun i hi => sum_congr fun k _ => by rw [df_cg e k i hi]
theorem pwL_half {f : Ser} {N : Nat} (f0 : f 0 = 0) (f1 : f 1 = 1) : pwL (toT N f) hfq = toT N (hfS f) := by
  unfold pwL
  rw [toT_len]
  exact toT_eq ((pwF_cg (serS_toT f0) hfq N).trans (hf_to f0 f1 N))
/-! ### a flip parted -/
theorem cmp_at1 {p q : Ser} (p0 : p 0 = 0) : cmpS p q 1 = p 1 * q 1 := by
  show (0 : Rat) + p 0 * powS q 0 1 + p 1 * powS q 1 1 = _
  rw [powS_one, p0]
  grind
def flU (f : Ser) : Ser := hfS (cmpS f f)
def flP (f : Ser) : Ser := cmpS f (invS (flU f))
section
variable {f : Ser} (f0 : f 0 = 0) (f1 : f 1 = -1)
include f0 f1
theorem ff_0 : cmpS f f 0 = 0 := by rw [cmpS_zero, f0]
theorem ff_1 : cmpS f f 1 = 1 := by
  rw [cmp_at1 f0, f1]
  decide +kernel
theorem fl_1 : flU f 1 = 1 := hf_one (ff_0 f0 f1) (ff_1 f0 f1)
theorem fl_n : flU f 1 ≠ 0 := by
  rw [fl_1 f0 f1]
  decide
theorem fl_com : cmpS f (flU f) = cmpS (flU f) f := hf_com (ff_0 f0 f1) (ff_1 f0 f1) f0 (cmpS_assoc f0 f0).symm
theorem fl_sq : cmpS (flU f) (flU f) = cmpS f f := hf_sq (ff_0 f0 f1) (ff_1 f0 f1)
theorem fl_su : cmpS (flP f) (flU f) = f := led_back (hf_00 _) (fl_n f0 f1) f
theorem fl_p0 : flP f 0 = 0 := by
  show cmpS f _ 0 = 0
  rw [cmpS_zero, f0]
theorem fl_us : cmpS (flU f) (flP f) = f := by
  show cmpS (flU f) (cmpS f (invS (flU f))) = f
  rw [← cmpS_assoc f0 rfl, ← fl_com f0 f1, cmpS_assoc (show flU f 0 = 0 from rfl) rfl, x_inv (show flU f 0 = 0 from rfl) (fl_n f0 f1), cmpS_xr]
theorem fl_p1 : flP f 1 = -1 := by
  have e := inv_one (h := flU f) (hf_00 _) (fl_n f0 f1)
  rw [fl_1 f0 f1, Rat.mul_one] at e
  show cmpS f (invS (flU f)) 1 = -1
  rw [cmp_at1 f0, e, f1]
  decide +kernel
theorem fl_pp : cmpS (flP f) (flP f) = xS := by
  have p0 := fl_p0 f0 f1
  have u0 : flU f 0 = 0 := hf_00 _
  have w0 : cmpS (flU f) (flU f) 0 = 0 := by rw [cmpS_zero, u0]
  have w1 : cmpS (flU f) (flU f) 1 ≠ 0 := by
    rw [fl_sq f0 f1, ff_1 f0 f1]
    decide
  have e : cmpS (cmpS (flP f) (flP f)) (cmpS (flU f) (flU f)) = cmpS (flU f) (flU f) := by
    rw [cmpS_assoc p0 w0, ← cmpS_assoc (u := flP f) u0 u0, fl_su f0 f1, fl_com f0 f1, ← cmpS_assoc u0 f0, fl_su f0 f1, fl_sq f0 f1]
  rw [led_uni w0 w1 e, x_inv w0 w1]
end
theorem cmpS_subR (u w f : Ser) : cmpS (fun i => (u i - w i) * hfq) f = fun k => (cmpS u f k - cmpS w f k) * hfq := by
  funext k
  show sumN (fun j => (u j - w j) * hfq * powS f j k) (k + 1) = (sumN (fun j => u j * powS f j k) (k + 1) - sumN (fun j => w j * powS f j k) (k + 1)) * hfq
  generalize k + 1 = m
  induction m with
  | zero => show (0 : Rat) = (0 - 0) * hfq; grind
  | succ m ih =>
    show sumN _ m + _ = (sumN _ m + _ - (sumN _ m + _)) * hfq
    rw [ih]
    grind
def flH (s : Ser) : Ser := fun k => (xS k - s k) * hfq
theorem flH_cmp {s : Ser} (s0 : s 0 = 0) (e : cmpS s s = xS) : cmpS (flH s) s = scS (-1) (flH s) := by
  show cmpS (fun i => (xS i - s i) * hfq) s = _
  rw [cmpS_subR, xl0 s0, e]
  funext k
  show (s k - xS k) * hfq = -1 * ((xS k - s k) * hfq)
  grind
/-! ### a stretch made straight -/
def gLs (f : Ser) : Nat → List Rat
  | 0 => []
  | k + 1 => gLs f k ++ [if k = 0 then 1 else sumN (fun i => ser (gLs f k) i * powS f (i + 1) (k + 1)) k / (f 1 - powS f (k + 1) (k + 1))]
theorem gLs_len (f : Ser) : ∀ k, (gLs f k).length = k
  | 0 => rfl
  | k + 1 => by
    show (gLs f k ++ [_]).length = _
    rw [List.length_append, gLs_len f k]
    rfl
def stS (f : Ser) : Ser
  | 0 => 0
  | k + 1 => ser (gLs f (k + 1)) k
theorem gLs_pre (f : Ser) (k : Nat) : ∀ n, k ≤ n → ∀ i, i < k → ser (gLs f n) i = ser (gLs f k) i := by
  intro n h
  induction h with
  | refl => exact fun _ _ => rfl
  | step h ih =>
    rename_i m
    intro i hi
    rw [← ih i hi]
    have l := gLs_len f m
    have h' : k ≤ m := h
    show List.getD (gLs f m ++ [_]) i 0 = List.getD (gLs f m) i 0
    rw [List.getD_eq_getElem?_getD, List.getElem?_append_left (by omega), ← List.getD_eq_getElem?_getD]
theorem gLs_at (f : Ser) {k i : Nat} (h : i < k) : ser (gLs f k) i = stS f (i + 1) := gLs_pre f (i + 1) k (by omega) i (by omega)
theorem gLs_T (f : Ser) (k : Nat) : gLs f k = toT k (stS f) := by
  apply List.ext_getElem?
  intro i
  rcases Nat.lt_or_ge i k with c | c
  · rw [toT_get c, ← gLs_at f c]
    show _ = some (List.getD _ _ _)
    rw [List.getD_eq_getElem?_getD, List.getElem?_eq_getElem (by rw [gLs_len]; exact c)]
    rfl
  · rw [List.getElem?_eq_none (by rw [gLs_len]; exact c), List.getElem?_eq_none (by rw [toT_len]; exact c)]
theorem stS_last (f : Ser) (k : Nat) : stS f (k + 1) = if k = 0 then 1 else sumN (fun i => stS f (i + 1) * powS f (i + 1) (k + 1)) k / (f 1 - powS f (k + 1) (k + 1)) := by
  show List.getD (gLs f k ++ [_]) k 0 = _
  have l := gLs_len f k
  rw [List.getD_eq_getElem?_getD, List.getElem?_append_right (by omega), l, Nat.sub_self]
  show (if k = 0 then (1 : Rat) else _) = _
  by_cases c : k = 0
  · rw [if_pos c, if_pos c]
  · rw [if_neg c, if_neg c, sum_congr fun i hi => by rw [gLs_at f hi]]
theorem stS_1 (f : Ser) : stS f 1 = 1 := by rw [stS_last, if_pos rfl]
theorem stS_cmp {f : Ser} (f0 : f 0 = 0) {N : Nat} (ne : ∀ n, 2 ≤ n → n ≤ N → f 1 - powS f n n ≠ 0) : EqTo (N + 1) (cmpS (stS f) f) (scS (f 1) (stS f)) := fun n hn => by
  match n, hn with
  | 0, _ =>
    rw [cmpS_zero]
    show (0 : Rat) = f 1 * 0
    rw [Rat.mul_zero]
  | 1, _ =>
    rw [cmp_at1 (show stS f 0 = 0 from rfl), stS_1]
    show 1 * f 1 = f 1 * stS f 1
    rw [stS_1]
    grind
  | k + 2, hk =>
    have e : cmpS (stS f) f (k + 2) = sumN (fun j => stS f j * powS f j (k + 2)) (k + 2) + stS f (k + 2) * powS f (k + 2) (k + 2) := rfl
    rw [e, sum_first, show stS f 0 = 0 from rfl, Rat.zero_mul, Rat.zero_add]
    have d := stS_last f (k + 1)
    rw [if_neg (by omega)] at d
    have n0 := ne (k + 2) (by omega) (by omega)
    have d2 : stS f (k + 2) * (f 1 - powS f (k + 2) (k + 2)) = sumN (fun i => stS f (i + 1) * powS f (i + 1) (k + 2)) (k + 1) := by
      show stS f (k + 1 + 1) * _ = _
      rw [d]
      exact Rat.div_mul_cancel n0
    rw [← d2]
    show _ = f 1 * stS f (k + 2)
    grind
end Kx
end
section
set_option maxHeartbeats 4000000
namespace Kx
open PySem PySem.Spec PyProof.Rows L2 RZ
/-- the first place, from i on, at which two lists differ -/
def difN : List Rat → List Rat → Nat → Option Nat
  | q :: qs, r :: rs, i => if q = r then difN qs rs (i + 1) else some i
  | _, _, _ => none
def difV (qs rs : List Rat) : V := match difN qs rs 0 with
  | none => .non
  | some k => .int ((k : Nat) + 1)
theorem difN_hit : ∀ (qs rs : List Rat) (i f : Nat) (q r : Rat), (∀ j < i, qs[j]? = rs[j]?) → qs[i]? = some q → rs[i]? = some r → q ≠ r → difN qs rs f = some (f + i)
  | [], _, _, _, _, _, _, h, _, _ => by simp at h
  | _ :: _, [], _, _, _, _, _, _, h, _ => by simp at h
  | q0 :: qs, r0 :: rs, 0, f, q, r, _, h1, h2, n => by
    obtain rfl : q0 = q := Option.some.inj h1
    obtain rfl : r0 = r := Option.some.inj h2
    exact if_neg n
  | q0 :: qs, r0 :: rs, i + 1, f, q, r, h, h1, h2, n => by
    have e : q0 = r0 := Option.some.inj (h 0 (Nat.succ_pos _))
    show (if q0 = r0 then difN qs rs (f + 1) else some f) = _
    rw [if_pos e, difN_hit qs rs i (f + 1) q r (fun j hj => h (j + 1) (Nat.succ_lt_succ hj)) h1 h2 n]
    exact congrArg some (by omega)
theorem difN_same : ∀ (qs rs : List Rat) (f : Nat), qs = rs → difN qs rs f = none
  | [], _, _, h => by subst h; rfl
  | q :: qs, _, f, h => by
    subst h
    show (if q = q then difN qs qs (f + 1) else some f) = none
    rw [if_pos rfl, difN_same qs qs (f + 1) rfl]
def spFd (K : PySem.W.Frag) (S CU : Addr) : Sp := fun vs H Q E => ∃ (x y : V) (qs rs : List Rat), vs = [x, y] ∧ StAt K S H x qs ∧ StAt K S H y rs ∧ (qs.length ≠ rs.length → Air H CU (fs2 "UnlikeOrders" "one" "other" [.int (qs.length : Int), .int (rs.length : Int)]) E) ∧
  (qs.length = rs.length → ∀ H', Same H H' → Q (difV qs rs) H')
abbrev nFd : List Str := ["one", "other", "at", "mine", "yours"]
section
variable {P : Program} {w : World} {K : PySem.W.Frag} {mg : Str → Option Value} {base : Heap} {f C S CF CO CU : Addr} {fd : FuncData}
theorem scFd : FnScope nFd ["one", "other"] (defScope F_first_difference) := ⟨rfl, rfl, rfl, by decide +kernel, rfl, by decide +kernel, by decide +kernel⟩
theorem ok_first (G : Fun K "first_difference" "first_difference" F_first_difference f fd) (k : StepK P w K mg base C S CF CO) (UO : Use P w K mg base (L2.CX P w) 3 "check_orders" ["one", "other"] (spCor K CU) []) (UN : MUse P w K mg base CX0 1 S "numbers" ["self"] (spNuS K S) []) (me : mg "enumerate" = none) (mz : mg "zip" = none) :
    FnOk P w K mg base (L2.CX P w) 4 f fd ["one", "other"] (spFd K S CU) := by
  refine G.okX scFd (fun vs H Q E h => ?_) (fun cdv A outer s H vs Q E hr h => ?_)
  · obtain ⟨x, y, qs, rs, rfl, _⟩ := h
    rfl
  obtain ⟨x, y, qs, rs, rfl, hX, hY, h1, h2⟩ := h
  have hr1 := hr.mono (show 1 ≤ 3 by decide)
  refine ⟨_, pss_cons (ps_expr (pe_use (E := E) UO hr rfl (passes_call (takes_of rfl rfl rfl rfl) (fun _ _ _ _ h => h)) (pa_cons (pv 0) (pa_cons (pv 1) pa_nil))))
    (pss_cons (ps_for (passes_of rfl) rfl (pi_enumzip rfl me rfl mz (pa_cons (pe_mu0 UN (pv 0) hr1 pass0) (pa_cons (pe_mu0 UN (pv 1) hr1 pass0) pa_nil))) (pg_tup rfl (pgs_cons (pg_name (i := 2) scFd.nd rfl (Or.inl rfl)) (pgs_cons (pg_tup rfl (pgs_cons (pg_name (i := 3) scFd.nd rfl (Or.inl rfl)) (pgs_cons (pg_name (i := 4) scFd.nd rfl (Or.inl rfl)) pgs_nil))) pgs_nil)))
      (pss_one (ps_if (pt_cmpR (op_neD hr.units) (pv 3) (pv 4) (nomark _)) (pss_one (ps_ret (pe_op op_add (pv 2) pe_int))) pss_nil)))
    (pss_one (ps_ret pe_non))), ?_⟩
  obtain ⟨xa, dx, b, xs, fx, rfl, hx, hb, nx, fx1, fx2, l2, l24⟩ := hX.num
  obtain ⟨ya, dy, c, ys, fy, rfl, hy, hc, ny, fy1, fy2, m2, m24⟩ := hY.num
  have lkn : ∀ {v : V} {rs : List Rat} (h : StAt K S H v rs), ∃ x dx fs, v = .ref x ∧ H x = some (.ins S dx fs) ∧ fs.lookup ("numbers" : Str) = none := fun ⟨x, dx, _, _, _, _, _, e, h, _⟩ => ⟨x, dx, _, e, h, rfl⟩
  refine ⟨_, rfl, _, rfl, _, _, (qs.length : Int), (rs.length : Int), rfl, ⟨xa, S, dx, fx, rfl, hx, k.c, k.nA _ (by simp [stN]), fx2⟩, ⟨ya, S, dy, fy, rfl, hy, k.c, k.nA _ (by simp [stN]), fy2⟩, fun e => ?_, fun e => h1 (fun z => e (by rw [z]))⟩
  have le : qs.length = rs.length := by omega
  have q := h2 le
  obtain ⟨x1, d1, f1, e1, hx1, n1⟩ := lkn hX
  obtain ⟨x2, d2, f2, e2, hx2, n2⟩ := lkn hY
  refine ⟨_, rfl, x1, d1, f1, e1, hx1, n1, _, qs, rfl, hX, fun a1 H1 zs1 s1 na1 ea1 nz1 => ?_⟩
  refine ⟨_, rfl, x2, d2, f2, e2, s1 _ _ hx2, n2, _, rs, rfl, hY.same s1, fun a2 H2 zs2 s2 na2 ea2 nz2 => ?_⟩
  have s12 := s1.trans s2
  have ea1 := s2 _ _ ea1
  have nz1 := nz1.same s2
  have lz : zs1.length = zs2.length := by rw [nz1.1, nz2.1, le]
  have lq : zs1.length = qs.length := nz1.1
  refine ⟨a1, a2, zs1, zs2, rfl, SqL.of ea1, SqL.of ea2, ?_⟩
  refine for_it (walk_enumzip (K := K) (a := a1) (b := a2) lz) (fun i σ H' => Same H2 H' ∧ (∀ j < i, qs[j]? = rs[j]?) ∧ ∃ v2 v3 v4, σ = [some (.ref xa), some (.ref ya), v2, v3, v4]) ⟨Same.refl H2, fun j h => absurd h (Nat.not_lt_zero j), none, none, none, rfl⟩ (fun i σ H' _ h => ⟨SqL.of (h.1 _ _ ea1), SqL.of (h.1 _ _ ea2)⟩) ?_ ?_
  · rintro i x σ H3 H4 hi ⟨s3, hj, v2, v3, v4, rfl⟩ ⟨T, U, y, z, rfl, hT, UT, hU, rfl, ey, ez⟩
    have sT := new_same hT (HO.tup [y, z])
    have hU' : upd H3 T (HO.tup [y, z]) U = none := by rw [upd_ne UT]; exact hU
    have sU := new_same hU' (HO.tup [.int (i : Nat), .ref T])
    have s4 := s3.trans (sT.trans sU)
    have eT := sU _ _ (show upd H3 T (HO.tup [y, z]) T = some _ from upd_same)
    refine ⟨U, [_, _], rfl, SqT.of upd_same, rfl, _, [_], rfl, _, [], rfl, T, [_, _], rfl, SqT.of eT, rfl, _, [_], rfl, _, [], rfl, rfl, rfl, ?_⟩
    obtain ⟨q0, eq, nq⟩ := nz1.get ey
    obtain ⟨r0, er, nr⟩ := nz2.get ez
    refine ⟨_, rfl, _, rfl, tupQ q0, tupQ r0, (nq.same s4).dp, (nr.same s4).dp, rfl, rfl, _, rfl, ?_⟩
    rw [eqv_num]
    by_cases c : q0 = r0
    · rw [decide_eq_true c]
      refine iteF ⟨s4, fun j hj' => ?_, _, _, _, rfl⟩
      rcases Nat.lt_or_ge j i with h | h
      · exact hj j h
      · obtain rfl : j = i := by omega
        rw [eq, er, c]
    · rw [decide_eq_false c]
      refine iteT ⟨_, rfl, ((i : Nat) : Int), 1, rfl, rfl, ?_⟩
      have := q _ (s12.trans s4)
      unfold difV at this
      rw [difN_hit qs rs i 0 q0 r0 hj eq er c, Nat.zero_add] at this
      exact this
  · rintro σ H3 ⟨s3, hj, v2, v3, v4, rfl⟩
    have := q _ (s12.trans s3)
    unfold difV at this
    rw [difN_same qs rs 0 (List.ext_getElem? fun j => ?_)] at this
    · exact this
    · rcases Nat.lt_or_ge j qs.length with h | h
      · exact hj j (by omega)
      · rw [List.getElem?_eq_none h, List.getElem?_eq_none (by omega)]
end
end Kx
end
section
set_option maxHeartbeats 4000000
namespace Kx
open PySem PySem.Spec PyProof.Rows L2 RZ
/-! ### a op b op c op d, as a test -/
def tChain3 (r r' r'' : R2) (ta tb tc td : TE) : TE := fun σ H Q => ta σ H fun x H1 => tb σ H1 fun y H2 => r x y H2 fun z H3 => ∃ k, z = .bl k ∧
  (if k = true then tc σ H3 fun w' H4 => r' y w' H4 fun z2 H5 => ∃ k2, z2 = .bl k2 ∧ (if k2 = true then td σ H5 fun w2 H6 => r'' w' w2 H6 Q else Q (.bl false) H5) else Q (.bl false) H3)
section
variable {X : Cx} {a b c d : Expr} {ta tb tc td : TE} {pos : Pos}
theorem pt_chain3 {op op' op'' : CmpOp} {r r' r'' : R2} (ho : OpR X (compareOp op) r) (ho' : OpR X (compareOp op') r') (ho'' : OpR X (compareOp op'') r'') (ha : PE X a ta) (hb : PE X b tb) (hc : PE X c tc) (hd : PE X d td)
    (hm : lastMarks [op, op', op''] [b, c, d] = false := by with_unfolding_all rfl) : PT X (.Compare a [op, op', op''] [b, c, d] pos) (tTest (tChain3 r r' r'' ta tb tc td)) := by
  refine ⟨fun pins s σ H Q I h => ?_⟩
  refine isTrue_chain (thn (ha.run pins s σ H _ I h) fun v s1 ⟨x, H1, I1, r1, q1⟩ => test_link (thn (hb.run pins s1 σ H1 _ I1 q1) fun u s2 ⟨y, H2, I2, r2, q2⟩ =>
    thn (ho pins s2 σ H2 x y v u _ I2 r1 r2 q2) fun d s3 ⟨z, H3, I3, r3, k, e, q3⟩ => ?_)) hm
  subst e
  cases r3
  refine wpAny_truthy_bool ?_
  cases k with
  | false =>
    obtain ⟨k', e', q'⟩ := q3
    cases e'
    exact ite_ff ⟨H3, I3, q'⟩
  | true =>
    refine ite_tt (test_link (thn (hc.run pins s3 σ H3 _ I3 q3) fun w' s4 ⟨z', H4, I4, r4, q4⟩ => thn (ho' pins s4 σ H4 y z' u w' _ I4 r2 r4 q4) fun d' s5 ⟨z2, H5, I5, r5, k2, e2, q5⟩ => ?_))
    subst e2
    cases r5
    refine wpAny_truthy_bool ?_
    cases k2 with
    | false =>
      obtain ⟨k', e', q'⟩ := q5
      cases e'
      exact ite_ff ⟨H5, I5, q'⟩
    | true =>
      refine ite_tt (test_last (thn (hd.run pins s5 σ H5 _ I5 q5) fun w2 s6 ⟨z3, H6, I6, r6, q6⟩ => thn (ho'' pins s6 σ H6 z' z3 w' w2 _ I6 r4 r6 q6) fun d3 s7 ⟨z4, H7, I7, r7, k3, e3, q7⟩ => ?_))
      subst e3
      cases r7
      exact wpAny_truthy_bool ⟨H7, I7, q7⟩
end
/-! ### C.m(..) where m is a plain function of the class -/
structure CFn (K : PySem.W.Frag) (C : Addr) (mc : Value) (m : Str) (g : Addr) : Prop where
  at_ : PySem.W.findCls K (.ref C) mc m = some (.val (.ref g))
  kp : PySem.W.keepIn K (.ref g) = true
section
variable {X : Cx} {CX : CXT} {k : Nat} {C g : Addr} {mc : Value} {fd : FuncData} {ps : List Str} {sp : Sp} {E : XK} {o e : Expr} {es : List Expr} {m : Str} {pos apos : Pos} {ta : TE} {t : TA} {pl : Sem Bool}
theorem pe_clsfn (he : PE X o ta) (r : ClX.CRead X.K C mc) (c : CFn X.K C mc m g) (F : FnOk X.prog X.w X.K X.mg X.base CX k g fd ps sp) (hr : Room k X.A) (hb : Binds X.K fd ps []) (hx : Passes CX X E) (ha : PA X (e :: es) t)
    (hst : starEach (e :: es) X.env = (false, eval e X.env) :: starEach es X.env := by rfl) (hpl : (backTo pos (starEach es X.env)).any (·.1) = false := by rfl)
    (ht : eval (.Call (.Attribute o m apos) (e :: es) [] pos) X.env = (do
      let ov ← eval o X.env
      standAt apos.atName
      let (f, first) ← holding [ov] (getMethod ov m pl)
      callWith pos f first (backTo pos (starEach (e :: es) X.env)) (backToKw pos (keywordEach [] X.env))) := by rfl) :
    PE X (.Call (.Attribute o m apos) (e :: es) [] pos) (tStat C sp E ta t) := by
  refine ⟨fun pins s σ H Q I h => ?_⟩
  refine PySem.W.methodCall_KW (pl := pl) (thn (he.run pins s σ H _ I h) fun u s1 ⟨x, H1, I1, rx, ex, q⟩ => ?_) ht
  subst ex
  obtain rfl : u = Value.ref C := rx
  refine PySem.W.method_cls I1.kIn r.ga (PySem.W.cls_value I1.kIn r.rd c.at_ rfl ?_)
  have I2 : Inv X pins σ H1 { s1 with toks := s1.toks + 1 } := I1.tok _
  refine PySem.W.callWith_K (h₀ := X.base) I2.ok.mod.kin c.kp (thn (ha.run pos pins _ σ H1 _ I2 q) fun us s3 ⟨vs, H2, I3, rv, q2⟩ => ⟨I3.kIn, ?_⟩) hst hpl
  exact run_fn F hr hb .nil hx I3 rv (by rw [List.append_nil]; exact q2)
end
/-! ### or, the first of them None -/
def tOrN (ta tb : TE) : TE := fun σ H Q => ta σ H fun x H1 => x = .non ∧ tb σ H1 Q
theorem pe_orN {X : Cx} {a b : Expr} {rest : List Expr} {ta tb : TE} {pos : Pos} (ha : PE X a ta) (hb : PE X (.BoolOp .Or (b :: rest) pos) tb) : PE X (.BoolOp .Or (a :: b :: rest) pos) (tOrN ta tb) := by
  refine ⟨fun pins s σ H Q I h => ?_⟩
  refine BoolOp_or (thn (ha.run pins s σ H _ I h) fun v s1 ⟨x, H1, I1, r1, q1⟩ => ?_)
  obtain ⟨rfl, q1⟩ := q1
  cases r1
  exact PyProof.Rows.truthy_none (hb.run pins s1 σ H1 Q I1 q1)
end Kx
end
section
set_option maxHeartbeats 4000000
namespace Kx
open PySem PySem.Spec PyProof.Rows L2 RZ
/-- what putting one behind another may take -/
def MulOk (qs rs : List Rat) : Prop := ∃ L B M Z : Nat, SmL L ∧ B ≤ 100000 ∧ SmL M ∧ Z ≤ 100000 ∧ AllD L B qs ∧ PowD M Z rs
/-! ### cut, scaling -/
def spCcO : Sp := fun vs H Q _ => ∃ n m : Nat, vs = [.int (n : Nat), .int (m : Nat)] ∧ 2 ≤ m ∧ m ≤ n ∧ n ≤ 24 ∧ Q .non H
def spCutO (K : PySem.W.Frag) (S : Addr) : Sp := fun vs H Q _ => ∃ (x : V) (qs : List Rat) (m : Nat), vs = [x, .int (m : Nat)] ∧ StAt K S H x qs ∧ 2 ≤ m ∧ m ≤ qs.length ∧ GivesF K S H Q (qs.take m)
def spCkN (K : PySem.W.Frag) : Sp := fun vs H Q _ => ∃ (v : V) (q : Rat), vs = [v] ∧ Nq K H v q ∧ Q .non H
def spScl (K : PySem.W.Frag) (S : Addr) : Sp := fun vs H Q _ => ∃ (v : V) (q : Rat) (n : Nat), vs = [v, .int (n : Nat)] ∧ Nq K H v q ∧ 2 ≤ n ∧ n ≤ 24 ∧ GivesF K S H Q (q :: List.replicate (n - 1) 0)
section
variable {P : Program} {w : World} {K : PySem.W.Frag} {mg : Str → Option Value} {base : Heap} {f C S CF CO CU o0 : Addr} {fd : FuncData} {H : Hp}
theorem rd_sm {vx vy : V} {qs rs : List Rat} {E : XK} {R : VK} (hX : StAt K S H vx qs) (hY : StAt K S H vy rs) (le : qs.length = rs.length) (m : MulOk qs rs) (q : GivesF K S H R (cmpL qs rs)) : rBin S (spOpS K S CU) E vx vy H R := by
  obtain ⟨x, dx, _, _, _, _, _, ex, hx, _⟩ := id hX
  obtain ⟨y, dy, _, _, _, _, _, ey, hy, _⟩ := id hY
  obtain ⟨L, B, M, Z, sL, lB, sM, lZ, zq, zr⟩ := m
  exact ⟨x, y, dx, dy, _, _, ex, ey, hx, hy, vx, vy, qs, rs, rfl, hX, hY, fun n => absurd le n, fun _ => ⟨L, B, M, Z, sL, lB, sM, lZ, zq, zr, q⟩⟩
theorem scCcO : FnScope ["have", "wanted"] ["have", "wanted"] (defScope F_check_cut) := ⟨rfl, rfl, rfl, by decide +kernel, rfl, by decide +kernel, by decide +kernel⟩
theorem ok_ccutO (G : Fun K "check_cut" "check_cut" F_check_cut f fd) (UC : Use P w K mg base (L2.CX P w) 3 "check_order" ["order"] (spCo K CO) []) : FnOk P w K mg base (L2.CX P w) 4 f fd ["have", "wanted"] spCcO := by
  refine G.okX scCcO (fun vs H Q E h => ?_) (fun cdv A outer s H vs Q E hr h => ?_)
  · obtain ⟨n, m, rfl, _⟩ := h
    rfl
  obtain ⟨n, m, rfl, m2, mn, n24, q⟩ := h
  refine ⟨_, pss_cons (ps_expr (pe_use (E := E) UC hr rfl (passes_call (takes_of rfl rfl rfl rfl) (fun _ _ _ _ h => h)) (pa_cons (pv 1) pa_nil)))
    (pss_one (ps_if (pt_cmpR op_gt (pv 1) (pv 0) (nomark _)) (pss_one ps_never) pss_nil)), ?_⟩
  refine ⟨_, rfl, .int (m : Nat), true, rfl, .yes (by omega) (by omega), fun _ => ?_, fun z => Bool.noConfusion z⟩
  refine ⟨_, rfl, _, rfl, m, n, rfl, rfl, _, rfl, ?_⟩
  rw [decide_eq_false (by omega)]
  exact iteF q
theorem scCuO : FnScope ["self", "order"] ["self", "order"] (defScope C_Step_cut) := ⟨rfl, rfl, rfl, by decide +kernel, rfl, by decide +kernel, by decide +kernel⟩
theorem ok_cutO (G : Fun K "cut" "Step.cut" C_Step_cut f fd) (k : StepK P w K mg base C S CF CO) (UC : Use P w K mg base (L2.CX P w) 4 "check_cut" ["have", "wanted"] spCcO []) : FnOk P w K mg base (L2.CX P w) 8 f fd ["self", "order"] (spCutO K S) := by
  refine G.okX scCuO (fun vs H Q E h => ?_) (fun cdv A outer s H vs Q E hr h => ?_)
  · obtain ⟨x, qs, m, rfl, _⟩ := h
    rfl
  obtain ⟨v, qs, m, rfl, hR, m2, mn, q⟩ := h
  obtain ⟨x, dx, b, xs, fs, rfl, hx, hb, nx, f1, f2, l2, l24⟩ := hR.num
  obtain ⟨fI, fdI, M, FI, bI⟩ := k.ini
  refine ⟨_, pss_cons (ps_expr (pe_use (E := E) UC (hr.mono (by decide)) rfl (passes_call (takes_of rfl rfl rfl rfl) (fun _ _ _ _ h => h)) (pa_cons (pe_fld (pv 0) rfl) (pa_cons (pv 1) pa_nil))))
    (pss_one (ps_ret (pe_make (E := E) M FI hr rfl k.m bI .nil (passes_call (takes_of rfl rfl rfl rfl) (fun _ _ _ _ h => h)) (pa_cons (pe_slice sl_list (pe_fld (pv 0) rfl) po_none (po_some (pv 1))) pa_nil)))), ?_⟩
  refine ⟨_, rfl, x, S, dx, _, _, rfl, hx, k.c, k.nA _ (by simp [stN]), f2, _, rfl, qs.length, m, rfl, m2, mn, l24, ?_⟩
  refine ⟨_, rfl, x, S, dx, _, _, rfl, hx, k.c, k.nA _ (by simp [stN]), f1, _, rfl, (m : Nat), rfl, b, xs, rfl, SqL.of hb, fun p np => ?_⟩
  rw [show cutV xs none (some ((m : Nat) : Int)) = xs.take m from cut_take xs m]
  have s1 := new_same np (.lst (xs.take m))
  exact step_new s1 (.inl upd_same) ((nx.take _).same s1) (by rw [List.length_take]; omega) (by rw [List.length_take]; omega) q
theorem scCkN : FnScope ["value"] ["value"] (defScope F_check_number) := ⟨rfl, rfl, rfl, by decide +kernel, rfl, by decide +kernel, by decide +kernel⟩
theorem ok_cnum (G : Fun K "check_number" "check_number" F_check_number f fd) (UF : Use P w K mg base CX0 2 "is_fraction" ["value"] (spIsG K) []) : FnOk P w K mg base CX0 3 f fd ["value"] (spCkN K) := by
  refine G.ok scCkN (fun vs H Q E h => ?_) (fun cdv A outer s H vs Q E hr h => ?_)
  · obtain ⟨v, q, rfl, _⟩ := h
    rfl
  obtain ⟨v, q, rfl, hv, qq⟩ := h
  refine ⟨_, pss_one (ps_if (pt_not (pt_val (pe_use UF hr rfl pass0 (pa_cons (pv 0) pa_nil)))) (pss_one ps_never) pss_nil), ?_⟩
  exact ⟨_, rfl, v, true, rfl, hv.isG, _, rfl, iteF qq⟩
theorem scScO : FnScope ["lead", "order"] ["lead", "order"] (defScope C_Step_scaling) := ⟨rfl, rfl, rfl, by decide +kernel, rfl, by decide +kernel, by decide +kernel⟩
theorem ok_sclO (G : Fun K "scaling" "Step.scaling" C_Step_scaling f fd) (k : StepK P w K mg base C S CF CO) (k0 : KP K o0 0 1) (mZ : mg "ZERO" = some (.ref o0)) (UK : Use P w K mg base CX0 3 "check_number" ["value"] (spCkN K) []) (UC : Use P w K mg base (L2.CX P w) 3 "check_order" ["order"] (spCo K CO) []) :
    FnOk P w K mg base (L2.CX P w) 8 f fd ["lead", "order"] (spScl K S) := by
  refine G.okX scScO (fun vs H Q E h => ?_) (fun cdv A outer s H vs Q E hr h => ?_)
  · obtain ⟨v, q, n, rfl, _⟩ := h
    rfl
  obtain ⟨v, q, n, rfl, nq, n2, n24, g⟩ := h
  obtain ⟨fI, fdI, M, FI, bI⟩ := k.ini
  have hr3 := hr.mono (show 3 ≤ 7 by decide)
  refine ⟨_, pss_cons (ps_expr (pe_use UK hr3 rfl pass0 (pa_cons (pv 0) pa_nil)))
    (pss_cons (ps_expr (pe_use (E := E) UC hr3 rfl (passes_call (takes_of rfl rfl rfl rfl) (fun _ _ _ _ h => h)) (pa_cons (pv 1) pa_nil)))
    (pss_one (ps_ret (pe_make (E := E) M FI hr rfl k.m bI .nil (passes_call (takes_of rfl rfl rfl rfl) (fun _ _ _ _ h => h)) (pa_cons (pe_op op_cat (pe_lst (pa_cons (pv 0) pa_nil)) (pe_op op_rep (pe_lst (pa_cons (C8.pe_gc (v := .ref o0) rfl ⟨_, mZ, rfl⟩) pa_nil)) (pe_op op_sub (pv 1) pe_int))) pa_nil))))), ?_⟩
  refine ⟨_, rfl, v, q, rfl, nq, ?_⟩
  refine ⟨_, rfl, .int (n : Nat), true, rfl, .yes (by omega) (by omega), fun _ => ?_, fun z => Bool.noConfusion z⟩
  refine ⟨_, rfl, (by show 1 ≤ sizeLine; decide), fun a na => ⟨(by show 1 ≤ sizeLine; decide), fun b nb => ⟨_, rfl, (n : Int), 1, rfl, rfl, b, (n : Int) - 1, [.ref o0], rfl, rfl, upd_same, by omega, by omega, (by show 1 * _ ≤ sizeLine; exact Nat.le_of_lt (small1000 (by omega))), fun c nc => ?_⟩⟩⟩
  have rep : (List.replicate ((n : Int) - 1).toNat [V.ref o0]).flatten = List.replicate (n - 1) (.ref o0) := by
    rw [List.flatten_replicate_singleton]
    congr 1
    omega
  rw [rep]
  refine ⟨a, c, _, _, rfl, rfl, new_same nc _ _ _ (new_same nb _ _ _ upd_same), upd_same, Nat.le_of_lt (small1000 (by rw [List.length_replicate]; show 1 + _ ≤ _; omega)), fun d nd => ?_⟩
  have s4 := ((new_same na (.lst [v])).trans ((new_same nb (.lst [V.ref o0])).trans ((new_same nc (.lst (List.replicate (n - 1) (V.ref o0)))).trans (new_same nd (.lst ([v] ++ List.replicate (n - 1) (V.ref o0)))))))
  exact step_new s4 (.inl upd_same) (Nl.cons (nq.same s4) (zeros ⟨o0, rfl, .inr k0⟩ _)) (by rw [List.length_cons, List.length_replicate]; omega) (by rw [List.length_cons, List.length_replicate]; omega) g
end
end Kx
end
section
set_option maxHeartbeats 4000000
namespace Kx
open PySem PySem.Spec PyProof.Rows L2 RZ
/-! ### papers and partings -/
def ptN : List Str := ["title", "step", "pure", "slow", "straightener"]
def ptF (a b c d : V) : List (Str × V) := [("title", .str "parting"), ("step", a), ("pure", b), ("slow", c), ("straightener", d)]
def PtAt (PT : Addr) (H : Hp) (v a b c d : V) : Prop := ∃ x dx, v = .ref x ∧ H x = some (.ins PT dx (ptF a b c d))
theorem PtAt.same {PT : Addr} {H H' : Hp} {v a b c d : V} (h : PtAt PT H v a b c d) (s : Same H H') : PtAt PT H' v a b c d := by
  obtain ⟨x, dx, e, hx⟩ := h
  exact ⟨x, dx, e, s _ _ hx⟩
def spPaI (PT : Addr) : Sp := fun vs H Q _ => ∃ (x dx : Addr) (t : Str), vs = [.ref x, .str t] ∧ H x = some (.ins PT dx []) ∧ Q .non (upd H x (.ins PT dx [("title", .str t)]))
def spPtI (PT : Addr) : Sp := fun vs H Q _ => ∃ (x dx : Addr) (a b c d : V), vs = [.ref x, a, b, c, d] ∧ H x = some (.ins PT dx []) ∧ ∀ H', But x H H' → H' x = some (.ins PT dx (ptF a b c d)) → Q .non H'
def spUnq (K : PySem.W.Frag) (S : Addr) : Sp := fun vs H Q _ => ∃ (c : Int) (x y : V) (qs : List Rat), vs = [.int c, x, y] ∧ StAt K S H x qs ∧ StAt K S H y qs ∧ ∀ H', Same H H' → Q .non H'
/-- the numbers of a scaling -/
def scL (n : Nat) (q : Rat) : List Rat := q :: List.replicate (n - 1) 0
/-- what a parting that is right wants -/
structure WrOk (f p s h : List Rat) : Prop where
  lp : p.length = f.length
  ls : s.length = f.length
  lh : h.length = f.length
  s1 : serS s 1 = 1
  h1 : serS h 1 ≠ 0
  ps : cmpL p s = f
  sp : cmpL s p = f
  hp : cmpL h p = cmpL (scL f.length (serS p 1)) h
  m1 : MulOk p s
  m2 : MulOk s p
  m3 : MulOk h p
  m4 : MulOk (scL f.length (serS p 1)) h
def spWrg (K : PySem.W.Frag) (S PT : Addr) : Sp := fun vs H Q _ => ∃ (v a b c d : V) (f p s h : List Rat), vs = [v] ∧ PtAt PT H v a b c d ∧ StAt K S H a f ∧ StAt K S H b p ∧ StAt K S H c s ∧ StAt K S H d h ∧ WrOk f p s h ∧ ∀ H', Same H H' → Q .non H'
/-- the class of the partings -/
structure PtK (P : Program) (w : World) (K : PySem.W.Frag) (mg : Str → Option Value) (base : Heap) (PT : Addr) : Prop where
  c : Cls K PT
  nA : ∀ n ∈ ptN, NoAttr K PT n
  m : mg "Parting" = some (.ref PT)
/-- what is called by the class of the steps -/
structure StcK (P : Program) (w : World) (K : PySem.W.Frag) (mg : Str → Option Value) (base : Heap) (S : Addr) : Prop where
  rd : ClX.CRead K S (.type "type")
  still : ∃ p g fd, CSta K S (.type "type") "still" p g ∧ FnOk P w K mg base (L2.CX P w) 8 g fd ["order"] (spStil K S) ∧ Binds K fd ["order"] []
  scal : ∃ p g fd, CSta K S (.type "type") "scaling" p g ∧ FnOk P w K mg base (L2.CX P w) 8 g fd ["lead", "order"] (spScl K S) ∧ Binds K fd ["lead", "order"] []
section
variable {P : Program} {w : World} {K : PySem.W.Frag} {mg : Str → Option Value} {base : Heap} {f C S PT PA CF CO CU o0 o1 : Addr} {fd : FuncData} {H : Hp}
theorem StAt.ord {v : V} {qs : List Rat} (h : StAt K S H v qs) (k : StepK P w K mg base C S CF CO) : At K H v "order" (.int (qs.length : Int)) := by
  obtain ⟨y, dy, _, _, gs, ey, hy, _, _, _, g2⟩ := h.nb
  exact ⟨y, S, dy, gs, ey, hy, k.c, k.nA _ (by simp [stN]), g2⟩
theorem StAt.lead {v : V} {qs : List Rat} (h : StAt K S H v qs) (k : StepK P w K mg base C S CF CO) : ∃ x0, At K H v "lead" x0 ∧ Nq K H x0 (serS qs 1) := by
  obtain ⟨y, dy, fs, x0, ey, hy, fl, nq, _⟩ := h.ld
  exact ⟨x0, ⟨y, S, dy, fs, ey, hy, k.c, k.nA _ (by simp [stN]), fl⟩, nq⟩
theorem scPaI : FnScope ["self", "title"] ["self", "title"] (defScope C_Paper_init) := ⟨rfl, rfl, rfl, by decide +kernel, rfl, by decide +kernel, by decide +kernel⟩
theorem ok_painit (F : Fun K "__init__" "Paper.__init__" C_Paper_init f fd) (k : PtK P w K mg base PT) : FnOk P w K mg base CX0 1 f fd ["self", "title"] (spPaI PT) := by
  refine F.ok scPaI (fun vs H Q E h => ?_) (fun cdv A outer s H vs Q E hr h => ?_)
  · obtain ⟨x, dx, t, rfl, _⟩ := h
    rfl
  obtain ⟨x, dx, t, rfl, hx, q⟩ := h
  refine ⟨_, pss_one (ps_fld (pv 0) (pv 1) rfl), ?_⟩
  exact ⟨_, rfl, _, rfl, x, PT, dx, _, rfl, hx, k.c, k.nA _ (by simp [ptN]), (by show 0 < 1000; decide), q⟩
theorem scPtI : FnScope ["self", "step", "pure", "slow", "straightener"] ["self", "step", "pure", "slow", "straightener"] (defScope C_Parting_init) := ⟨rfl, rfl, rfl, by decide +kernel, rfl, by decide +kernel, by decide +kernel⟩
theorem ok_ptinit {gA : Addr} {fdA : FuncData} (F : Fun K "__init__" "Parting.__init__" C_Parting_init f fd) (k : PtK P w K mg base PT) (mPA : mg "Paper" = some (.ref PA)) (rA : ClX.CRead K PA (.type "type")) (cA : CFn K PA (.type "type") "__init__" gA) (FA : FnOk P w K mg base CX0 1 gA fdA ["self", "title"] (spPaI PT)) (bA : Binds K fdA ["self", "title"] []) :
    FnOk P w K mg base CX0 2 f fd ["self", "step", "pure", "slow", "straightener"] (spPtI PT) := by
  refine F.ok scPtI (fun vs H Q E h => ?_) (fun cdv A outer s H vs Q E hr h => ?_)
  · obtain ⟨x, dx, a, b, c, d, rfl, _⟩ := h
    rfl
  obtain ⟨x, dx, a, b, c, d, rfl, hx, q⟩ := h
  refine ⟨_, pss_cons (ps_expr (pe_clsfn (C8.pe_gc (v := .ref PA) rfl ⟨_, mPA, rfl⟩) rA cA FA hr bA pass0 (pa_cons (pv 0) (pa_cons pe_str pa_nil))))
    (pss_cons (ps_fld (pv 0) (pv 1) rfl) (pss_cons (ps_fld (pv 0) (pv 2) rfl) (pss_cons (ps_fld (pv 0) (pv 3) rfl) (pss_one (ps_fld (pv 0) (pv 4) rfl))))), ?_⟩
  refine ⟨rfl, _, rfl, x, dx, _, rfl, hx, ?_⟩
  refine ⟨_, rfl, _, rfl, x, PT, dx, _, rfl, upd_same, k.c, k.nA _ (by simp [ptN]), (by show 1 < 1000; decide), ?_⟩
  refine ⟨_, rfl, _, rfl, x, PT, dx, _, rfl, upd_same, k.c, k.nA _ (by simp [ptN]), (by show 2 < 1000; decide), ?_⟩
  refine ⟨_, rfl, _, rfl, x, PT, dx, _, rfl, upd_same, k.c, k.nA _ (by simp [ptN]), (by show 3 < 1000; decide), ?_⟩
  refine ⟨_, rfl, _, rfl, x, PT, dx, _, rfl, upd_same, k.c, k.nA _ (by simp [ptN]), (by show 4 < 1000; decide), ?_⟩
  exact q _ (fun e o n h => by rw [upd_ne n, upd_ne n, upd_ne n, upd_ne n, upd_ne n]; exact h) upd_same
theorem scUnq : FnScope ["check", "one", "other", "place"] ["check", "one", "other"] (defScope F_unequal_sides) := ⟨rfl, rfl, rfl, by decide +kernel, rfl, by decide +kernel, by decide +kernel⟩
theorem ok_unq (G : Fun K "unequal_sides" "unequal_sides" F_unequal_sides f fd) (UF : Use P w K mg base (L2.CX P w) 4 "first_difference" ["one", "other"] (spFd K S CU) []) : FnOk P w K mg base (L2.CX P w) 5 f fd ["check", "one", "other"] (spUnq K S) := by
  refine G.okX scUnq (fun vs H Q E h => ?_) (fun cdv A outer s H vs Q E hr h => ?_)
  · obtain ⟨c, x, y, qs, rfl, _⟩ := h
    rfl
  obtain ⟨c, x, y, qs, rfl, hX, hY, q⟩ := h
  refine ⟨_, pss_cons (ps_set (i := 3) scUnq.nd rfl (Or.inl rfl) (pe_use (E := E) UF hr rfl (passes_call (takes_of rfl rfl rfl rfl) (fun _ _ _ _ h => h)) (pa_cons (pv 1) (pa_cons (pv 2) pa_nil))))
    (pss_one (ps_ret (pe_ifExp (pt_cmpR op_isN (pv 3) pe_non (nomark _)) pe_non (pe_tup (pa_cons (pv 0) (pa_cons (pv 3) pa_nil)))))), ?_⟩
  refine ⟨_, rfl, _, rfl, x, y, qs, qs, rfl, hX, hY, fun z => absurd rfl z, fun _ H' s' => ?_⟩
  have e : difV qs qs = .non := by
    unfold difV
    rw [difN_same qs qs 0 rfl]
  rw [e]
  refine ⟨_, rfl, rfl, _, rfl, iteT ?_⟩
  exact q H' s'
theorem scWrg : FnScope ["self", "step", "pure", "slow", "straightener", "straight"] ["self"] (defScope C_Parting_wrong) := ⟨rfl, rfl, rfl, by decide +kernel, rfl, by decide +kernel, by decide +kernel⟩
theorem ok_wrg (G : Fun K "wrong" "Parting.wrong" C_Parting_wrong f fd) (kp : PtK P w K mg base PT) (k : StepK P w K mg base C S CF CO) (kc : StcK P w K mg base S) (k0 : KP K o0 0 1) (k1 : KP K o1 1 1) (mZ : mg "ZERO" = some (.ref o0)) (mO : mg "ONE" = some (.ref o1))
    (OM' : OpM P w K mg base (L2.CX P w) 8 S "__mul__" (spOpS K S CU)) (UU : Use P w K mg base (L2.CX P w) 5 "unequal_sides" ["check", "one", "other"] (spUnq K S) []) : FnOk P w K mg base (L2.CX P w) 9 f fd ["self"] (spWrg K S PT) := by
  refine G.okX scWrg (fun vs H Q E h => ?_) (fun cdv A outer s H vs Q E hr h => ?_)
  · obtain ⟨v, a, b, c, d, ff, pp, uu, hh, rfl, _⟩ := h
    rfl
  obtain ⟨v, a, b, c, d, ff, pp, uu, hh, rfl, hP, hA, hB, hC, hD, wo, q⟩ := h
  obtain ⟨x, dx, rfl, hx⟩ := id hP
  have hr5 := hr.mono (show 5 ≤ 8 by decide)
  obtain ⟨sp, sg, sfd, cS, FS, bS⟩ := kc.scal
  refine ⟨_, (C8.pss_cut (ps_asg (pe_tup (pa_cons (pe_fld (pv 0) rfl) (pa_cons (pe_fld (pv 0) rfl) (pa_cons (pe_fld (pv 0) rfl) (pa_cons (pe_fld (pv 0) rfl) pa_nil))))) (pg_tup rfl (pgs_cons (pg_name (i := 1) scWrg.nd rfl (Or.inl rfl)) (pgs_cons (pg_name (i := 2) scWrg.nd rfl (Or.inl rfl)) (pgs_cons (pg_name (i := 3) scWrg.nd rfl (Or.inl rfl)) (pgs_cons (pg_name (i := 4) scWrg.nd rfl (Or.inl rfl)) pgs_nil))))))
    (C8.pss_cut (ps_if (pt_not (pt_chain3 op_eq op_eq op_eq (pe_fld (pv 1) rfl) (pe_fld (pv 2) rfl) (pe_fld (pv 3) rfl) (pe_fld (pv 4) rfl))) (pss_one ps_never) pss_nil)
    (C8.pss_cut (ps_if (pt_cmpR (op_neD hr.units) (pe_fld (pv 3) rfl) (C8.pe_gc (v := .ref o1) rfl ⟨_, mO, rfl⟩) (nomark _)) (pss_one ps_never) pss_nil)
    (C8.pss_cut (ps_if (pt_cmpR (op_eqD hr.units) (pe_fld (pv 4) rfl) (C8.pe_gc (v := .ref o0) rfl ⟨_, mZ, rfl⟩) (nomark _)) (pss_one ps_never) pss_nil)
    (C8.pss_cut (ps_set (i := 5) scWrg.nd rfl (Or.inl rfl) (pe_static (E := E) (C8.pe_gc (v := .ref S) rfl ⟨_, k.m, rfl⟩) kc.rd cS FS hr bS (passes_call (takes_of rfl rfl rfl rfl) (fun _ _ _ _ h => h)) (pa_cons (pe_fld (pv 2) rfl) (pa_cons (pe_fld (pv 1) rfl) pa_nil))))
    (pss_one (ps_ret (pe_orN (pe_use (E := E) UU hr5 rfl (passes_call (takes_of rfl rfl rfl rfl) (fun _ _ _ _ h => h)) (pa_cons pe_int (pa_cons (pe_op (op_bin (E := E) OM' rfl hr (passes_call (takes_of rfl rfl rfl rfl) (fun _ _ _ _ h => h))) (pv 2) (pv 3)) (pa_cons (pv 1) pa_nil))))
      (pe_orN (pe_use (E := E) UU hr5 rfl (passes_call (takes_of rfl rfl rfl rfl) (fun _ _ _ _ h => h)) (pa_cons pe_int (pa_cons (pe_op (op_bin (E := E) OM' rfl hr (passes_call (takes_of rfl rfl rfl rfl) (fun _ _ _ _ h => h))) (pv 3) (pv 2)) (pa_cons (pv 1) pa_nil))))
      (pe_one (pe_use (E := E) UU hr5 rfl (passes_call (takes_of rfl rfl rfl rfl) (fun _ _ _ _ h => h)) (pa_cons pe_int (pa_cons (pe_op (op_bin (E := E) OM' rfl hr (passes_call (takes_of rfl rfl rfl rfl) (fun _ _ _ _ h => h))) (pv 4) (pv 2)) (pa_cons (pe_op (op_bin (E := E) OM' rfl hr (passes_call (takes_of rfl rfl rfl rfl) (fun _ _ _ _ h => h))) (pv 5) (pv 4)) pa_nil)))))))))))))), ?_⟩
  obtain ⟨fa, da, a0, ga, rfl, ha, fla, nqa, _⟩ := hA.ld
  obtain ⟨lp, ls, lh, s1, h1, eps, esp, ehp, m1, m2, m3, m4⟩ := wo
  have oA := hA.ord k
  have oB := hB.ord k
  have oC := hC.ord k
  have oD := hD.ord k
  refine ⟨fun σ G => Same H G ∧ σ = [some (.ref x), some (.ref fa), some b, some c, some d, none], ?_, ?_⟩
  · refine ⟨_, rfl, x, PT, dx, _, _, rfl, hx, kp.c, kp.nA _ (by simp [ptN]), rfl, _, rfl, x, PT, dx, _, _, rfl, hx, kp.c, kp.nA _ (by simp [ptN]), rfl, _, rfl, x, PT, dx, _, _, rfl, hx, kp.c, kp.nA _ (by simp [ptN]), rfl, _, rfl, x, PT, dx, _, _, rfl, hx, kp.c, kp.nA _ (by simp [ptN]), rfl, (by show 4 ≤ sizeLine; decide), fun t nt => ?_⟩
    exact ⟨t, [_, _, _, _], rfl, SqT.of upd_same, rfl, _, [_, _, _], rfl, _, [_, _], rfl, _, [_], rfl, _, [], rfl, rfl, new_same nt _, rfl⟩
  rintro σ G ⟨s, rfl⟩
  refine ⟨fun σ G => Same H G ∧ σ = [some (.ref x), some (.ref fa), some b, some c, some d, none], ?_, ?_⟩
  · obtain ⟨ea, Ca, dxa, fsa, e1, h1', c1, n1, l1⟩ := oA
    obtain ⟨eb, Cb, dxb, fsb, rfl, h2', c2, n2, l2⟩ := oB
    obtain ⟨ec, Cc, dxc, fsc, rfl, h3', c3, n3, l3⟩ := oC
    obtain ⟨ed, Cd, dxd, fsd, rfl, h4', c4, n4, l4⟩ := oD
    refine ⟨_, rfl, ea, Ca, dxa, _, _, e1, s _ _ h1', c1, n1, l1, _, rfl, eb, Cb, dxb, _, _, rfl, s _ _ h2', c2, n2, l2, ?_⟩
    refine ⟨rfl, _, rfl, ?_⟩
    rw [decide_eq_true (show V.int (ff.length : Int) = V.int (pp.length : Int) by rw [lp])]
    refine iteT ⟨_, rfl, ec, Cc, dxc, _, _, rfl, s _ _ h3', c3, n3, l3, rfl, _, rfl, ?_⟩
    rw [decide_eq_true (show V.int (pp.length : Int) = V.int (uu.length : Int) by rw [lp, ls])]
    refine iteT ⟨_, rfl, ed, Cd, dxd, _, _, rfl, s _ _ h4', c4, n4, l4, rfl, _, rfl, ?_⟩
    rw [decide_eq_true (show V.int (uu.length : Int) = V.int (hh.length : Int) by rw [ls, lh])]
    exact iteF ⟨s, rfl⟩
  clear s
  rintro σ G ⟨s, rfl⟩
  refine ⟨fun σ G => Same H G ∧ σ = [some (.ref x), some (.ref fa), some b, some c, some d, none], ?_, ?_⟩
  · obtain ⟨x0, ⟨ec, Cc, dxc, fsc, rfl, h3', c3, n3, l3⟩, nq⟩ := (hC.same s).lead k
    refine ⟨_, rfl, ec, Cc, dxc, _, _, rfl, h3', c3, n3, l3, tupQ (serS uu 1), tupQ 1, nq.dp, k1.dp _, rfl, rfl, _, rfl, ?_⟩
    rw [eqv_num, decide_eq_true s1]
    exact iteF ⟨s, rfl⟩
  clear s
  rintro σ G ⟨s, rfl⟩
  refine ⟨fun σ G => Same H G ∧ σ = [some (.ref x), some (.ref fa), some b, some c, some d, none], ?_, ?_⟩
  · obtain ⟨x0, ⟨ec, Cc, dxc, fsc, rfl, h3', c3, n3, l3⟩, nq⟩ := (hD.same s).lead k
    refine ⟨_, rfl, ec, Cc, dxc, _, _, rfl, h3', c3, n3, l3, tupQ (serS hh 1), tupQ 0, nq.dp, k0.dp _, rfl, rfl, _, rfl, ?_⟩
    rw [eqv_num, decide_eq_false h1]
    exact iteF ⟨s, rfl⟩
  clear s
  rintro σ G ⟨s, rfl⟩
  obtain ⟨l2, l24⟩ := hA.le
  refine ⟨fun σ G => Same H G ∧ ∃ e, σ = [some (.ref x), some (.ref fa), some b, some c, some d, some e] ∧ StAt K S G e (scL ff.length (serS pp 1)), ?_, ?_⟩
  · obtain ⟨x0, ⟨eb, Cb, dxb, fsb, rfl, h2', c2, n2, l2'⟩, nq⟩ := (hB.same s).lead k
    obtain ⟨ea, Ca, dxa, fsa, e1, h1', c1, n1, l1⟩ := oA
    refine ⟨rfl, _, rfl, eb, Cb, dxb, _, _, rfl, h2', c2, n2, l2', _, rfl, ea, Ca, dxa, _, _, e1, s _ _ h1', c1, n1, l1, x0, serS pp 1, ff.length, rfl, nq, l2, l24, fun G2 e s2 he => ?_⟩
    exact ⟨s.trans s2, e, rfl, he.st⟩
  clear s
  rintro σ G ⟨s, e, rfl, he⟩
  have lsc : (scL ff.length (serS pp 1)).length = ff.length := by
    unfold scL
    rw [List.length_cons, List.length_replicate]
    omega
  refine ⟨_, rfl, _, rfl, ?_⟩
  refine rd_sm (hB.same s) (hC.same s) (by rw [lp, ls]) m1 fun G1 y1 s1' hy1 => ?_
  rw [eps] at hy1
  have sA := s.trans s1'
  refine ⟨_, rfl, 3, y1, .ref fa, ff, rfl, hy1.st, hA.same sA, fun G2 s2 => ⟨rfl, ?_⟩⟩
  have sB := sA.trans s2
  refine ⟨_, rfl, _, rfl, ?_⟩
  refine rd_sm (hC.same sB) (hB.same sB) (by rw [lp, ls]) m2 fun G3 y3 s3' hy3 => ?_
  rw [esp] at hy3
  have sC := sB.trans s3'
  refine ⟨_, rfl, 4, y3, .ref fa, ff, rfl, hy3.st, hA.same sC, fun G4 s4 => ⟨rfl, ?_⟩⟩
  have sD := sC.trans s4
  refine ⟨_, rfl, _, rfl, ?_⟩
  refine rd_sm (hD.same sD) (hB.same sD) (by rw [lp, lh]) m3 fun G5 y5 s5' hy5 => ?_
  have sE := sD.trans s5'
  refine ⟨_, rfl, _, rfl, ?_⟩
  refine rd_sm (he.same ((s1'.trans s2).trans ((s3'.trans s4).trans s5'))) (hD.same sE) (by rw [lsc, lh]) m4 fun G6 y6 s6' hy6 => ?_
  rw [← ehp] at hy6
  exact ⟨5, y5, y6, _, rfl, hy5.st.same s6', hy6.st, fun G7 s7 => q G7 (sE.trans (s6'.trans s7))⟩
end
end Kx
end
section
set_option maxHeartbeats 4000000
namespace Kx
open PySem PySem.Spec PyProof.Rows L2 RZ
/-! ### pure or not, the slow part, flips made straight -/
def purB (qs : List Rat) : Bool := if kindS qs = "flip" then decide (kindS (cmpL qs qs) = "still") else decide (kindS qs = "still") || decide (kindS qs = "stretch")
def spPur (K : PySem.W.Frag) (S : Addr) : Sp := fun vs H Q _ => ∃ (v : V) (qs : List Rat), vs = [v] ∧ StAt K S H v qs ∧ (kindS qs = "flip" → MulOk qs qs) ∧ ∀ H', Same H H' → Q (.bl (purB qs)) H'
def spSlp20 (K : PySem.W.Frag) (S : Addr) : Sp := fun vs H Q _ => ∃ (v : V) (qs : List Rat), vs = [v] ∧ StAt K S H v qs ∧ (kindS qs = "stretch" → GivesF K S H Q (stL qs.length)) ∧ (kindS qs = "flip" → MulOk qs qs ∧ PwOk (cmpL qs qs) hfq ∧ serS (cmpL qs qs) 1 = 1 ∧ GivesF K S H Q (pwL (cmpL qs qs) hfq)) ∧ (kindS qs ≠ "stretch" → kindS qs ≠ "flip" → Q v H)
def spFls (K : PySem.W.Frag) (S : Addr) : Sp := fun vs H Q _ => ∃ (v : V) (qs : List Rat), vs = [v] ∧ StAt K S H v qs ∧ AllO qs ∧ AllO ((stL qs.length).zipWith (· - ·) qs) ∧ GivesF K S H Q (((stL qs.length).zipWith (· - ·) qs).map (· * hfq))
section
variable {P : Program} {w : World} {K : PySem.W.Frag} {mg : Str → Option Value} {base : Heap} {f C S PT CF CO CU CN o0 o1 : Addr} {fd : FuncData} {H : Hp}
theorem scMuO : FnScope ["numbers", "t", "number"] ["numbers", "t"] (defScope F_multiples_of) := ⟨rfl, rfl, rfl, by decide +kernel, rfl, by decide +kernel, by decide +kernel⟩
theorem ok_multiples (G : Fun K "multiples_of" "multiples_of" F_multiples_of f fd) (UM : Use P w K mg base CX0 2 "product_of" ["one", "other"] (spTwoQ K (· * ·)) []) : FnOk P w K mg base CX0 3 f fd ["numbers", "t"] (spMulsL K) := by
  refine G.ok scMuO (fun vs H Q E h => ?_) (fun cdv A outer s H vs Q E hr h => ?_)
  · obtain ⟨x, y, qs, t, rfl, _⟩ := h
    rfl
  obtain ⟨x, y, qs, t, rfl, ⟨xa, xs, rfl, hx, nx⟩, ht, l1, bq, bt, q⟩ := h
  refine ⟨_, pss_one (ps_ret (pe_lc (own := [("number", 2)]) (g := gName 2) (tt := tYes) rfl scMuO.nd (pi_list (pv 0)) (blkOk_by (N := ["numbers", "t", "number"]) (sc := defScope F_multiples_of) (by decide +kernel))
      (fun _ _ _ _ _ => pg_name (i := 2) scMuO.nd rfl (Or.inl rfl)) (fun _ _ _ _ _ => pts_nil) (fun _ _ _ _ _ => pe_use UM hr rfl pass0 (pa_cons (pv 2) (pa_cons (pv 1) pa_nil))))), ?_⟩
  refine ⟨_, rfl, xa, rfl, ⟨_, SqL.of hx⟩, fun D nD => ?_⟩
  have lx : xs.length = qs.length := nx.1
  refine lc_nums (K := K) (walk_list (K := K) (a := xa) (xs := xs)) (qs.map (· * t)) (by rw [List.length_map]; omega) nD (by omega) (fun H' s => SqL.of (s _ _ hx)) ?_ (fun H' zs s h n => q D H' zs s nD h n)
  rintro i r x H2 H3 k hq s2 ⟨rfl, hx2⟩ hk
  rw [List.getElem?_map] at hq
  obtain ⟨a, ea, rfl⟩ := Option.map_eq_some_iff.mp hq
  exact ⟨rfl, _, rfl, _, rfl, _, _, a, t, rfl, (nx.2 i x a hx2 ea).same s2, ht.same s2, bq a (List.mem_of_getElem? ea), bt, fun t' H4 s4 n4 h4 => hk _ _ s4 (.at h4)⟩
theorem ok_hfq : Ok hfq := ⟨Nat.lt_of_lt_of_le (show hfq.num.natAbs < 2 ^ 1 by decide +kernel) (Nat.pow_le_pow_right (by decide) (by decide)), Nat.lt_of_lt_of_le (show hfq.den < 2 ^ 2 by decide +kernel) (Nat.pow_le_pow_right (by decide) (by decide))⟩
theorem StAt.kd {v : V} {qs : List Rat} (h : StAt K S H v qs) (k : StepK P w K mg base C S CF CO) : At K H v "kind" (.str (kindS qs)) := by
  obtain ⟨x, dx, b, xs, x0, fv, sv, e, h1, _⟩ := h
  exact ⟨x, S, dx, _, e, h1, k.c, k.nA _ (by simp [stN]), rfl⟩
theorem scPur : FnScope ["step"] ["step"] (defScope F_is_pure) := ⟨rfl, rfl, rfl, by decide +kernel, rfl, by decide +kernel, by decide +kernel⟩
theorem ok_pur (G : Fun K "is_pure" "is_pure" F_is_pure f fd) (k : StepK P w K mg base C S CF CO) (OM' : OpM P w K mg base (L2.CX P w) 8 S "__mul__" (spOpS K S CU)) : FnOk P w K mg base (L2.CX P w) 9 f fd ["step"] (spPur K S) := by
  refine G.okX scPur (fun vs H Q E h => ?_) (fun cdv A outer s H vs Q E hr h => ?_)
  · obtain ⟨v, qs, rfl, _⟩ := h
    rfl
  obtain ⟨v, qs, rfl, hX, hm, q⟩ := h
  refine ⟨_, pss_cons (ps_if (pt_cmpR op_eq (pe_fld (pv 0) rfl) pe_str (nomark _)) (pss_one (ps_ret (pe_cmpR op_eq (pe_fld (pe_op (op_bin (E := E) OM' rfl hr (passes_call (takes_of rfl rfl rfl rfl) (fun _ _ _ _ h => h))) (pv 0) (pv 0)) rfl) pe_str (nomark _)))) pss_nil)
    (pss_one (ps_ret (pe_cmpR op_in_seq (pe_fld (pv 0) rfl) (pe_tup (pa_cons pe_str (pa_cons pe_str pa_nil))) (by rfl)))), ?_⟩
  obtain ⟨x, Cx', dx, fs, rfl, hx, cx, nx, lx⟩ := hX.kd k
  refine ⟨_, rfl, x, Cx', dx, _, _, rfl, hx, cx, nx, lx, rfl, _, rfl, ?_⟩
  by_cases c : kindS qs = "flip"
  · rw [decide_eq_true (show V.str (kindS qs) = V.str "flip" by rw [c])]
    refine iteT ⟨_, rfl, _, rfl, rd_sm hX hX rfl (hm c) fun H1 y s1 hy => ?_⟩
    obtain ⟨y', Cy, dy, gs, rfl, hy', cy, ny, ly⟩ := hy.st.kd k
    refine ⟨y', Cy, dy, _, _, rfl, hy', cy, ny, ly, rfl, ?_⟩
    have := q H1 s1
    unfold purB at this
    rw [if_pos c] at this
    have e : decide (V.str (kindS (cmpL qs qs)) = V.str "still") = decide (kindS (cmpL qs qs) = "still") := decide_eq_decide.mpr ⟨fun z => V.str.inj z, fun z => by rw [z]⟩
    rw [e]
    exact this
  · rw [decide_eq_false (show ¬ V.str (kindS qs) = V.str "flip" from fun z => c (V.str.inj z))]
    refine iteF ?_
    refine ⟨_, rfl, x, Cx', dx, _, _, rfl, hx, cx, nx, lx, (by show 2 ≤ sizeLine; decide), fun t nt => ?_⟩
    have e : inV (V.str (kindS qs)) [V.str "still", V.str "stretch"] = purB qs := by
      unfold purB
      rw [if_neg c]
      generalize kindS qs = z
      have e1 : ∀ s' : Str, eqV (V.str s') (V.str z) = decide (z = s') := fun s' => by
        show (s' == z) = _
        rw [Bool.eq_iff_iff, beq_iff_eq, decide_eq_true_iff]
        exact eq_comm
      show (eqV (V.str "still") (V.str z) || (eqV (V.str "stretch") (V.str z) || false)) = _
      rw [Bool.or_false, e1, e1]
    refine ⟨t, _, rfl, .inr (SqT.of upd_same), rfl, rfl, ?_⟩
    show Q (.bl (inV (V.str (kindS qs)) [V.str "still", V.str "stretch"])) _
    rw [e]
    exact q _ (new_same nt _)
theorem scSlp20 : FnScope ["step"] ["step"] (defScope F_slow_part) := ⟨rfl, rfl, rfl, by decide +kernel, rfl, by decide +kernel, by decide +kernel⟩
theorem ok_slp (G : Fun K "slow_part" "slow_part" F_slow_part f fd) (k : StepK P w K mg base C S CF CO) (kc : StcK P w K mg base S) (OM' : OpM P w K mg base (L2.CX P w) 8 S "__mul__" (spOpS K S CU)) (UP : MUse P w K mg base (L2.CX P w) 8 S "power" ["self", "t"] (spPwF K S) []) : FnOk P w K mg base (L2.CX P w) 9 f fd ["step"] (spSlp20 K S) := by
  refine G.okX scSlp20 (fun vs H Q E h => ?_) (fun cdv A outer s H vs Q E hr h => ?_)
  · obtain ⟨v, qs, rfl, _⟩ := h
    rfl
  obtain ⟨v, qs, rfl, hX, h1, h2, h3⟩ := h
  obtain ⟨sp, sg, sfd, cS, FS, bS⟩ := kc.still
  refine ⟨_, pss_cons (ps_if (pt_cmpR op_eq (pe_fld (pv 0) rfl) pe_str (nomark _)) (pss_one (ps_ret (pe_static (E := E) (C8.pe_gc (v := .ref S) rfl ⟨_, k.m, rfl⟩) kc.rd cS FS hr bS (passes_call (takes_of rfl rfl rfl rfl) (fun _ _ _ _ h => h)) (pa_cons (pe_fld (pv 0) rfl) pa_nil)))) pss_nil)
    (pss_cons (ps_if (pt_cmpR op_eq (pe_fld (pv 0) rfl) pe_str (nomark _)) (pss_one (ps_ret (pe_mu (E := E) UP (pe_op (op_bin (E := E) OM' rfl hr (passes_call (takes_of rfl rfl rfl rfl) (fun _ _ _ _ h => h))) (pv 0) (pv 0)) hr (passes_call (takes_of rfl rfl rfl rfl) (fun _ _ _ _ h => h)) (pa_cons (pe_tup (pa_cons pe_int (pa_cons pe_int pa_nil))) pa_nil)))) pss_nil)
    (pss_one (ps_ret (pv 0)))), ?_⟩
  obtain ⟨x, Cx', dx, fs, rfl, hx, cx, nx, lx⟩ := hX.kd k
  obtain ⟨x2, Cx2, dx2, fs2', ex2, hx2, cx2, nx2, lx2⟩ := hX.ord k
  obtain ⟨l2, l24⟩ := hX.le
  refine ⟨_, rfl, x, Cx', dx, _, _, rfl, hx, cx, nx, lx, rfl, _, rfl, ?_⟩
  by_cases c : kindS qs = "stretch"
  · rw [decide_eq_true (show V.str (kindS qs) = V.str "stretch" by rw [c])]
    exact iteT ⟨rfl, _, rfl, x2, Cx2, dx2, _, _, ex2, hx2, cx2, nx2, lx2, qs.length, rfl, l2, l24, h1 c⟩
  rw [decide_eq_false (show ¬ V.str (kindS qs) = V.str "stretch" from fun z => c (V.str.inj z))]
  refine iteF ⟨_, rfl, x, Cx', dx, _, _, rfl, hx, cx, nx, lx, rfl, _, rfl, ?_⟩
  by_cases c2 : kindS qs = "flip"
  · rw [decide_eq_true (show V.str (kindS qs) = V.str "flip" by rw [c2])]
    obtain ⟨m, po, o1', g⟩ := h2 c2
    refine iteT ⟨_, rfl, _, rfl, rd_sm hX hX rfl m fun H1 y s1 hy => ?_⟩
    obtain ⟨y', dy, b, ys, gs, rfl, hy', hb, ny, _⟩ := hy.st.nb
    refine ⟨y', dy, _, rfl, hy', ?_, ?_⟩
    · obtain ⟨y2, dy2, fs3, x3, e3, hy3, _, _, _, lp⟩ := hy.st.ld
      obtain rfl := V.ref.inj e3
      rw [hy'] at hy3
      cases hy3
      exact lp
    refine ⟨(by show 2 ≤ sizeLine; decide), fun t nt => ?_⟩
    have s2 := new_same nt (HO.tup [.int 1, .int 2])
    refine ⟨.ref y', .ref t, cmpL qs qs, hfq, rfl, hy.st.same s2, .at (K := K) upd_same, o1', po, fun H3 z s3 hz => g H3 z (s1.trans (s2.trans s3)) hz⟩
  · rw [decide_eq_false (show ¬ V.str (kindS qs) = V.str "flip" from fun z => c2 (V.str.inj z))]
    exact iteF ⟨_, rfl, h3 c c2⟩
theorem scFls : FnScope ["flip"] ["flip"] (defScope F_flip_straightener) := ⟨rfl, rfl, rfl, by decide +kernel, rfl, by decide +kernel, by decide +kernel⟩
theorem ok_fls (G : Fun K "flip_straightener" "flip_straightener" F_flip_straightener f fd) (k : StepK P w K mg base C S CF CO) (UM : Use P w K mg base CX0 3 "multiples_of" ["numbers", "t"] (spMulsL K) []) (UD : Use P w K mg base CX0 2 "differences_of" ["one", "other"] (spTwoL K (· - ·)) []) (US : Use P w K mg base CX0 1 "still_numbers" ["order"] (spSn K) []) (UN : MUse P w K mg base CX0 1 S "numbers" ["self"] (spNuS K S) []) : FnOk P w K mg base (L2.CX P w) 8 f fd ["flip"] (spFls K S) := by
  refine G.okX scFls (fun vs H Q E h => ?_) (fun cdv A outer s H vs Q E hr h => ?_)
  · obtain ⟨v, qs, rfl, _⟩ := h
    rfl
  obtain ⟨v, qs, rfl, hX, o1', o2, g⟩ := h
  have hr1 := hr.mono (show 1 ≤ 7 by decide)
  have hr2 := hr.mono (show 2 ≤ 7 by decide)
  have hr3 := hr.mono (show 3 ≤ 7 by decide)
  obtain ⟨fI, fdI, M, FI, bI⟩ := k.ini
  refine ⟨_, pss_one (ps_ret (pe_make (E := E) M FI hr rfl k.m bI .nil (passes_call (takes_of rfl rfl rfl rfl) (fun _ _ _ _ h => h)) (pa_cons (pe_use UM hr3 rfl pass0 (pa_cons (pe_use UD hr2 rfl pass0 (pa_cons (pe_use US hr1 rfl pass0 (pa_cons (pe_fld (pv 0) rfl) pa_nil)) (pa_cons (pe_mu0 (E := fun _ _ _ => False) UN (pv 0) hr1 pass0) pa_nil))) (pa_cons (pe_tup (pa_cons pe_int (pa_cons pe_int pa_nil))) pa_nil))) pa_nil))), ?_⟩
  obtain ⟨x2, Cx2, dx2, fs2', ex2, hx2, cx2, nx2, lx2⟩ := hX.ord k
  obtain ⟨x, dx, b, xs, x0, fv, sv, rfl, hx, hb, nx, hl0, l2, l24⟩ := id hX
  have lst := stL_len (n := qs.length) (by omega)
  refine ⟨_, rfl, x2, Cx2, dx2, _, _, ex2, hx2, cx2, nx2, lx2, qs.length, rfl, l2, l24, fun b1 H1 ys s1 nb1 hb1 mb1 => ?_⟩
  refine ⟨_, rfl, x, dx, _, rfl, s1 _ _ hx, rfl, .ref x, qs, rfl, hX.same s1, fun d H2 zs s2 nd hd md => ?_⟩
  refine ⟨.ref b1, .ref d, stL qs.length, qs, rfl, ⟨b1, ys, rfl, s2 _ _ hb1, mb1.same s2⟩, ⟨d, zs, rfl, hd, md⟩, lst, by rw [lst]; omega, still_o _, o1', fun b3 H3 ws s3 nb3 hb3 mb3 => ?_⟩
  refine ⟨(by show 2 ≤ sizeLine; decide), fun t nt => ?_⟩
  have s4 := new_same nt (HO.tup [.int 1, .int 2])
  refine ⟨.ref b3, .ref t, _, hfq, rfl, ⟨b3, ws, rfl, s4 _ _ hb3, mb3.same s4⟩, .at (K := K) upd_same, by rw [List.length_zipWith, lst]; omega, o2, ok_hfq, fun b5 H5 us s5 nb5 hb5 mb5 => ?_⟩
  exact step_new (s1.trans (s2.trans (s3.trans (s4.trans s5)))) (.inl hb5) mb5 (by rw [List.length_map, List.length_zipWith, lst]; omega) (by rw [List.length_map, List.length_zipWith, lst]; omega) g
end
end Kx
end
section
set_option maxHeartbeats 4000000
namespace Kx
open PySem PySem.Spec PyProof.Rows L2 RZ
/-! ### a stretch made straight -/
theorem toT_snoc (F : Ser) (n : Nat) : toT (n + 1) F = toT n F ++ [F (n + 1)] := by
  unfold toT
  rw [List.range_succ, List.map_append]
  rfl
theorem st_dot {f : Ser} {N k : Nat} (f0 : f 0 = 0) (hk : k < N) : dotL (toT k (stS f)) (colL (tabL (toT N f)) k) = sumN (fun i => stS f (i + 1) * powS f (i + 1) (k + 1)) k := by
  rw [← gLs_T]
  unfold dotL
  rw [gLs_len, colL_len, tabL_len, toT_len, Nat.min_eq_left (by omega), dotT_sum]
  exact sum_congr fun i hi => by rw [gLs_at f hi, col_at, tt_tab (by rw [toT_len]; omega) (by rw [toT_len]; omega), EqTo.pow (serS_toT f0) (i + 1) (k + 1) (by omega)]
/-- what making straight takes -/
structure StsOk (f : Ser) (N : Nat) : Prop where
  ex : ∃ L B M Z : Nat, SmL (L * M) ∧ B + Z + 32 ≤ 100000 ∧ AllD L B (toT N (stS f)) ∧ PowD M Z (toT N f)
  l : Ok (f 1)
  d : ∀ k, 1 ≤ k → k < N → f 1 - powS f (k + 1) (k + 1) ≠ 0 ∧ (f 1 - powS f (k + 1) (k + 1)).num.natAbs < 2 ^ 4450 ∧ Ok (f 1 - powS f (k + 1) (k + 1))
def spSts (K : PySem.W.Frag) (S : Addr) : Sp := fun vs H Q _ => ∃ (v : V) (f : Ser) (N : Nat), vs = [v] ∧ StAt K S H v (toT N f) ∧ f 0 = 0 ∧ StsOk f N ∧ GivesF K S H Q (toT N (stS f))
abbrev nSts : List Str := ["stretch", "lines", "found", "at", "have", "line"]
section
variable {P : Program} {w : World} {K : PySem.W.Frag} {mg : Str → Option Value} {base : Heap} {f C S PT CF CO CU CN CC o0 o1 : Addr} {fd : FuncData} {H : Hp}
theorem scSts : FnScope nSts ["stretch"] (defScope F_stretch_straightener) := ⟨rfl, rfl, rfl, by decide +kernel, rfl, by decide +kernel, by decide +kernel⟩
theorem ok_sts (G : Fun K "stretch_straightener" "stretch_straightener" F_stretch_straightener f fd) (k : StepK P w K mg base C S CF CO) (k1 : KP K o1 1 1) (mO : mg "ONE" = some (.ref o1)) (mr : mg "range" = none) (UD : Use P w K mg base CX0 2 "dot" ["ones", "others"] (spDot K) []) (UF : Use P w K mg base CX0 2 "difference_of" ["one", "other"] (spTwoQ K (· - ·)) []) (UQ : Use P w K mg base CX0 2 "quotient_of" ["one", "other"] (spDivQ K) [])
    (UT : Use P w K mg base CX0 3 "table_lines" ["numbers"] (spTab K) []) (UN : MUse P w K mg base CX0 1 S "numbers" ["self"] (spNuS K S) []) : FnOk P w K mg base (L2.CX P w) 8 f fd ["stretch"] (spSts K S) := by
  refine G.okX scSts (fun vs H Q E h => ?_) (fun cdv A outer s H vs Q E hr h => ?_)
  · obtain ⟨v, f, N, rfl, _⟩ := h
    rfl
  obtain ⟨v, g, N, rfl, hX, g0, so, gv⟩ := h
  have hr1 := hr.mono (show 1 ≤ 7 by decide)
  have hr2 := hr.mono (show 2 ≤ 7 by decide)
  have hr3 := hr.mono (show 3 ≤ 7 by decide)
  obtain ⟨fI, fdI, MI, FI, bI⟩ := k.ini
  refine ⟨_, pss_cons (ps_set (i := 1) scSts.nd rfl (Or.inl rfl) (pe_use UT hr3 rfl pass0 (pa_cons (pe_mu0 (E := fun _ _ _ => False) UN (pv 0) hr1 pass0) pa_nil)))
    (pss_cons (ps_set (i := 2) scSts.nd rfl (Or.inl rfl) (pe_lst (pa_cons (C8.pe_gc (v := .ref o1) rfl ⟨_, mO, rfl⟩) pa_nil)))
    (pss_cons (ps_for (passes_of rfl) rfl (pi_range2 rfl mr (pa_cons pe_int (pa_cons (pe_fld (pv 0) rfl) pa_nil))) (pg_name (i := 3) scSts.nd rfl (Or.inr rfl))
      (C8.pss_cut (ps_set (i := 4) scSts.nd rfl (Or.inl rfl) (pe_use UD hr2 rfl pass0 (pa_cons (pv 2) (pa_cons (pe_lc (own := [("line", 5)]) (g := gName 5) (tt := tYes) rfl scSts.nd (pi_list (pv 1)) (blkOk_by (N := nSts) (sc := defScope F_stretch_straightener) (by decide +kernel)) (fun _ _ _ _ _ => pg_name (i := 5) scSts.nd rfl (Or.inl rfl)) (fun _ _ _ _ _ => pts_nil) (fun _ _ _ _ _ => pe_ix (ixl_at K rfl) (pv 5) (pv 3) (fun _ _ => rfl))) pa_nil))))
      (pss_one (ps_expr (pe_bm PySem.F.plainAttrs_list PySem.F.slot_list_append PySem.F.type_list_append mt_append (pv 2) (pa_cons (pe_use UQ hr2 rfl pass0 (pa_cons (pv 4) (pa_cons (pe_use UF hr2 rfl pass0 (pa_cons (pe_fld (pv 0) rfl) (pa_cons (pe_ix ix_list (pe_ix ix_list (pv 1) (pv 3) (fun _ _ => rfl)) (pv 3) (fun _ _ => rfl)) pa_nil))) pa_nil))) pa_nil))))))
    (pss_one (ps_ret (pe_make (E := E) MI FI hr rfl k.m bI .nil (passes_call (takes_of rfl rfl rfl rfl) (fun _ _ _ _ h => h)) (pa_cons (pv 2) pa_nil)))))), ?_⟩
  obtain ⟨x2, Cx2, dx2, fs2', ex2, hx2, cx2, nx2, lx2⟩ := hX.ord k
  obtain ⟨x0, ⟨x3, Cx3, dx3, fs3, ex3, hx3, cx3, nx3, lx3⟩, nq0⟩ := hX.lead k
  obtain ⟨x, dx, b, xs, y0, fv, sv, rfl, hx, hb, nx, hl0, l2, l24⟩ := id hX
  rw [toT_len] at l2 l24 lx2
  obtain ⟨L, B, M, Z, sL, bl, zh, zp⟩ := so.ex
  have e1 : serS (toT N g) 1 = g 1 := serS_toT g0 1 (by omega)
  rw [e1] at nq0
  refine ⟨_, rfl, x, dx, _, rfl, hx, rfl, .ref x, toT N g, rfl, hX, fun d H1 zs s1 nd hd md => ?_⟩
  refine ⟨.ref d, toT N g, M, Z, rfl, ⟨d, zs, rfl, hd, md⟩, by rw [toT_len]; omega, by rw [toT_len]; omega, sL.right, by omega, zp, fun la H2 ls s2 nla hl ml => ?_⟩
  have s12 := s1.trans s2
  refine ⟨(by show 1 ≤ sizeLine; decide), fun fb nf => ?_⟩
  have s3 := new_same nf (HO.lst [V.ref o1])
  have hf3 : upd H2 fb (HO.lst [V.ref o1]) fb = some (.lst [V.ref o1]) := upd_same
  have nf1 : H fb = none := s12.free nf
  clear hd md zs nd
  generalize upd H2 fb (HO.lst [V.ref o1]) = H3 at s3 hf3
  have sA := s12.trans s3
  have ll : ls.length = N := by rw [ml.1, tabL_len, toT_len]
  refine ⟨_, rfl, x2, Cx2, dx2, _, _, ex2, sA _ _ hx2, cx2, nx2, lx2, 1, (N : Int), rfl, ⟨by omega, by omega, by omega, by omega⟩, for_range (lo := 1) (n := ((N : Int) - 1).toNat) (fun i σ H' => Same H2 H' ∧ (∃ v3 v4 v5, σ = [some (.ref x), some (.ref la), some (.ref fb), v3, v4, v5]) ∧ ∃ zs, H' fb = some (.lst zs) ∧ Nl K H' zs (toT (i + 1) (stS g))) ⟨s3, ⟨none, none, none, rfl⟩, [.ref o1], hf3, ?_⟩ ?_ ?_⟩
  · have e2 : toT (0 + 1) (stS g) = [1] := by
      rw [toT_snoc, Nat.zero_add, stS_1]
      rfl
    rw [e2]
    exact Nl.cons ⟨o1, rfl, .inr k1⟩ Nl.nil
  · rintro i σ H4 hi ⟨b4, ⟨v3, v4, v5, rfl⟩, zs, hz, mz⟩
    have iN : i + 1 < N := by omega
    have lz : zs.length = i + 1 := by rw [mz.1, toT_len]
    have ei : (1 + (i : Int)) = ((i + 1 : Nat) : Int) := by omega
    rw [ei]
    have zc : AllD M Z (colL (tabL (toT N g)) (i + 1)) := fun p hp => by
      obtain ⟨r, hr', rfl⟩ := List.mem_map.mp hp
      exact (tabL_d zp r hr').getD (i + 1)
    have zi : AllD L B (toT (i + 1) (stS g)) := fun q hq => zh q (by
      rw [← toT_take (stS g) (show i + 1 ≤ N by omega)] at hq
      exact List.mem_of_mem_take hq)
    refine ⟨fun σ G => Same H4 G ∧ ∃ hv v6, σ = [some (.ref x), some (.ref la), some (.ref fb), some (.int ((i + 1 : Nat) : Int)), some hv, v6] ∧ Nq K G hv (sumN (fun j => stS g (j + 1) * powS g (j + 1) (i + 1 + 1)) (i + 1)), ?_, ?_⟩
    · refine ⟨_, rfl, _, rfl, la, rfl, ⟨_, SqL.of (b4 _ _ hl)⟩, fun D nD => ?_⟩
      refine lc_nums (K := K) (walk_list (K := K) (a := la) (xs := ls)) (colL (tabL (toT N g)) (i + 1)) (by rw [colL_len, tabL_len, toT_len]; omega) nD (by omega) (fun H' s => SqL.of (s _ _ (b4 _ _ hl))) ?_ (fun H5 cs s5 hD mD => ?_)
      · rintro j qi y H5 H6 kk hq s5 ⟨rfl, hx2'⟩ hkk
        obtain ⟨r, er, ra, rxs, rfl, hra, nra⟩ := ml.get hx2'
        have lr' := tabL_row r (List.mem_of_getElem? er)
        rw [toT_len] at lr'
        obtain ⟨u, eu, nu⟩ := nra.get' (i := i + 1) (by omega)
        have eq' : r[i + 1]'(by omega) = qi := by
          unfold colL at hq
          rw [List.getElem?_map, er] at hq
          have := Option.some.inj hq
          rw [← this]
          show _ = r.getD (i + 1) 0
          rw [List.getD_eq_getElem?_getD, List.getElem?_eq_getElem (by omega)]
          rfl
        rw [eq'] at nu
        exact ⟨rfl, _, rfl, _, rfl, ra, rxs, ((i + 1 : Nat) : Int), u, rfl, rfl, SqL.of ((b4.trans s5) _ _ hra), at_of (j := i + 1) rfl eu, hkk u _ (Same.refl _) (nu.same (b4.trans s5))⟩
      · refine ⟨.ref fb, .ref D, toT (i + 1) (stS g), colL (tabL (toT N g)) (i + 1), L, B, M, Z, rfl, ⟨fb, zs, rfl, s5 _ _ hz, mz.same s5⟩, ⟨D, cs, rfl, hD, mD⟩, by rw [toT_len, colL_len, tabL_len, toT_len]; omega, sL.left, by omega, sL.right, by omega, zi, zc, fun d H6 s6 n6 e6 => ⟨s5.trans s6, .ref d, _, rfl, ?_⟩⟩
        rw [st_dot g0 iN] at e6
        exact .at e6
    · rintro σ G ⟨s4, hv, v6', rfl, nh⟩
      have sG := b4.trans s4
      have hzG := s4 _ _ hz
      have zhv : Ok (sumN (fun j => stS g (j + 1) * powS g (j + 1) (i + 1 + 1)) (i + 1)) := by
        rw [← st_dot g0 iN]
        exact (dotL_d zi zc (by rw [toT_len, colL_len, tabL_len, toT_len]; omega)).ok sL bl
      obtain ⟨dn, db, dok⟩ := so.d (i + 1) (by omega) iN
      obtain ⟨lv, elv, llv⟩ := ml.get' (i := i + 1) (by rw [tabL_len, toT_len]; exact iN)
      obtain ⟨row, erow⟩ : ∃ r, r = (tabL (toT N g))[i + 1]'(by rw [tabL_len, toT_len]; exact iN) := ⟨_, rfl⟩
      have er : (tabL (toT N g))[i + 1]? = some row := by rw [erow]; exact List.getElem?_eq_getElem _
      rw [← erow] at llv
      have lrk := tabL_row row (List.mem_of_getElem? er)
      rw [toT_len] at lrk
      obtain ⟨ra, rxs, rfl, hra, nra⟩ := llv
      obtain ⟨u, eu, nu⟩ := nra.get' (i := i + 1) (by omega)
      have et : row[i + 1]'(by omega) = powS g (i + 1 + 1) (i + 1 + 1) := by
        rw [← EqTo.pow (serS_toT g0) (i + 1 + 1) (i + 1 + 1) (show i + 1 + 1 < N + 1 by omega), ← tt_tab (by rw [toT_len]; exact iN) (by rw [toT_len]; exact iN)]
        unfold tt
        rw [List.getD_eq_getElem?_getD (l := tabL (toT N g)), er]
        show _ = row.getD (i + 1) 0
        rw [List.getD_eq_getElem?_getD, List.getElem?_eq_getElem (by omega)]
        rfl
      have zt : Ok (powS g (i + 1 + 1) (i + 1 + 1)) := by
        rw [← et]
        exact (tabL_d zp row (List.mem_of_getElem? er) _ (List.getElem_mem _)).ok sL.right (by omega)
      rw [et] at nu
      refine ⟨_, rfl, .inl ⟨rfl, _, SqL.of hzG⟩, _, rfl, _, rfl, x3, Cx3, dx3, _, _, ex3, (s12.trans sG) _ _ hx3, cx3, nx3, lx3, ?_⟩
      refine ⟨_, rfl, _, rfl, la, ls, ((i + 1 : Nat) : Int), _, rfl, rfl, SqL.of (sG _ _ hl), at_of (j := i + 1) rfl elv, _, rfl, ra, rxs, ((i + 1 : Nat) : Int), u, rfl, rfl, SqL.of (sG _ _ hra), at_of (j := i + 1) rfl eu, ?_⟩
      refine ⟨x0, u, g 1, powS g (i + 1 + 1) (i + 1 + 1), rfl, nq0.same (s12.trans sG), nu.same sG, so.l, zt, fun d H6 s6 n6 e6 => ?_⟩
      refine ⟨hv, .ref d, _, _, rfl, nh.same s6, .at e6, zhv, dok, dn, db, fun d2 H7 s7 n7 e7 => ?_⟩
      have s67 := s6.trans s7
      refine ⟨fb, zs, _, rfl, rfl, s67 _ _ hzG, small1000 (by omega), fun b o hb => ?_, ⟨_, _, _, rfl⟩, zs ++ [.ref d2], upd_same, ?_⟩
      · rw [upd_ne (fun y => by rw [y, nf] at hb; cases hb)]
        exact (sG.trans s67) b o hb
      · have nb : Nl K H7 (zs ++ [V.ref d2]) (toT (i + 1 + 1) (stS g)) := by
          rw [toT_snoc, stS_last g (i + 1), if_neg (by omega)]
          exact (mz.same (s4.trans s67)).snoc (.at e7)
        exact ⟨nb.1, fun j x r h1 h2 => (nb.2 j x r h1 h2).butL (s67 _ _ hzG) (fun b o n h => by rw [upd_ne n]; exact h)⟩
  · rintro σ H4 ⟨b4, ⟨v3, v4, v5, rfl⟩, zs, hz, mz⟩
    rw [show ((N : Int) - 1).toNat + 1 = N by omega] at mz
    refine ⟨_, rfl, ?_⟩
    refine step_new (s12.trans b4) (.inl hz) mz (by rw [toT_len]; omega) (by rw [toT_len]; omega) gv
end
end Kx
end
section
set_option maxHeartbeats 4000000
namespace Kx
open PySem PySem.Spec PyProof.Rows L2 RZ
/-! ### a step parted -/
def slS (f : Ser) : Ser := if f 1 = 1 then f else if f 1 = -1 then flU f else xS
def puS (f : Ser) : Ser := if f 1 = 1 then xS else if f 1 = -1 then flP f else f
def srS (f : Ser) : Ser := if f 1 = 1 then xS else if f 1 = -1 then flH (flP f) else stS f
/-- what parting takes -/
structure PaOk (f : Ser) (N : Nat) : Prop where
  n2 : 2 ≤ N
  z : f 0 = 0
  fl : f 1 = -1 → MulOk (toT N f) (toT N f) ∧ PwOk (toT N (cmpS f f)) hfq ∧ BkOk (toT N (flU f)) ∧ MulOk (toT N f) (toT N (invS (flU f))) ∧ AllO (toT N (flP f)) ∧ AllO (toT N (fun k => xS k - flP f k))
  st : f 1 ≠ 0 → f 1 ≠ 1 → f 1 ≠ -1 → StsOk f N
theorem inv_toT' {h : Ser} (h0 : h 0 = 0) (h1 : h 1 ≠ 0) (N : Nat) : invL (toT N h) = toT N (invS h) := by
  have e := toT_serS (invL (toT N h))
  rw [invL_len, toT_len] at e
  rw [← e]
  exact toT_eq fun k hk => (invS_at h0 h1 (by omega)).symm
theorem stL_T {N : Nat} (h : 1 ≤ N) : stL N = toT N xS := by
  have e := toT_serS (stL N)
  rw [stL_len h] at e
  rw [← e, stL_eq h]
theorem cmp_T {f g : Ser} {N : Nat} (f0 : f 0 = 0) (g0 : g 0 = 0) : cmpL (toT N f) (toT N g) = toT N (cmpS f g) := cmpL_eq (toT_len _ _) (serS_toT f0) (serS_toT g0)
theorem zip_T (f g : Ser) (op : Rat → Rat → Rat) (N : Nat) : (toT N f).zipWith op (toT N g) = toT N (fun k => op (f k) (g k)) := by
  unfold toT
  rw [List.zipWith_map_left, List.zipWith_map_right, List.zipWith_self]
theorem map_T (f : Ser) (h : Rat → Rat) (N : Nat) : (toT N f).map h = toT N (fun k => h (f k)) := by
  unfold toT
  rw [List.map_map]
  rfl
section
variable {f : Ser} {N : Nat} (n2 : 2 ≤ N) (f0 : f 0 = 0)
include n2 f0
theorem lead_T : (toT N f).getD 0 0 = f 1 := by
  rw [List.getD_eq_getElem?_getD, toT_get (show 0 < N by omega)]
  rfl
theorem kd_flip : kindS (toT N f) = "flip" ↔ f 1 = -1 := by
  unfold kindS
  rw [lead_T n2 f0]
  by_cases a : f 1 = 0
  · rw [if_pos a, a]
    constructor
    · intro h; split at h <;> exact absurd h (by decide)
    · intro h; exact absurd h (by decide)
  rw [if_neg a]
  by_cases b : f 1 = 1
  · rw [if_pos b, b]
    constructor
    · intro h; split at h <;> exact absurd h (by decide)
    · intro h; exact absurd h (by decide)
  rw [if_neg b]
  by_cases c : f 1 = -1
  · rw [if_pos c]; exact ⟨fun _ => c, fun _ => rfl⟩
  · rw [if_neg c]; exact ⟨fun h => absurd h (by decide), fun h => absurd h c⟩
theorem kd_st : kindS (toT N f) = "stretch" ↔ f 1 ≠ 0 ∧ f 1 ≠ 1 ∧ f 1 ≠ -1 := by
  unfold kindS
  rw [lead_T n2 f0]
  by_cases a : f 1 = 0
  · rw [if_pos a]
    constructor
    · intro h; split at h <;> exact absurd h (by decide)
    · intro h; exact absurd a h.1
  rw [if_neg a]
  by_cases b : f 1 = 1
  · rw [if_pos b]
    constructor
    · intro h; split at h <;> exact absurd h (by decide)
    · intro h; exact absurd b h.2.1
  rw [if_neg b]
  by_cases c : f 1 = -1
  · rw [if_pos c]; exact ⟨fun h => absurd h (by decide), fun h => absurd c h.2.2⟩
  · rw [if_neg c]; exact ⟨fun _ => ⟨a, b, c⟩, fun _ => rfl⟩
end
structure PtM (P : Program) (w : World) (K : PySem.W.Frag) (mg : Str → Option Value) (base : Heap) (PT : Addr) : Prop where
  k : PtK P w K mg base PT
  ini : ∃ (fI : Addr) (fd : FuncData), Mk K PT fI ∧ FnOk P w K mg base CX0 2 fI fd ["self", "step", "pure", "slow", "straightener"] (spPtI PT) ∧ Binds K fd ["self", "step", "pure", "slow", "straightener"] []
def spPrt (K : PySem.W.Frag) (S PT CC : Addr) : Sp := fun vs H Q E => ∃ (v : V) (f : Ser) (N : Nat), vs = [v] ∧ StAt K S H v (toT N f) ∧ PaOk f N ∧ (f 1 = 0 → Air H CC (fs0 "CantTurn" []) E) ∧
  (f 1 ≠ 0 → ∀ H' y b c d, Same H H' → PtAt PT H' y v b c d → StAt K S H' b (toT N (puS f)) → StAt K S H' c (toT N (slS f)) → StAt K S H' d (toT N (srS f)) → Q y H')
theorem pt_new {PT : Addr} {H H1 : Hp} {a b c d : V} {E : XK} {Q : VK} (s : Same H H1) (q : ∀ H' y, Same H1 H' → PtAt PT H' y a b c d → Q y H') :
    ∀ x dx, H1 x = none → H1 dx = none → dx ≠ x → spPtI PT [.ref x, a, b, c, d] (upd (upd H1 dx (.own x)) x (.ins PT dx [])) (fun z H2 => z = .non ∧ Q (.ref x) H2) E := by
  intro x dx nx ndx ne
  have sm : Same H1 (upd (upd H1 dx (.own x)) x (.ins PT dx [])) := (new_same ndx _).trans (new_same (by rw [upd_ne (Ne.symm ne)]; exact nx) _)
  exact ⟨x, dx, a, b, c, d, rfl, upd_same, fun H' bu hx => ⟨rfl, q H' (.ref x) (fun e o he => bu e o (fun z => by rw [z, nx] at he; cases he) (sm e o he)) ⟨x, dx, rfl, hx⟩⟩⟩
section
variable {P : Program} {w : World} {K : PySem.W.Frag} {mg : Str → Option Value} {base : Heap} {f C S PT CF CO CU CN CC o0 o1 : Addr} {fd : FuncData} {H : Hp}
abbrev nPrt : List Str := ["step", "slow", "pure", "still"]
theorem scPrt : FnScope nPrt ["step"] (defScope F_parted) := ⟨rfl, rfl, rfl, by decide +kernel, rfl, by decide +kernel, by decide +kernel⟩
theorem ok_prt (G : Fun K "parted" "parted" F_parted f fd) (k : StepK P w K mg base C S CF CO) (kc : StcK P w K mg base S) (kp : PtM P w K mg base PT) (UC : Use P w K mg base (L2.CX P w) 3 "check_turnable" ["step"] (spCkT K S CC) []) (US : Use P w K mg base (L2.CX P w) 9 "slow_part" ["step"] (spSlp20 K S) [])
    (OM' : OpM P w K mg base (L2.CX P w) 8 S "__mul__" (spOpS K S CU)) (OI : OpM P w K mg base (L2.CX P w) 8 S "__invert__" (spInv K S)) (UF : Use P w K mg base (L2.CX P w) 8 "flip_straightener" ["flip"] (spFls K S) []) (UT : Use P w K mg base (L2.CX P w) 8 "stretch_straightener" ["stretch"] (spSts K S) []) : FnOk P w K mg base (L2.CX P w) 10 f fd ["step"] (spPrt K S PT CC) := by
  refine G.okX scPrt (fun vs H Q E h => ?_) (fun cdv A outer s H vs Q E hr h => ?_)
  · obtain ⟨v, f, N, rfl, _⟩ := h
    rfl
  obtain ⟨v, f, N, rfl, hX, po, h1, h2⟩ := h
  have hr8 := hr.mono (show 8 ≤ 9 by decide)
  have hr2 := hr.mono (show 2 ≤ 9 by decide)
  have hr3 := hr.mono (show 3 ≤ 9 by decide)
  obtain ⟨sp, sg, sfd, cS, FS, bS⟩ := kc.still
  obtain ⟨fI, fdI, MI, FI, bI⟩ := kp.ini
  refine ⟨_, pss_cons (ps_expr (pe_use (E := E) UC hr3 rfl (passes_call (takes_of rfl rfl rfl rfl) (fun _ _ _ _ h => h)) (pa_cons (pv 0) pa_nil)))
    (C8.pss_cut (ps_set (i := 1) scPrt.nd rfl (Or.inl rfl) (pe_use (E := E) US hr rfl (passes_call (takes_of rfl rfl rfl rfl) (fun _ _ _ _ h => h)) (pa_cons (pv 0) pa_nil)))
    (pss_cons (ps_if (pt_cmpR op_eq (pe_fld (pv 0) rfl) pe_str (nomark _))
      (pss_cons (ps_set (i := 2) scPrt.nd rfl (Or.inl rfl) (pe_op (op_bin (E := E) OM' rfl hr8 (passes_call (takes_of rfl rfl rfl rfl) (fun _ _ _ _ h => h))) (pv 0) (pe_un (un_inv (E := E) OI hr8 (passes_call (takes_of rfl rfl rfl rfl) (fun _ _ _ _ h => h))) (pv 1))))
      (pss_one (ps_ret (pe_make (E := E) MI FI hr3 rfl kp.k.m bI .nil pass0 (pa_cons (pv 0) (pa_cons (pv 2) (pa_cons (pv 1) (pa_cons (pe_use (E := E) UF hr8 rfl (passes_call (takes_of rfl rfl rfl rfl) (fun _ _ _ _ h => h)) (pa_cons (pv 2) pa_nil)) pa_nil)))))))) pss_nil)
    (C8.pss_cut (ps_set (i := 3) scPrt.nd rfl (Or.inl rfl) (pe_static (E := E) (C8.pe_gc (v := .ref S) rfl ⟨_, k.m, rfl⟩) kc.rd cS FS hr8 bS (passes_call (takes_of rfl rfl rfl rfl) (fun _ _ _ _ h => h)) (pa_cons (pe_fld (pv 0) rfl) pa_nil)))
    (pss_cons (ps_if (pt_cmpR op_eq (pe_fld (pv 0) rfl) pe_str (nomark _))
      (pss_one (ps_ret (pe_make (E := E) MI FI hr3 rfl kp.k.m bI .nil pass0 (pa_cons (pv 0) (pa_cons (pv 0) (pa_cons (pv 1) (pa_cons (pe_use (E := E) UT hr8 rfl (passes_call (takes_of rfl rfl rfl rfl) (fun _ _ _ _ h => h)) (pa_cons (pv 0) pa_nil)) pa_nil))))))) pss_nil)
    (pss_one (ps_ret (pe_make (E := E) MI FI hr3 rfl kp.k.m bI .nil pass0 (pa_cons (pv 0) (pa_cons (pv 3) (pa_cons (pv 1) (pa_cons (pv 3) pa_nil))))))))))), ?_⟩
  obtain ⟨n2, f0, pf, ps⟩ := po
  have e1 : serS (toT N f) 1 = f 1 := serS_toT f0 1 (by omega)
  obtain ⟨l2, l24⟩ := hX.le
  rw [toT_len] at l2 l24
  have kf := kd_flip n2 f0
  have ks := kd_st n2 f0
  refine ⟨_, rfl, v, toT N f, rfl, hX, fun tr => ?_, fun nt => h1 ?_⟩
  rotate_left
  · rw [← e1]
    exact Classical.not_not.mp nt
  have n0 : f 1 ≠ 0 := by
    rw [← e1]
    exact tr
  have gv := h2 n0
  clear h1 h2 tr
  refine ⟨fun σ G => Same H G ∧ ∃ c, σ = [some v, some c, none, none] ∧ StAt K S G c (toT N (slS f)), ?_, ?_⟩
  · refine ⟨_, rfl, v, toT N f, rfl, hX, fun z => ?_, fun z => ?_, fun z1 z2 => ?_⟩
    · obtain ⟨_, a, b⟩ := ks.mp z
      intro H1 y s1 hy
      rw [toT_len, stL_T (by omega)] at hy
      refine ⟨s1, y, rfl, ?_⟩
      unfold slS
      rw [if_neg a, if_neg b]
      exact hy.st
    · have a := kf.mp z
      obtain ⟨m1, p1, _⟩ := pf a
      have o1' := ff_1 f0 a
      have o0' := ff_0 f0 a
      rw [cmp_T f0 f0]
      refine ⟨m1, p1, by rw [serS_toT o0' 1 (by omega)]; exact o1', fun H1 y s1 hy => ⟨s1, y, rfl, ?_⟩⟩
      rw [pwL_half o0' o1'] at hy
      unfold slS
      rw [if_neg (by rw [a]; decide), if_pos a]
      exact hy.st
    · have a : f 1 = 1 := Classical.not_not.mp fun n => z1 (ks.mpr ⟨n0, n, fun y => z2 (kf.mpr y)⟩)
      refine ⟨Same.refl H, v, rfl, ?_⟩
      unfold slS
      rw [if_pos a]
      exact hX
  rintro σ G ⟨s, c, rfl, hc⟩
  obtain ⟨x, Cx', dx, fs, rfl, hx, cx, nx, lx⟩ := hX.kd k
  obtain ⟨x2, Cx2, dx2, fs2', ex2, hx2, cx2, nx2, lx2⟩ := hX.ord k
  rw [toT_len] at lx2
  refine ⟨_, rfl, x, Cx', dx, _, _, rfl, s _ _ hx, cx, nx, lx, rfl, _, rfl, ?_⟩
  by_cases c1 : f 1 = -1
  · rw [decide_eq_true (show V.str (kindS (toT N f)) = V.str "flip" by rw [kf.mpr c1])]
    obtain ⟨_, _, bk, m2, oP, oD⟩ := pf c1
    have eS : slS f = flU f := by
      unfold slS
      rw [if_neg (by rw [c1]; decide), if_pos c1]
    have eP : puS f = flP f := by
      unfold puS
      rw [if_neg (by rw [c1]; decide), if_pos c1]
    have eR : srS f = flH (flP f) := by
      unfold srS
      rw [if_neg (by rw [c1]; decide), if_pos c1]
    have u1 := fl_n f0 c1
    have hc' := hc
    rw [eS] at hc'
    refine iteT ⟨_, rfl, _, rfl, ?_⟩
    refine rd_inF hc' (toT_trn (hf_00 _) u1 (by omega)) bk fun G1 y1 s1 hy1 => ?_
    rw [inv_toT' (show flU f 0 = 0 from rfl) u1] at hy1
    refine rd_sm (hX.same (s.trans s1)) hy1.st (by rw [toT_len, toT_len]) m2 fun G2 y2 s2 hy2 => ?_
    rw [cmp_T f0 rfl] at hy2
    change StF K S G2 y2 (toT N (flP f)) at hy2
    refine ⟨_, rfl, _, rfl, _, rfl, _, rfl, y2, toT N (flP f), rfl, hy2.st, oP, ?_, fun G3 y3 s3 hy3 => ?_⟩
    · rw [toT_len, stL_T (by omega), zip_T]
      exact oD
    rw [toT_len, stL_T (by omega), zip_T, map_T] at hy3
    refine pt_new (H := H) (s.trans (s1.trans (s2.trans s3))) fun G4 y s4 hp => ?_
    refine gv G4 y y2 c y3 (s.trans (s1.trans (s2.trans (s3.trans s4)))) hp ?_ (hc.same (s1.trans (s2.trans (s3.trans s4)))) ?_
    · rw [eP]
      exact hy2.st.same (s3.trans s4)
    · rw [eR]
      exact hy3.st.same s4
  rw [decide_eq_false (show ¬ V.str (kindS (toT N f)) = V.str "flip" from fun z => c1 (kf.mp (V.str.inj z)))]
  refine iteF ?_
  refine ⟨fun σ G => Same H G ∧ ∃ d, σ = [some (.ref x), some c, none, some d] ∧ StAt K S G c (toT N (slS f)) ∧ StAt K S G d (toT N xS), ?_, ?_⟩
  · refine ⟨rfl, _, rfl, x2, Cx2, dx2, _, _, ex2, s _ _ hx2, cx2, nx2, lx2, N, rfl, n2, l24, fun G1 y s1 hy => ⟨s.trans s1, y, rfl, hc.same s1, ?_⟩⟩
    rw [stL_T (by omega)] at hy
    exact hy.st
  clear s hc
  rintro σ G ⟨s, d, rfl, hc, hd⟩
  refine ⟨_, rfl, x, Cx', dx, _, _, rfl, s _ _ hx, cx, nx, lx, rfl, _, rfl, ?_⟩
  by_cases c2 : f 1 = 1
  · rw [decide_eq_false (show ¬ V.str (kindS (toT N f)) = V.str "stretch" from fun z => (ks.mp (V.str.inj z)).2.1 c2)]
    refine iteF ⟨_, rfl, _, rfl, _, rfl, _, rfl, ?_⟩
    refine pt_new (H := H) s fun G4 y s4 hp => ?_
    refine gv G4 y d c d (s.trans s4) hp ?_ (hc.same s4) ?_
    · unfold puS
      rw [if_pos c2]
      exact hd.same s4
    · unfold srS
      rw [if_pos c2]
      exact hd.same s4
  · rw [decide_eq_true (show V.str (kindS (toT N f)) = V.str "stretch" by rw [ks.mpr ⟨n0, c2, c1⟩])]
    refine iteT ⟨_, rfl, _, rfl, _, rfl, _, rfl, .ref x, f, N, rfl, hX.same s, f0, ps n0 c2 c1, fun G3 y3 s3 hy3 => ?_⟩
    refine pt_new (H := H) (s.trans s3) fun G4 y s4 hp => ?_
    refine gv G4 y (.ref x) c y3 (s.trans (s3.trans s4)) hp ?_ (hc.same (s3.trans s4)) ?_
    · unfold puS
      rw [if_neg c2, if_neg c1]
      exact hX.same (s.trans (s3.trans s4))
    · unfold srS
      rw [if_neg c2, if_neg c1]
      exact hy3.st.same s4
end
end Kx
end
section
set_option maxHeartbeats 4000000
namespace Kx
open PySem PySem.Spec PyProof.Rows L2 RZ
/-! ### sizes of what is parted -/
theorem Gm.lift {D m n a q : Nat} {F : Ser} (h : Gm D m F n) (hq : q ≤ 2 ^ a) : Gm (D * q) (m + a) F n := ⟨h.z, fun k hk => by
  refine ((h.g k hk).up (M := (D * q) ^ k) (C := a * k) (q ^ k) (Nat.mul_pow _ _ _) ?_).mono (by rw [Nat.add_mul]; omega)
  rw [Nat.pow_mul]
  exact Nat.pow_le_pow_left hq k⟩
theorem Gm.cg {D m n : Nat} {F G : Ser} (h : Gm D m F n) (e : EqTo (n + 1) G F) : Gm D m G n := ⟨by rw [e 0 (by omega)]; exact h.z, fun k hk => by rw [e (k + 1) (by omega)]; exact h.g k hk⟩
theorem gm_cs {c : Rat} {rs : List Rat} {d n : Nat} (hc : Dq 1 1 c) (d0 : 0 < d) (d9 : d ≤ 99) (h : ∀ r ∈ rs, TlQ d r) : Gm (60 * d) 50 (serS (c :: rs)) n := by
  refine ⟨rfl, fun k hk => ?_⟩
  match k with
  | 0 => exact hc
  | k + 1 =>
    have g := (gm_tl (n := k + 2) d0 d9 h).g (k + 1) (by omega)
    exact g
theorem Gl.up {L M B C n : Nat} {f : Ser} (h : Gl L B f n) (d : L ∣ M) (m0 : 0 < M) (c : M < 2 ^ C) : Gl M (B + C) f n := fun j k j1 hk => (h j k j1 hk).dv d m0 c
theorem Gl.mono {L B C n : Nat} {f : Ser} (h : Gl L B f n) (l : B ≤ C) : Gl L C f n := fun j k j1 hk => (h j k j1 hk).mono l
theorem Gl.cut {L B n m : Nat} {f : Ser} (h : Gl L B f n) (l : m ≤ n) : Gl L B f m := fun j k j1 hk => h j k j1 (by omega)
/-- all that is parted over one lower part -/
structure PSz (f : Ser) (N M : Nat) : Prop where
  m0 : 0 < M
  m : M < 2 ^ 600
  gf : Gl M 9000 f N
  gu : Gl M 9000 (slS f) N
  gs : Gl M 9000 (puS f) N
  gh : Gl M 9000 (srS f) N
  gx : Gl M 9000 xS N
theorem sm600 {M : Nat} (h : M < 2 ^ 600) (m0 : 0 < M) : SmL (M * M) ∧ SmL M := by
  have h2 := Nat.mul_lt_mul'' h h
  rw [← Nat.pow_add] at h2
  exact ⟨⟨Nat.mul_pos m0 m0, Nat.lt_of_lt_of_le h2 (Nat.pow_le_pow_right (by decide) (by decide))⟩, m0, Nat.lt_of_lt_of_le h (Nat.pow_le_pow_right (by decide) (by decide))⟩
theorem gl_mul {M N : Nat} {p q : Ser} (m0 : 0 < M) (m : M < 2 ^ 600) (gp : Gl M 9000 p N) (gq : Gl M 9000 q N) (p0 : p 0 = 0) (q0 : q 0 = 0) : MulOk (toT N p) (toT N q) :=
  ⟨M, 9000, M, 9000, (sm600 m m0).2, by decide, (sm600 m m0).2, by decide, gp.all (toT_len _ _) (serS_toT p0), gq.pow (toT_len _ _) (serS_toT q0)⟩
theorem gl_one {M N : Nat} {p : Ser} (m0 : 0 < M) (m : M < 2 ^ 600) (gp : Gl M 9000 p N) (p0 : p 0 = 0) : AllO (toT N p) := (gp.all (toT_len _ _) (serS_toT p0)).ok (sm600 m m0).2 (by decide)
/-- a base of whole numbers -/
structure Bd (E N : Nat) : Prop where
  e0 : 0 < E
  l : E < 2 ^ 33
  n2 : 2 ≤ N
  n7 : N ≤ 7
theorem Bd.m {E N : Nat} (h : Bd E N) : 0 < E ^ (N - 1) ∧ E ^ (N - 1) < 2 ^ 600 := by
  refine ⟨Nat.pow_pos h.e0, ?_⟩
  have h1 : E ^ (N - 1) < 2 ^ (90 * 6) := Dpow (Nat.lt_of_lt_of_le h.l (Nat.pow_le_pow_right (by decide) (by decide))) (by have := h.n7; omega) (by decide)
  exact Nat.lt_of_lt_of_le h1 (Nat.pow_le_pow_right (by decide) (by decide))
theorem Bd.gl {E N m : Nat} {F : Ser} (h : Bd E N) (g : Gm E m F N) (l : m ≤ 500) : Gl (E ^ (N - 1)) 9000 F N := (g.gl h.e0 (Nat.lt_of_lt_of_le h.l (Nat.pow_le_pow_right (by decide) (by decide))) (by have := h.n2; omega) h.n7).mono (by omega)
/-- a slow step -/
theorem one_sz {f : Ser} {E N : Nat} (b : Bd E N) (g : Gm E 50 f N) (f1 : f 1 = 1) : PaOk f N ∧ PSz f N (E ^ (N - 1)) := by
  have e1 : slS f = f := if_pos f1
  have e2 : puS f = xS := if_pos f1
  have e3 : srS f = xS := if_pos f1
  have gx : Gl (E ^ (N - 1)) 9000 xS N := b.gl Gm.x (by decide)
  have gf := b.gl g (by decide)
  refine ⟨⟨b.n2, g.z, fun z => absurd (f1.symm.trans z) (by decide), fun _ z => absurd f1 z⟩, ⟨b.m.1, b.m.2, gf, ?_, ?_, ?_, gx⟩⟩
  · rw [e1]; exact gf
  · rw [e2]; exact gx
  · rw [e3]; exact gx
theorem nq_h : NumQ hfq := ⟨by decide +kernel, by decide +kernel⟩
theorem tb_h : Tb hfq := ⟨Nat.lt_of_lt_of_le (show hfq.num.natAbs < 2 ^ 1 by decide +kernel) (Nat.pow_le_pow_right (by decide) (by decide)), Nat.lt_of_lt_of_le (show hfq.den < 2 ^ 2 by decide +kernel) (Nat.pow_le_pow_right (by decide) (by decide))⟩
theorem flH_gm {E m N : Nat} {s : Ser} (g : Gm E m s N) (s1 : s 1 = -1) : Gm (E * 2) (m + 2) (flH s) N := by
  refine ⟨by show (xS 0 - s 0) * hfq = 0; rw [g.z]; decide +kernel, fun k hk => ?_⟩
  match k, hk with
  | 0, _ =>
    have e : flH s (0 + 1) = 1 := by
      show (xS 1 - s 1) * hfq = 1
      rw [s1]
      decide +kernel
    rw [e]
    exact Dq.one (show 1 < 2 ^ _ from Nat.one_lt_two_pow (by omega))
  | k + 1, hk =>
    have e : flH s (k + 1 + 1) = -s (k + 1 + 1) * hfq := by
      show (xS (k + 1 + 1) - s (k + 1 + 1)) * hfq = _
      rw [show xS (k + 1 + 1) = 0 from if_neg (by omega)]
      grind
    have h2 : Dq 2 1 hfq := ⟨1, by decide +kernel, by decide⟩
    rw [e]
    refine (((g.g (k + 1) hk).neg.mul h2).up (M := (E * 2) ^ (k + 1)) (C := k) (2 ^ k) ?_ (Nat.le_refl _)).mono (by rw [Nat.add_mul]; omega)
    rw [Nat.mul_pow, Nat.mul_assoc, Nat.pow_succ 2 k, Nat.mul_comm (2 ^ k) 2]
/-- a flip -/
theorem flip_sz {f : Ser} {D N : Nat} (d0 : 0 < D) (d : D < 2 ^ 14) (n2 : 2 ≤ N) (n7 : N ≤ 7) (g : Gm D 50 f N) (f1 : f 1 = -1) : PaOk f N ∧ ∃ M, PSz f N M := by
  have f0 := g.z
  have fn1 : ¬ f 1 = 1 := by rw [f1]; decide
  have e1 : slS f = flU f := by unfold slS; rw [if_neg fn1, if_pos f1]
  have e2 : puS f = flP f := by unfold puS; rw [if_neg fn1, if_pos f1]
  have e3 : srS f = flH (flP f) := by unfold srS; rw [if_neg fn1, if_pos f1]
  have o0 := ff_0 f0 f1
  have o1 := ff_1 f0 f1
  have gg : Gm D 65 (cmpS f f) N := g.cmp g (by omega)
  have gp : Gm (151200 * D) 255 (pwF (cmpS f f) hfq N) N := gm_pw gg o1 (by omega) (by omega) nq_h
  have gu : Gm (151200 * D) 255 (flU f) N := gp.cg (hf_to o0 o1 N).symm
  have gi : Gm (151200 * D) 315 (invS (flU f)) N := gu.inv (fl_1 f0 f1) (by omega)
  have gf : Gm (151200 * D) 68 f N := by
    rw [Nat.mul_comm]
    exact g.lift (a := 18) (by decide)
  have gs : Gm (151200 * D) 330 (flP f) N := (gf.mono (by decide)).cmp gi (by omega)
  have gh : Gm (151200 * D * 2) 332 (flH (flP f)) N := flH_gm gs (fl_p1 f0 f1)
  have b : Bd (151200 * D * 2) N := ⟨by omega, by show _ < 8589934592; have : D < 16384 := d; omega, n2, n7⟩
  have hF := b.gl (gf.lift (a := 1) (by decide)) (by decide)
  have hU := b.gl (gu.lift (a := 1) (by decide)) (by decide)
  have hI := b.gl (gi.lift (a := 1) (by decide)) (by decide)
  have hS := b.gl (gs.lift (a := 1) (by decide)) (by decide)
  have hH := b.gl gh (by decide)
  have hx : Gl ((151200 * D * 2) ^ (N - 1)) 9000 xS N := b.gl Gm.x (by decide)
  obtain ⟨m0, m⟩ := b.m
  have p0 := fl_p0 f0 f1
  have u0 : flU f 0 = 0 := rfl
  refine ⟨⟨n2, f0, fun _ => ⟨gl_mul m0 m hF hF f0 f0, ?_, ?_, gl_mul m0 m hF hI f0 rfl, gl_one m0 m hS p0, ?_⟩, fun _ _ z => absurd f1 z⟩, _, ⟨m0, m, hF, ?_, ?_, ?_, hx⟩⟩
  · refine pw_ok ⟨D, 65, d0, Nat.lt_of_lt_of_le d (Nat.pow_le_pow_right (by decide) (by decide)), by decide, ?_⟩ (by rw [serS_toT o0 1 (by omega)]; exact o1) (by rw [toT_len]; omega) (by rw [toT_len]; omega) tb_h
    rw [toT_len]
    exact gg.cg (serS_toT o0)
  · refine ⟨_, 9000, _, 9000, (sm600 m m0).1, by decide, ?_, hU.pow (toT_len _ _) (serS_toT u0), fun k hk => ?_⟩
    · rw [inv_toT' u0 (fl_n f0 f1)]
      exact hI.all (toT_len _ _) (serS_toT rfl)
    · rw [toT_len] at hk
      rw [EqTo.pow (serS_toT u0) (k + 1) (k + 1) (by omega), pow_d1 u0 (fl_1 f0 f1)]
      exact Nat.lt_of_lt_of_le (show (1 : Rat).num.natAbs < 2 ^ 1 by decide) (Nat.pow_le_pow_right (by decide) (by decide))
  · have : AllD ((151200 * D * 2) ^ (N - 1)) 9001 (toT N (fun k => xS k - flP f k)) := fun q hq => by
      obtain ⟨i, hi⟩ := List.getElem?_of_mem hq
      rcases Nat.lt_or_ge i N with c | c
      · rw [toT_get c] at hi
        rw [← Option.some.inj hi]
        exact (hx.one (show i + 1 ≤ N by omega)).sub (hS.one (show i + 1 ≤ N by omega)) (by decide) (by decide)
      · rw [List.getElem?_eq_none (by rw [toT_len]; exact c)] at hi
        cases hi
    exact this.ok (sm600 m m0).2 (by decide)
  · rw [e1]; exact hU
  · rw [e2]; exact hS
  · rw [e3]; exact hH
end Kx
end
section
set_option maxHeartbeats 4000000
namespace Kx
open PySem PySem.Spec PyProof.Rows L2 RZ
/-! ### sizes of a stretch parted -/
theorem sc_sc {a b : Rat} (e : a * b = 1) (f : Ser) : scS a (scS b f) = f := by
  funext k
  show a * (b * f k) = f k
  rw [← Rat.mul_assoc, e, Rat.one_mul]
def dqB (E B : Nat) (q : Rat) : Bool := decide ((q * (E : Rat)).den = 1) && decide ((q * (E : Rat)).num.natAbs < 2 ^ B)
theorem dqB_ok {E B : Nat} {q : Rat} (h : dqB E B q = true) : Dq E B q := by
  unfold dqB at h
  rw [Bool.and_eq_true, decide_eq_true_eq, decide_eq_true_eq] at h
  exact ⟨(q * (E : Rat)).num, Rat.ext rfl h.1, h.2⟩
/-- a stretch's lead: its inverse, and its powers less itself -/
def ldB (c b : Rat) (E : Nat) : Bool := decide (c * b = 1) && dqB 6 5 c && dqB 6 5 b && decide (c ≠ 0) && decide (c ≠ 1) && decide (c ≠ -1) &&
  (List.range 7).all fun k => (k == 0) || (dqB (6 ^ 7) 60 (c - pwQ c (k + 1)) && decide (c - pwQ c (k + 1) ≠ 0) && (List.range k).all fun i => dqB E 40 (pwQ c (i + 1) / (c - pwQ c (k + 1))))
structure LdS (c b : Rat) (E : Nat) : Prop where
  e : c * b = 1
  a : Dq 6 5 c
  b : Dq 6 5 b
  n0 : c ≠ 0
  n1 : c ≠ 1
  nm : c ≠ -1
  d : ∀ k, 1 ≤ k → k < 7 → Dq (6 ^ 7) 60 (c - pwQ c (k + 1)) ∧ c - pwQ c (k + 1) ≠ 0
  w : ∀ k i, k < 7 → i < k → Dq E 40 (pwQ c (i + 1) / (c - pwQ c (k + 1)))
theorem ldB_ok {c b : Rat} {E : Nat} (h : ldB c b E = true) : LdS c b E := by
  unfold ldB at h
  simp only [Bool.and_eq_true, decide_eq_true_eq] at h
  obtain ⟨⟨⟨⟨⟨⟨h1, h2⟩, h3⟩, h4⟩, h5⟩, h6⟩, h7⟩ := h
  have key : ∀ k, 1 ≤ k → k < 7 → (dqB (6 ^ 7) 60 (c - pwQ c (k + 1)) = true ∧ c - pwQ c (k + 1) ≠ 0) ∧ ((List.range k).all fun i => dqB E 40 (pwQ c (i + 1) / (c - pwQ c (k + 1)))) = true := fun k k1 hk => by
    have z := List.all_eq_true.mp h7 k (List.mem_range.mpr hk)
    rw [Bool.or_eq_true] at z
    rcases z with z | z
    · have := beq_iff_eq.mp z
      omega
    · rw [Bool.and_eq_true, Bool.and_eq_true, decide_eq_true_eq] at z
      exact z
  exact ⟨h1, dqB_ok h2, dqB_ok h3, h4, h5, h6, fun k k1 hk => ⟨dqB_ok (key k k1 hk).1.1, (key k k1 hk).1.2⟩, fun k i hk hi => dqB_ok (List.all_eq_true.mp (key k (by omega) hk).2 i (List.mem_range.mpr hi))⟩
theorem ld_2 : LdS 2 (mkRat 1 2) 9765 := ldB_ok (by decide +kernel)
theorem ld_m2 : LdS (-2) (mkRat (-1) 2) 3465 := ldB_ok (by decide +kernel)
theorem ld_h : LdS (mkRat 1 2) 2 9765 := ldB_ok (by decide +kernel)
theorem ld_mh : LdS (mkRat (-1) 2) (-2) 3465 := ldB_ok (by decide +kernel)
theorem ld_3 : LdS 3 (mkRat 1 3) 880880 := ldB_ok (by decide +kernel)
theorem ld_t : LdS (mkRat 1 3) 3 880880 := ldB_ok (by decide +kernel)
theorem ld_th : LdS (mkRat 3 2) (mkRat 2 3) 1824095 := ldB_ok (by decide +kernel)
/-- the series without its lead -/
theorem st_gm {c b : Rat} {E : Nat} {rs : List Rat} {d n : Nat} (l : LdS c b E) (d0 : 0 < d) (d9 : d ≤ 99) (h : ∀ r ∈ rs, TlQ d r) : Gm (360 * d) 60 (scS b (serS (c :: rs))) n := by
  refine ⟨by show b * 0 = 0; rw [Rat.mul_zero], fun k hk => ?_⟩
  match k with
  | 0 =>
    have e : scS b (serS (c :: rs)) (0 + 1) = 1 := by
      show b * c = 1
      rw [Rat.mul_comm]
      exact l.e
    rw [e]
    exact Dq.one (show 1 < 2 ^ 1 by decide)
  | k + 1 =>
    have g := (gm_tl (n := k + 2) d0 d9 h).g (k + 1) (by omega)
    have g : Dq ((60 * d) ^ (k + 1)) (50 * (k + 1) + 1) (serS (c :: rs) (k + 1 + 1)) := g
    refine ((l.b.mul g).up (M := (360 * d) ^ (k + 1)) (C := 3 * k) (6 ^ k) ?_ ?_).mono (by omega)
    · rw [show 360 * d = 6 * (60 * d) by omega, Nat.mul_pow, Nat.pow_succ 6 k]
      simp only [Nat.mul_comm, Nat.mul_left_comm, Nat.mul_assoc]
    · rw [Nat.pow_mul]
      exact Nat.pow_le_pow_left (by decide) k
theorem pow_scd {c : Rat} {ft : Ser} (z : ft 0 = 0) (o : ft 1 = 1) (k : Nat) : powS (scS c ft) k k = pwQ c k := by rw [pow_sc, pow_d1 z o, Rat.mul_one]
/-- what makes it straight -/
theorem sts_gm {c b : Rat} {E D N : Nat} {ft : Ser} (l : LdS c b E) (g : Gm D 60 ft N) (o : ft 1 = 1) (e0 : 0 < E) (e : E ≤ 2 ^ 21) (n7 : N ≤ 7) : Gm (D * E) 190 (stS (scS c ft)) N := by
  refine ⟨rfl, fun k => ?_⟩
  induction k using Nat.strongRecOn with
  | ind k ih =>
    intro hk
    rw [stS_last]
    match k, hk, ih with
    | 0, _, _ =>
      rw [if_pos rfl]
      exact Dq.one (show 1 < 2 ^ 1 by decide)
    | k + 1, hk, ih =>
      rw [if_neg (by omega)]
      have e1 : scS c ft 1 = c := by
        show c * ft 1 = c
        rw [o, Rat.mul_one]
      rw [e1, pow_scd g.z o]
      have e2 : sumN (fun i => stS (scS c ft) (i + 1) * powS (scS c ft) (i + 1) (k + 1 + 1)) (k + 1) / (c - pwQ c (k + 1 + 1)) = sumN (fun i => stS (scS c ft) (i + 1) * powS ft (i + 1) (k + 1 + 1) * (pwQ c (i + 1) / (c - pwQ c (k + 1 + 1)))) (k + 1) := by
        rw [Rat.div_def, ← sum_mulR]
        exact sum_congr fun i _ => by
          rw [pow_sc, Rat.div_def]
          grind
      rw [e2]
      refine (dq_sum (L := (D * E) ^ (k + 1)) (B := 190 * (k + 1) - 4) (c := 4) _ (fun i hi => ?_) (by omega)).mono (by omega)
      have p := ih i (by omega) (by omega)
      have q := g.pow (by omega) i (k + 1 - i) (by omega)
      rw [show i + 1 + (k + 1 - i) = k + 1 + 1 by omega] at q
      have w := l.w (k + 1) i (by omega) hi
      refine (((p.mul q).mul w).up (M := (D * E) ^ (k + 1)) (C := 21 * (k - i)) (E ^ (k - i)) ?_ ?_).mono (by omega)
      · obtain ⟨j, rfl⟩ : ∃ j, k = i + j := ⟨k - i, by omega⟩
        rw [show i + j + 1 - i = j + 1 by omega, show i + j - i = j by omega, show i + j + 1 = i + (j + 1) by omega, Nat.pow_add (D * E) i, Nat.mul_pow D E (j + 1), Nat.pow_succ E j]
        simp only [Nat.mul_comm, Nat.mul_left_comm, Nat.mul_assoc]
      · rw [Nat.pow_mul]
        exact Nat.pow_le_pow_left e _
theorem pw_dqS {L B : Nat} {a : Rat} (h : Dq L B a) : ∀ j, Dq (L ^ j) (B * j + 1) (pwQ a j) := pw_dq h
theorem lt_two {L M a b : Nat} (h : L < 2 ^ a) (h' : M < 2 ^ b) : L * M < 2 ^ (a + b) := by
  rw [Nat.pow_add]
  exact Nat.mul_lt_mul'' h h'
theorem gl_sc5 {D m n : Nat} {f : Ser} {a : Rat} (g : Gm D m f n) (d0 : 0 < D) (d : D < 2 ^ 90) (n1 : 1 ≤ n) (n7 : n ≤ 7) (ha : Dq 6 5 a) : Gl (6 ^ n * D ^ (n - 1)) (15 * m + 980) (scS a f) n := fun j k j1 hk => by
  rw [pow_sc]
  rcases Nat.lt_or_ge n j with c | c
  · rw [powS_low g.z j k (by omega), Rat.mul_zero]
    exact Dq.zero
  · have p := (pw_dq ha j).dv (Nat.pow_dvd_pow 6 c) (Nat.pow_pos (by decide)) (show 6 ^ n < 2 ^ 21 from Nat.lt_of_le_of_lt (Nat.pow_le_pow_right (by decide) n7) (by decide))
    exact (p.mul (g.gl d0 d n1 n7 j k j1 hk)).mono (by omega)
theorem st_sz {c b : Rat} {E N d : Nat} {rs : List Rat} (l : LdS c b E) (e0 : 0 < E) (e : E ≤ 2 ^ 21) (d0 : 0 < d) (d9 : d ≤ 99) (h : ∀ r ∈ rs, TlQ d r) (n2 : 2 ≤ N) (n7 : N ≤ 7) : PaOk (serS (c :: rs)) N ∧ ∃ M, PSz (serS (c :: rs)) N M := by
  obtain ⟨ft, eft⟩ : ∃ ft, ft = scS b (serS (c :: rs)) := ⟨_, rfl⟩
  have g : Gm (360 * d) 60 ft N := by rw [eft]; exact st_gm l d0 d9 h
  have o : ft 1 = 1 := by
    rw [eft]
    show b * c = 1
    rw [Rat.mul_comm]
    exact l.e
  have ef : serS (c :: rs) = scS c ft := by rw [eft, sc_sc l.e]
  rw [ef]
  have e1 : scS c ft 1 = c := by
    show c * ft 1 = c
    rw [o, Rat.mul_one]
  have f0 : scS c ft 0 = 0 := by
    show c * ft 0 = 0
    rw [g.z, Rat.mul_zero]
  have n1 : ¬ scS c ft 1 = 1 := by rw [e1]; exact l.n1
  have nm : ¬ scS c ft 1 = -1 := by rw [e1]; exact l.nm
  have e2 : slS (scS c ft) = xS := by unfold slS; rw [if_neg n1, if_neg nm]
  have e3 : puS (scS c ft) = scS c ft := by unfold puS; rw [if_neg n1, if_neg nm]
  have e4 : srS (scS c ft) = stS (scS c ft) := by unfold srS; rw [if_neg n1, if_neg nm]
  have gh := sts_gm l g o e0 e n7
  have dl : 360 * d < 2 ^ 16 := by show _ < 65536; omega
  have d90 : 360 * d < 2 ^ 90 := Nat.lt_of_lt_of_le dl (Nat.pow_le_pow_right (by decide) (by decide))
  have x37 : 360 * d * E < 2 ^ 38 := lt_two (b := 22) dl (Nat.lt_of_le_of_lt e (by decide))
  have x90 : 360 * d * E < 2 ^ 90 := Nat.lt_of_lt_of_le x37 (Nat.pow_le_pow_right (by decide) (by decide))
  have x0 : 0 < 360 * d * E := Nat.mul_pos (by omega) e0
  have D0 : 0 < 360 * d := by omega
  have lf := gl_sc5 (a := c) g D0 d90 (by omega) n7 l.a
  have lh := gh.gl x0 x90 (by omega) n7
  have lx : Gl ((360 * d * E) ^ (N - 1)) (15 * 0 + 900) xS N := Gm.x.gl x0 x90 (by omega) n7
  have p1 : (360 * d) ^ (N - 1) < 2 ^ 96 := by
    have h1 : (360 * d) ^ (N - 1) ≤ (2 ^ 16) ^ (N - 1) := Nat.pow_le_pow_left (Nat.le_of_lt dl) _
    rcases Nat.lt_or_ge (N - 1) 6 with q | q
    · rw [← Nat.pow_mul] at h1
      exact Nat.lt_of_le_of_lt h1 (Nat.pow_lt_pow_right (by decide) (by omega))
    · have : N - 1 = 6 := by omega
      rw [this]
      have h2 := Nat.pow_lt_pow_left dl (show (6 : Nat) ≠ 0 by decide)
      rw [← Nat.pow_mul] at h2
      exact h2
  have p2 : (360 * d * E) ^ (N - 1) < 2 ^ 229 := by
    have h1 : (360 * d * E) ^ (N - 1) ≤ (2 ^ 38) ^ (N - 1) := Nat.pow_le_pow_left (Nat.le_of_lt x37) _
    rw [← Nat.pow_mul] at h1
    exact Nat.lt_of_le_of_lt h1 (Nat.pow_lt_pow_right (by decide) (by omega))
  have p3 : 6 ^ N < 2 ^ 21 := Nat.lt_of_le_of_lt (Nat.pow_le_pow_right (by decide) n7) (by decide)
  obtain ⟨M, eM⟩ : ∃ M, M = 6 ^ N * (360 * d) ^ (N - 1) * (360 * d * E) ^ (N - 1) := ⟨_, rfl⟩
  have m0 : 0 < M := by rw [eM]; exact Nat.mul_pos (Nat.mul_pos (Nat.pow_pos (by decide)) (Nat.pow_pos D0)) (Nat.pow_pos x0)
  have m346 : M < 2 ^ 346 := by rw [eM]; exact lt_two (lt_two p3 p1) p2
  have m : M < 2 ^ 600 := Nat.lt_of_lt_of_le m346 (Nat.pow_le_pow_right (by decide) (by decide))
  have hF : Gl M 9000 (scS c ft) N := (lf.up ⟨_, eM⟩ m0 m346).mono (by decide)
  have hH : Gl M 9000 (stS (scS c ft)) N := (lh.up ⟨_, by rw [eM, Nat.mul_comm]⟩ m0 m346).mono (by decide)
  have hX : Gl M 9000 xS N := (lx.up ⟨_, by rw [eM, Nat.mul_comm]⟩ m0 m346).mono (by decide)
  refine ⟨⟨n2, f0, fun z => absurd z nm, fun _ _ _ => ⟨⟨M, 9000, M, 9000, (sm600 m m0).1, by decide, hH.all (toT_len _ _) (serS_toT rfl), hF.pow (toT_len _ _) (serS_toT f0)⟩, ?_, fun k k1 hk => ?_⟩⟩, M, ⟨m0, m, hF, ?_, ?_, ?_, hX⟩⟩
  · exact (hF.one (show 1 ≤ N by omega)).ok (sm600 m m0).2 (by decide)
  · rw [e1, pow_scd g.z o]
    obtain ⟨dk, dn⟩ := l.d k k1 (by omega)
    have s6 : SmL (6 ^ 7) := ⟨by decide, Nat.lt_of_lt_of_le (show 6 ^ 7 < 2 ^ 20 by decide) (Nat.pow_le_pow_right (by decide) (by decide))⟩
    exact ⟨dn, Nat.lt_of_lt_of_le (dk.num (by decide)) (Nat.pow_le_pow_right (by decide) (by decide)), dk.ok s6 (by decide)⟩
  · rw [e2]; exact hX
  · rw [e3]; exact hF
  · rw [e4]; exact hH
end Kx
end
section
set_option maxHeartbeats 4000000
namespace Kx
open PySem PySem.Spec PyProof.Rows L2 RZ
/-! ### scalings and drawn steps -/
def LdC (c : Rat) : Prop := c = 0 ∨ c = 1 ∨ c = -1 ∨ ∃ b E, LdS c b E ∧ 0 < E ∧ E ≤ 2 ^ 21
theorem LdC.st {c b : Rat} {E : Nat} (h : LdS c b E) (h1 : 0 < E) (h2 : E ≤ 2 ^ 21) : LdC c := .inr (.inr (.inr ⟨b, E, h, h1, h2⟩))
theorem LdC.ok {c : Rat} (h : LdC c) : Ok c := by
  rcases h with rfl | rfl | rfl | ⟨b, E, l, _⟩
  · exact Ok.zero
  · exact Ok.one
  · exact ⟨Nat.lt_of_lt_of_le (show (-1 : Rat).num.natAbs < 2 ^ 1 by decide) (Nat.pow_le_pow_right (by decide) (by decide)), Nat.lt_of_lt_of_le (show (-1 : Rat).den < 2 ^ 1 by decide) (Nat.pow_le_pow_right (by decide) (by decide))⟩
  · exact l.a.ok ⟨by decide, Nat.lt_of_lt_of_le (show 6 < 2 ^ 3 by decide) (Nat.pow_le_pow_right (by decide) (by decide))⟩ (by decide)
theorem x_map (c : Rat) {n : Nat} : (xL n).map (· * c) = 0 :: c :: List.replicate (n - 1) 0 := by
  show (0 * c) :: (1 * c) :: (List.replicate (n - 1) (0 : Rat)).map (· * c) = _
  rw [List.map_replicate, Rat.zero_mul, Rat.one_mul]
def spScg (K : PySem.W.Frag) : Sp := fun vs H Q _ => ∃ (x : V) (c : Rat) (n : Nat), vs = [x, .int (n : Nat)] ∧ Nq K H x c ∧ Ok c ∧ 1 ≤ n ∧ n ≤ 24 ∧ GivesL K H Q (0 :: c :: List.replicate (n - 1) 0)
def spDrn (K : PySem.W.Frag) : Sp := fun vs H Q _ => ∃ (n : Nat) (B p : Addr), vs = [.ref B] ∧ Bag (n + 60) H B p ∧ ∀ H' v c rs d, Bag n H' B p → But B H H' → Ls K H' v (0 :: c :: rs) → 1 ≤ rs.length → rs.length ≤ 6 → 0 < d → d ≤ 99 → (∀ r ∈ rs, TlQ d r) → LdC c → Q v H'
abbrev nDrn : List Str := ["_law_bag_here", "_law_deg", "_law_cc", "_law_f"]
section
variable {P : Program} {w : World} {K : PySem.W.Frag} {mg : Str → Option Value} {base : Heap} {f o0 : Addr} {fd : FuncData}
theorem scScg : FnScope ["_law_cc", "_law_deg"] ["_law_cc", "_law_deg"] (defScope L_scaling) := ⟨rfl, rfl, rfl, by decide +kernel, rfl, by decide +kernel, by decide +kernel⟩
theorem ok_lscaling (F : Fun K "_law_scaling" "_law_scaling" L_scaling f fd) (UX : Use P w K mg base CX0 1 "_law_x" ["_law_deg"] (spX K) []) (US : Use P w K mg base CX0 3 "_law_scaled" ["_law_u", "_law_p"] (spMulsL K) []) : FnOk P w K mg base CX0 4 f fd ["_law_cc", "_law_deg"] (spScg K) := by
  refine F.ok scScg (fun vs H Q E h => ?_) (fun cdv A outer s H vs Q E hr h => ?_)
  · obtain ⟨x, c, n, rfl, _⟩ := h
    rfl
  obtain ⟨x, c, n, rfl, nx, oc, n1, n24, q⟩ := h
  refine ⟨_, pss_one (ps_ret (pe_use US hr rfl pass0 (pa_cons (pe_use UX (hr.mono (by decide)) rfl pass0 (pa_cons (pv 1) pa_nil)) (pa_cons (pv 0) pa_nil)))), ?_⟩
  refine ⟨_, rfl, n, rfl, n1, by omega, fun b H1 xs s1 nb hb mb => ?_⟩
  refine ⟨_, rfl, .ref b, x, xL n, c, rfl, ⟨b, xs, rfl, hb, mb⟩, nx.same s1, ?_, x_ok n, oc, fun b2 H2 ys s2 nb2 hb2 mb2 => ?_⟩
  · show (0 :: 1 :: List.replicate (n - 1) (0 : Rat)).length ≤ 100
    rw [List.length_cons, List.length_cons, List.length_replicate]
    omega
  · rw [x_map] at mb2
    exact q b2 H2 ys (s1.trans s2) (s1.free nb2) hb2 mb2
theorem scDrn : FnScope nDrn ["_law_bag_here"] (defScope L_drawn) := ⟨rfl, rfl, rfl, by decide +kernel, rfl, by decide +kernel, by decide +kernel⟩
theorem ok_drawn (F : Fun K "_law_drawn" "_law_drawn" L_drawn f fd) (mm : mg "min" = none) (UR : Use P w K mg base CX0 3 "_law_order" ["_law_bag_here"] spOrd []) (UO : Use P w K mg base CX0 2 "_law_of" ["_law_bag_here", "_law_things"] spOfL []) (US : Use P w K mg base CX0 3 "_law_step" ["_law_bag_here", "_law_deg", "_law_cc"] (spStp K) []) (UD : Use P w K mg base CX0 1 "_law_draw" ["_law_bag_here", "_law_many_y"] spDraw [])
    (UW : Use P w K mg base CX0 2 "_law_wide" ["_law_bag_here"] (spNum K 2 WideQ) []) (UG : Use P w K mg base CX0 4 "_law_scaling" ["_law_cc", "_law_deg"] (spScg K) []) : FnOk P w K mg base CX0 5 f fd ["_law_bag_here"] (spDrn K) := by
  refine F.ok scDrn (fun vs H Q E h => ?_) (fun cdv A outer s H vs Q E hr h => ?_)
  · obtain ⟨n, B, p, rfl, _⟩ := h
    rfl
  obtain ⟨n, B, p, rfl, hb, q⟩ := h
  have hr1 := hr.mono (show 1 ≤ 4 by decide)
  have hr2 := hr.mono (show 2 ≤ 4 by decide)
  have hr3 := hr.mono (show 3 ≤ 4 by decide)
  refine ⟨_, C8.pss_cut (ps_set (i := 1) scDrn.nd rfl (Or.inl rfl) (pe_callB (call_min2 rfl) rfl mm (by decide +kernel) (pa_cons pe_int (pa_cons (pe_use UR hr3 rfl pass0 (pa_cons (pv 0) pa_nil)) pa_nil))))
    (C8.pss_cut (ps_set (i := 2) scDrn.nd rfl (Or.inl rfl) (pe_use UO hr2 rfl pass0 (pa_cons (pv 0) (pa_cons (pe_lst (pa_cons (pe_tup (pa_cons (pe_un un_neg pe_int) (pa_cons pe_int pa_nil))) (pa_cons (pe_tup (pa_cons (pe_un un_neg pe_int) (pa_cons pe_int pa_nil))) (pa_cons (pe_tup (pa_cons (pe_un un_neg pe_int) (pa_cons pe_int pa_nil))) (pa_cons (pe_tup (pa_cons pe_int (pa_cons pe_int pa_nil))) (pa_cons (pe_tup (pa_cons pe_int (pa_cons pe_int pa_nil))) (pa_cons (pe_tup (pa_cons (pe_un un_neg pe_int) (pa_cons pe_int pa_nil))) (pa_cons (pe_tup (pa_cons pe_int (pa_cons pe_int pa_nil))) (pa_cons (pe_tup (pa_cons (pe_un un_neg pe_int) (pa_cons pe_int pa_nil))) (pa_cons (pe_tup (pa_cons pe_int (pa_cons pe_int pa_nil))) (pa_cons (pe_tup (pa_cons pe_int (pa_cons pe_int pa_nil))) (pa_cons (pe_tup (pa_cons pe_int (pa_cons pe_int pa_nil))) (pa_cons (pe_tup (pa_cons pe_int (pa_cons pe_int pa_nil))) pa_nil))))))))))))) pa_nil))))
    (C8.pss_cut (ps_set (i := 3) scDrn.nd rfl (Or.inl rfl) (pe_use US hr3 rfl pass0 (pa_cons (pv 0) (pa_cons (pv 1) (pa_cons (pv 2) pa_nil)))))
    (C8.pss_cut (ps_if (pt_cmpR op_eq (pe_use UD hr1 rfl pass0 (pa_cons (pv 0) (pa_cons pe_int pa_nil))) pe_int (nomark _)) (pss_one (ps_asg (pe_use UW hr2 rfl pass0 (pa_cons (pv 0) pa_nil)) (pg_sub (pv 3) (pe_op op_add pe_int (pe_use UD hr1 rfl pass0 (pa_cons (pv 0) (pa_cons (pe_op op_sub (pv 1) pe_int) pa_nil)))) set_list))) pss_nil)
    (pss_one (ps_ret (pe_ifExp (pt_cmpR op_eq (pe_use UD hr1 rfl pass0 (pa_cons (pv 0) (pa_cons pe_int pa_nil))) pe_int (nomark _)) (pe_use UG hr rfl pass0 (pa_cons (pv 2) (pa_cons (pv 1) pa_nil))) (pv 3))))))), ?_⟩
  refine ⟨fun σ G => ∃ deg : Nat, σ = [some (.ref B), some (.int (deg : Nat)), none, none] ∧ 2 ≤ deg ∧ deg ≤ 7 ∧ Bag (n + 58) G B p ∧ But B H G, ?_, ?_⟩
  · refine ⟨_, rfl, n + 58, B, p, rfl, hb, fun H1 k b1 u1 k2 k11 => ?_⟩
    refine ⟨7, k, rfl, min k 7, ?_, by omega, by omega, b1, u1⟩
    have : (if ((k : Nat) : Int) < 7 then ((k : Nat) : Int) else 7) = ((min k 7 : Nat) : Int) := by split <;> omega
    rw [this]
    rfl
  rintro σ H1 ⟨deg, rfl, d2, d7, b1, u1⟩
  refine ⟨fun σ G => ∃ (x : V) (c : Rat), σ = [some (.ref B), some (.int (deg : Nat)), some x, none] ∧ Nq K G x c ∧ LdC c ∧ Bag (n + 57) G B p ∧ But B H G, ?_, ?_⟩
  · refine ⟨_, rfl, ⟨_, rfl, (by show 2 ≤ sizeLine; decide), fun t0 m0 => ⟨_, rfl, (by show 2 ≤ sizeLine; decide), fun t1 m1 => ⟨_, rfl, (by show 2 ≤ sizeLine; decide), fun t2 m2 => ⟨(by show 2 ≤ sizeLine; decide), fun t3 m3 => ⟨(by show 2 ≤ sizeLine; decide), fun t4 m4 => ⟨_, rfl, (by show 2 ≤ sizeLine; decide), fun t5 m5 => ⟨(by show 2 ≤ sizeLine; decide), fun t6 m6 => ⟨_, rfl, (by show 2 ≤ sizeLine; decide), fun t7 m7 => ⟨(by show 2 ≤ sizeLine; decide), fun t8 m8 => ⟨(by show 2 ≤ sizeLine; decide), fun t9 m9 => ⟨(by show 2 ≤ sizeLine; decide), fun t10 m10 => ⟨(by show 2 ≤ sizeLine; decide), fun t11 m11 => ⟨(by show 12 ≤ sizeLine; decide), fun l nl => ?_⟩⟩⟩⟩⟩⟩⟩⟩⟩⟩⟩⟩⟩⟩
    have e0 := new_same m0 (HO.tup [.int (-1), .int 1])
    have e1 := new_same m1 (HO.tup [.int (-1), .int 1])
    have e2 := new_same m2 (HO.tup [.int (-1), .int 1])
    have e3 := new_same m3 (HO.tup [.int 1, .int 1])
    have e4 := new_same m4 (HO.tup [.int 2, .int 1])
    have e5 := new_same m5 (HO.tup [.int (-2), .int 1])
    have e6 := new_same m6 (HO.tup [.int 1, .int 2])
    have e7 := new_same m7 (HO.tup [.int (-1), .int 2])
    have e8 := new_same m8 (HO.tup [.int 3, .int 1])
    have e9 := new_same m9 (HO.tup [.int 1, .int 3])
    have e10 := new_same m10 (HO.tup [.int 3, .int 2])
    have e11 := new_same m11 (HO.tup [.int 0, .int 1])
    have el := new_same nl (HO.lst [V.ref t0, V.ref t1, V.ref t2, V.ref t3, V.ref t4, V.ref t5, V.ref t6, V.ref t7, V.ref t8, V.ref t9, V.ref t10, V.ref t11])
    have r11 := el
    have r10 := e11.trans r11
    have r9 := e10.trans r10
    have r8 := e9.trans r9
    have r7 := e8.trans r8
    have r6 := e7.trans r7
    have r5 := e6.trans r6
    have r4 := e5.trans r5
    have r3 := e4.trans r4
    have r2 := e3.trans r3
    have r1 := e2.trans r2
    have r0 := e1.trans r1
    have sA := e0.trans r0
    have sT := (e0.trans (e1.trans (e2.trans (e3.trans (e4.trans (e5.trans (e6.trans (e7.trans (e8.trans (e9.trans (e10.trans e11)))))))))))
    refine ⟨n + 57, B, p, l, _, rfl, upd_same, ((b1.same sT).at nl).1, (by show 0 < 12; decide), (by show 12 ≤ 1000; decide), b1.same sA, fun H2 x b2 u2 hx => ?_⟩
    have uu : But B H1 H2 := (But.same sA).trans u2
    have k2 : ∀ (t : Addr) (c : Rat), (upd (upd (upd (upd (upd (upd (upd (upd (upd (upd (upd (upd (upd H1 t0 (HO.tup [.int (-1), .int 1])) t1 (HO.tup [.int (-1), .int 1])) t2 (HO.tup [.int (-1), .int 1])) t3 (HO.tup [.int 1, .int 1])) t4 (HO.tup [.int 2, .int 1])) t5 (HO.tup [.int (-2), .int 1])) t6 (HO.tup [.int 1, .int 2])) t7 (HO.tup [.int (-1), .int 2])) t8 (HO.tup [.int 3, .int 1])) t9 (HO.tup [.int 1, .int 3])) t10 (HO.tup [.int 3, .int 2])) t11 (HO.tup [.int 0, .int 1])) l (HO.lst [V.ref t0, V.ref t1, V.ref t2, V.ref t3, V.ref t4, V.ref t5, V.ref t6, V.ref t7, V.ref t8, V.ref t9, V.ref t10, V.ref t11])) t = some (rT c) → LdC c → ∃ (x : V) (c : Rat), [some (V.ref B), some (V.int (deg : Nat)), some (V.ref t), none] = [some (V.ref B), some (V.int (deg : Nat)), some x, none] ∧ Nq K H2 x c ∧ LdC c ∧ Bag (n + 57) H2 B p ∧ But B H H2 := fun t c e lc => ⟨.ref t, c, rfl, (Nq.at (K := K) e).go (b1.same sA) (Go.of u2), lc, b2, u1.trans uu⟩
    simp only [List.mem_cons, List.not_mem_nil, or_false] at hx
    rcases hx with rfl | rfl | rfl | rfl | rfl | rfl | rfl | rfl | rfl | rfl | rfl | rfl
    · exact k2 _ (-1) (r0 _ _ upd_same) (.inr (.inr (.inl rfl)))
    · exact k2 _ (-1) (r1 _ _ upd_same) (.inr (.inr (.inl rfl)))
    · exact k2 _ (-1) (r2 _ _ upd_same) (.inr (.inr (.inl rfl)))
    · exact k2 _ 1 (r3 _ _ upd_same) (.inr (.inl rfl))
    · exact k2 _ 2 (r4 _ _ upd_same) (LdC.st ld_2 (by decide) (by decide))
    · exact k2 _ (-2) (r5 _ _ upd_same) (LdC.st ld_m2 (by decide) (by decide))
    · exact k2 _ (mkRat 1 2) (r6 _ _ upd_same) (LdC.st ld_h (by decide) (by decide))
    · exact k2 _ (mkRat (-1) 2) (r7 _ _ upd_same) (LdC.st ld_mh (by decide) (by decide))
    · exact k2 _ 3 (r8 _ _ upd_same) (LdC.st ld_3 (by decide) (by decide))
    · exact k2 _ (mkRat 1 3) (r9 _ _ upd_same) (LdC.st ld_t (by decide) (by decide))
    · exact k2 _ (mkRat 3 2) (r10 _ _ upd_same) (LdC.st ld_th (by decide) (by decide))
    · exact k2 _ 0 (r11 _ _ upd_same) (.inl rfl)
  rintro σ H2 ⟨x, c, rfl, nx, lc, b2, u2⟩
  refine ⟨fun σ G => ∃ (e : Addr) (xs : List V) (rs : List Rat), σ = [some (.ref B), some (.int (deg : Nat)), some x, some (.ref e)] ∧ Nq K G x c ∧ Bag (n + 17) G B p ∧ But B H G ∧ H e = none ∧ e ≠ B ∧ e ≠ p ∧ G e = some (.lst xs) ∧ Nl K G xs (0 :: c :: rs) ∧ rs.length + 1 = deg ∧ (∀ r ∈ rs, NumQ r), ?_, ?_⟩
  · refine ⟨_, rfl, _, rfl, _, rfl, n + 17, B, p, deg, x, c, rfl, b2, d2, by omega, nx, fun H3 e ys rs b3 u3 eN eB ep he nr lr nq => ?_⟩
    exact ⟨e, ys, rs, rfl, nx.go b2 (Go.of u3), b3, u2.trans u3, u2.free b2 eN, eB, ep, he, nr, lr, nq⟩
  clear nx b2 u2
  rintro σ H3 ⟨e, xs, rs, rfl, nx, b3, u3, eN, eB, ep, he, nr, lr, nq⟩
  have lx : xs.length = deg + 1 := by rw [nr.1, List.length_cons, List.length_cons]; omega
  refine ⟨fun σ G => ∃ (rs : List Rat) (d : Nat), σ = [some (.ref B), some (.int (deg : Nat)), some x, some (.ref e)] ∧ Nq K G x c ∧ Bag (n + 12) G B p ∧ But B H G ∧ Ls K G (.ref e) (0 :: c :: rs) ∧ rs.length + 1 = deg ∧ 0 < d ∧ d ≤ 99 ∧ (∀ r ∈ rs, TlQ d r), ?_, ?_⟩
  · refine ⟨_, rfl, n + 16, B, p, 12, rfl, by decide, by decide, b3, fun H4 k b4 u4 k0 k1' => ⟨rfl, _, rfl, ite2 (fun _ => ?_) (fun _ => ?_)⟩⟩
    · refine ⟨_, rfl, n + 14, B, p, rfl, b4, fun H5 y r b5 u5 ny br => ?_⟩
      refine ⟨_, rfl, _, rfl, _, rfl, _, _, rfl, rfl, n + 13, B, p, _, rfl, by omega, by omega, b5, fun H6 d b6 u6 d0 d1 => ⟨_, d, rfl, rfl, ?_⟩⟩
      have u46 := u4.trans (u5.trans u6)
      have he6 := u46 _ _ eB he
      have hj : (2 : Int) + d = ((2 + d.toNat : Nat) : Int) := by omega
      refine ⟨e, xs, _, 2 + d.toNat, rfl, rfl, he6, ?_, ?_⟩
      · show ixN xs.length ((2 : Int) + d) = _
        rw [hj]
        unfold ixN
        rw [if_pos (by omega), if_pos (by omega)]
        congr 1
      have nr6 := nr.go b3 (Go.of u46)
      have nx6 := nx.go b3 (Go.of u46)
      have ny6 := ny.go b5 (Go.of u6)
      have bu : But e H6 (upd H6 e (.lst (xs.set (2 + d.toNat) y))) := fun b o n h => by rw [upd_ne n]; exact h
      have r0 : 0 < r.den := Nat.pos_of_ne_zero r.den_nz
      have es : (0 :: c :: rs).set (2 + d.toNat) r = 0 :: c :: rs.set d.toNat r := by
        rw [Nat.add_comm 2]
        rfl
      have tl : ∀ z ∈ rs.set d.toNat r, TlQ r.den z := fun z hz => by
        rcases List.mem_or_eq_of_mem_set hz with hz | rfl
        · exact (nq z hz).tl _
        · exact ⟨Nat.dvd_mul_left _ _, br.2⟩
      refine ⟨rs.set d.toNat r, r.den, rfl, nx6.butL he6 bu, (b6.upd eB ep).less (by omega), fun b o hb' ho => ?_, ⟨e, _, rfl, upd_same, ?_⟩, by rw [List.length_set]; exact lr, r0, br.1, tl⟩
      · rw [upd_ne (fun z => by rw [z, eN] at ho; cases ho)]
        exact u46 _ _ hb' (u3 _ _ hb' ho)
      · rw [← es]
        refine ⟨by rw [List.length_set, List.length_set, nr.1], fun i x z h1 h2 => ?_⟩
        rw [List.getElem?_set] at h1 h2
        by_cases c' : 2 + d.toNat = i
        · subst c'
          rw [if_pos rfl, if_pos (by omega)] at h1
          rw [if_pos rfl, if_pos (by rw [List.length_cons, List.length_cons]; omega)] at h2
          rw [← Option.some.inj h1, ← Option.some.inj h2]
          exact ny6.butL he6 bu
        · rw [if_neg c'] at h1 h2
          exact (nr6.2 i x z h1 h2).butL he6 bu
    · exact ⟨rs, 1, rfl, nx.go b3 (Go.of u4), b4.less (by omega), u3.trans u4, ⟨e, xs, rfl, u4 _ _ eB he, nr.go b3 (Go.of u4)⟩, lr, by decide, by decide, fun r hr => (nq r hr).tl 1⟩
  clear nx b3 u3 he nr lr nq rs
  rintro σ H4 ⟨rs, d, rfl, nx, b4, u4, le, lr, d0, d9, tl⟩
  refine ⟨_, rfl, n + 11, B, p, 12, rfl, by decide, by decide, b4, fun H5 k b5 u5 k0 k1' => ⟨rfl, _, rfl, ite2 (fun _ => ?_) (fun _ => ?_)⟩⟩
  · refine ⟨_, rfl, _, rfl, x, c, deg, rfl, nx.go b4 (Go.of u5), lc.ok, by omega, by omega, fun b H6 ys s6 nb hb6 mb6 => ?_⟩
    refine q H6 _ c (List.replicate (deg - 1) 0) 1 ((b5.same s6).less (by omega)) ((u4.trans u5).trans (But.same s6)) ⟨b, ys, rfl, hb6, mb6⟩ (by rw [List.length_replicate]; omega) (by rw [List.length_replicate]; omega) (by decide) (by decide) (fun r hr => ?_) lc
    rw [List.eq_of_mem_replicate hr]
    exact ⟨by decide +kernel, by decide +kernel⟩
  · exact ⟨_, rfl, q H5 _ c rs d (b5.less (by omega)) (u4.trans u5) (le.go (by rw [List.length_cons, List.length_cons]; omega) b4 (Go.of u5)) (by omega) (by omega) d0 d9 tl lc⟩
end
end Kx
end
section
set_option maxHeartbeats 4000000
namespace Kx
open PySem PySem.Spec PyProof.Rows L2 RZ
/-! ### parts that fit -/
def spIfr (K : PySem.W.Frag) : Sp := fun vs H Q _ => ∃ (x : V) (q : Rat), vs = [x] ∧ Nq K H x q ∧ Ok q ∧ ∀ H', Same H H' → Q (.bl true) H'
theorem kb_i : kitB "int" "int" = some true ∧ kitB "int" "bool" = some false := by decide +kernel
theorem allD_toL {L B n : Nat} {F : Ser} (h : ∀ k, k < n → Dq L B (F k)) : AllD L B (toL n F) := fun q hq => by
  obtain ⟨i, hi⟩ := List.getElem?_of_mem hq
  rcases Nat.lt_or_ge i n with c | c
  · rw [toL_get c] at hi
    rw [← Option.some.inj hi]
    exact h i c
  · rw [List.getElem?_eq_none (by rw [toL_len]; exact c)] at hi
    cases hi
theorem Ls.dp {K : PySem.W.Frag} {H : Hp} {v : V} {qs : List Rat} (h : Ls K H v qs) : Dp K H v (datL qs) := by
  obtain ⟨a, xs, rfl, ha, nx⟩ := h
  exact nx.dp ha
/-- what a step's parts are -/
structure PtE (f : Ser) (N : Nat) : Prop where
  f0 : f 0 = 0
  p0 : puS f 0 = 0
  u0 : slS f 0 = 0
  h0 : srS f 0 = 0
  u1 : slS f 1 = 1
  p1 : puS f 1 = f 1
  h1 : srS f 1 = 1
  ps : cmpS (puS f) (slS f) = f
  sp : cmpS (slS f) (puS f) = f
  hp : EqTo (N + 1) (cmpS (srS f) (puS f)) (scS (f 1) (srS f))
theorem flH_1 {s : Ser} (s1 : s 1 = -1) : flH s 1 = 1 := by
  show (xS 1 - s 1) * hfq = 1
  rw [s1]
  decide +kernel
theorem PaOk.e {f : Ser} {N : Nat} (h : PaOk f N) (z : f 1 ≠ 0) : PtE f N := by
  have f0 := h.z
  by_cases a : f 1 = 1
  · have e1 : slS f = f := if_pos a
    have e2 : puS f = xS := if_pos a
    have e3 : srS f = xS := if_pos a
    refine ⟨f0, by rw [e2]; rfl, by rw [e1]; exact f0, by rw [e3]; rfl, by rw [e1]; exact a, by rw [e2, a]; rfl, by rw [e3]; rfl, by rw [e1, e2]; exact xl0 f0, by rw [e1, e2, cmpS_xr], fun k _ => ?_⟩
    rw [e2, e3, a, cmpS_xr]
    show xS k = 1 * xS k
    rw [Rat.one_mul]
  by_cases b : f 1 = -1
  · have e1 : slS f = flU f := by unfold slS; rw [if_neg a, if_pos b]
    have e2 : puS f = flP f := by unfold puS; rw [if_neg a, if_pos b]
    have e3 : srS f = flH (flP f) := by unfold srS; rw [if_neg a, if_pos b]
    have p0 := fl_p0 f0 b
    refine ⟨f0, by rw [e2]; exact p0, by rw [e1]; rfl, ?_, by rw [e1]; exact fl_1 f0 b, by rw [e2, b]; exact fl_p1 f0 b, by rw [e3]; exact flH_1 (fl_p1 f0 b), by rw [e1, e2]; exact fl_su f0 b, by rw [e1, e2]; exact fl_us f0 b, fun k _ => ?_⟩
    · rw [e3]
      show (xS 0 - flP f 0) * hfq = 0
      rw [p0]
      decide +kernel
    · rw [e2, e3, b, flH_cmp p0 (fl_pp f0 b)]
  · have e1 : slS f = xS := by unfold slS; rw [if_neg a, if_neg b]
    have e2 : puS f = f := by unfold puS; rw [if_neg a, if_neg b]
    have e3 : srS f = stS f := by unfold srS; rw [if_neg a, if_neg b]
    have so := h.st z a b
    refine ⟨f0, by rw [e2]; exact f0, by rw [e1]; rfl, by rw [e3]; rfl, by rw [e1]; rfl, by rw [e2], by rw [e3]; exact stS_1 f, by rw [e1, e2, cmpS_xr], by rw [e1, e2]; exact xl0 f0, ?_⟩
    rw [e2, e3]
    refine stS_cmp f0 fun n n2 nN => ?_
    obtain ⟨k, rfl⟩ : ∃ k, n = k + 1 := ⟨n - 1, by omega⟩
    exact (so.d k (by omega) (by omega)).1
theorem sc_x {f h : Ser} (h0 : h 0 = 0) (c : Rat) : cmpS (scS c xS) h = scS c h := by rw [cmp_sc, xl0 h0]
theorem scL_T {N : Nat} (n1 : 1 ≤ N) (c : Rat) : scL N c = toT N (scS c xS) := by
  obtain ⟨m, rfl⟩ : ∃ m, N = m + 1 := ⟨N - 1, by omega⟩
  have e : toT (m + 1) (scS c xS) = (toT (m + 1) xS).map (c * ·) := (map_T xS (c * ·) (m + 1)).symm
  rw [e, ← stL_T (by omega)]
  show c :: List.replicate (m + 1 - 1) 0 = (c * 1) :: (List.replicate (m + 1 - 1) (0 : Rat)).map (c * ·)
  rw [List.map_replicate, Rat.mul_one, Rat.mul_zero]
/-- the paper's own check wants -/
theorem wr_ok {f : Ser} {N M : Nat} (pa : PaOk f N) (z : f 1 ≠ 0) (sz : PSz f N M) : WrOk (toT N f) (toT N (puS f)) (toT N (slS f)) (toT N (srS f)) := by
  have e := pa.e z
  have n2 := pa.n2
  have c0 : scS (f 1) xS 0 = 0 := Rat.mul_zero _
  have p1 : serS (toT N (puS f)) 1 = f 1 := by rw [serS_toT e.p0 1 (by omega), e.p1]
  have sM := sm600 sz.m sz.m0
  refine ⟨by rw [toT_len, toT_len], by rw [toT_len, toT_len], by rw [toT_len, toT_len], by rw [serS_toT e.u0 1 (by omega)]; exact e.u1, by rw [serS_toT e.h0 1 (by omega), e.h1]; decide, by rw [cmp_T e.p0 e.u0, e.ps], by rw [cmp_T e.u0 e.p0, e.sp], ?_, gl_mul sz.m0 sz.m sz.gs sz.gu e.p0 e.u0, gl_mul sz.m0 sz.m sz.gu sz.gs e.u0 e.p0, gl_mul sz.m0 sz.m sz.gh sz.gs e.h0 e.p0, ?_⟩
  · rw [toT_len, p1, scL_T (by omega), cmp_T e.h0 e.p0, cmp_T c0 e.h0, sc_x (f := f) e.h0]
    exact toT_eq e.hp
  · rw [toT_len, p1]
    refine ⟨M, 9000, M, 9000, sM.2, by decide, sM.2, by decide, fun q hq => ?_, sz.gh.pow (toT_len _ _) (serS_toT e.h0)⟩
    rcases List.mem_cons.mp hq with rfl | hq
    · exact sz.gf.one (by omega)
    · rw [List.eq_of_mem_replicate hq]
      exact Dq.zero
/-- law: one put into another -/
theorem rd_put {K : PySem.W.Frag} {H : Hp} {x y : V} {p q : Ser} {N M : Nat} {Q : VK} {E : XK} (lx : Ls K H x (toL (N + 1) p)) (ly : Ls K H y (toL (N + 1) q)) (q0 : q 0 = 0) (n7 : N ≤ 7) (m0 : 0 < M) (m : M < 2 ^ 600) (gp : Gl M 9000 p N) (gq : Gl M 9000 q N) (k : GivesL K H Q (toL (N + 1) (cmpS p q))) : spPutL K [x, y] H Q E := by
  have sM := (sm600 m m0).2
  refine ⟨x, y, _, _, M, 9000, M, 9000, rfl, lx, ly, by rw [toL_len, toL_len], by rw [toL_len]; omega, by rw [toL_len]; omega, by rw [ser_toL 0 (by omega), q0], sM, by decide, sM, by decide, ?_, allD_toL fun k hk => gp.one (by omega), allD_toL fun k hk => gq.one (by omega), fun b H2 zs s2 nb hb mb => ?_⟩
  · rw [toL_len]
    have h1 : M ^ (N + 1) ≤ (2 ^ 600) ^ (N + 1) := Nat.pow_le_pow_left (Nat.le_of_lt m) _
    rw [← Nat.pow_mul] at h1
    have h2 := Nat.mul_lt_mul_of_lt_of_le m h1 (Nat.pow_pos (by decide))
    rw [← Nat.pow_add] at h2
    exact Nat.lt_of_lt_of_le h2 (Nat.pow_le_pow_right (by decide) (by omega))
  · rw [toL_len, toL_eq (EqTo.cmp ser_toL ser_toL)] at mb
    exact k b H2 zs s2 nb hb mb
section
variable {P : Program} {w : World} {K : PySem.W.Frag} {mg : Str → Option Value} {base : Heap} {f o0 : Addr} {fd : FuncData}
theorem scIfr : FnScope ["_law_p"] ["_law_p"] (defScope L_is_fraction) := ⟨rfl, rfl, rfl, by decide +kernel, rfl, by decide +kernel, by decide +kernel⟩
theorem ok_ifr (F : Fun K "_law_is_fraction" "_law_is_fraction" L_is_fraction f fd) (mI : mg "isinstance" = none) (mt : mg "tuple" = none) (mi : mg "int" = none) (mb : mg "bool" = none) (mn : mg "len" = none) (UL : Use P w K mg base CX0 1 "_law_low" ["_law_num_here", "_law_den"] spLowQ []) : FnOk P w K mg base CX0 2 f fd ["_law_p"] (spIfr K) := by
  refine F.ok scIfr (fun vs H Q E h => ?_) (fun cdv A outer s H vs Q E hr h => ?_)
  · obtain ⟨x, q, rfl, _⟩ := h
    rfl
  obtain ⟨x, r, rfl, nx, or, q⟩ := h
  refine ⟨_, pss_cons (ps_if (PW.pt (pw_or (pt_not (pt_val (pe_callB call_isi rfl mI (by decide +kernel) (pa_cons (pv 0) (pa_cons (pe_bltn rfl mt boot_tuple (rel_ty _)) pa_nil))))) (pw_or1 (pt_cmpR op_ne (pe_callB call_len_seq rfl mn PySem.boot_len (pa_cons (pv 0) pa_nil)) pe_int (nomark _))))) (pss_one (ps_ret pe_bl)) pss_nil)
    (pss_cons (ps_if (PW.pt (pw_or (pt_not (pt_val (pe_callB call_isi rfl mI (by decide +kernel) (pa_cons (pe_ix ix_tup (pv 0) pe_int (fun _ _ => rfl)) (pa_cons (pe_bltn rfl mi boot_int (rel_ty _)) pa_nil))))) (pw_or (pt_not (pt_val (pe_callB call_isi rfl mI (by decide +kernel) (pa_cons (pe_ix ix_tup (pv 0) pe_int (fun _ _ => rfl)) (pa_cons (pe_bltn rfl mi boot_int (rel_ty _)) pa_nil))))) (pw_or (pt_val (pe_callB call_isi rfl mI (by decide +kernel) (pa_cons (pe_ix ix_tup (pv 0) pe_int (fun _ _ => rfl)) (pa_cons (pe_bltn rfl mb boot_bool (rel_ty _)) pa_nil)))) (pw_or1 (pt_val (pe_callB call_isi rfl mI (by decide +kernel) (pa_cons (pe_ix ix_tup (pv 0) pe_int (fun _ _ => rfl)) (pa_cons (pe_bltn rfl mb boot_bool (rel_ty _)) pa_nil))))))))) (pss_one (ps_ret pe_bl)) pss_nil)
    (pss_one (ps_ret (pe_and (pe_cmpR op_ge (pe_ix ix_tup (pv 0) pe_int (fun _ _ => rfl)) pe_int (nomark _)) (pe_one (pe_cmpR (op_eqD hr.units) (pe_use UL hr rfl pass0 (pa_cons (pe_ix ix_tup (pv 0) pe_int (fun _ _ => rfl)) (pa_cons (pe_ix ix_tup (pv 0) pe_int (fun _ _ => rfl)) pa_nil))) (pv 0) (nomark _))))))), ?_⟩
  obtain ⟨a, rfl, sa, ta⟩ := nx.sq
  refine ⟨_, rfl, .ref a, _, _, _, _, rfl, .ty _, ta, kit_ty kb_l.2.2.2, _, rfl, iteF ?_⟩
  refine ⟨_, rfl, a, _, rfl, .inr sa, rfl, _, rfl, iteNS rfl ?_⟩
  refine ⟨_, rfl, a, _, 0, _, rfl, rfl, sa, rfl, _, _, _, _, _, rfl, .ty _, ty_flat (v := .int r.num) rfl, kit_ty kb_i.1, _, rfl, iteF ?_⟩
  refine ⟨_, rfl, a, _, 1, _, rfl, rfl, sa, rfl, _, _, _, _, _, rfl, .ty _, ty_flat (v := .int (r.den : Nat)) rfl, kit_ty kb_i.1, _, rfl, iteF ?_⟩
  refine ⟨_, rfl, a, _, 0, _, rfl, rfl, sa, rfl, _, _, _, _, _, rfl, .ty _, ty_flat (v := .int r.num) rfl, kit_ty kb_i.2, _, rfl, iteF ?_⟩
  refine ⟨_, rfl, a, _, 1, _, rfl, rfl, sa, rfl, _, _, _, _, _, rfl, .ty _, ty_flat (v := .int (r.den : Nat)) rfl, kit_ty kb_i.2, _, rfl, iteF ?_⟩
  have d1 := Nat.pos_of_ne_zero r.den_nz
  refine ⟨_, rfl, a, _, 1, _, rfl, rfl, sa, rfl, ((r.den : Nat) : Int), 1, rfl, rfl, _, rfl, ?_⟩
  rw [decide_eq_true (show (1 : Int) ≤ ((r.den : Nat) : Int) by omega)]
  refine iteT ⟨_, rfl, a, _, 0, _, rfl, rfl, sa, rfl, _, rfl, a, _, 1, _, rfl, rfl, sa, rfl, r.num, ((r.den : Nat) : Int), rfl, by omega, ?_, fun t H2 s2 n2 e2 => ?_⟩
  · exact PySem.Flt.log2_lt_of (by decide) (by rw [Int.natAbs_natCast]; exact Nat.lt_of_lt_of_le or.2 (Nat.pow_le_pow_right (by decide) (by decide)))
  · have ed : Rat.divInt r.num ((r.den : Nat) : Int) = r := Rat.num_divInt_den r
    rw [ed] at e2
    refine ⟨_, rfl, tupQ r, tupQ r, (Nq.at (K := K) e2).dp, (nx.same s2).dp, rfl, rfl, ?_⟩
    rw [eqv_num, decide_eq_true rfl]
    exact q H2 s2
end
end Kx
end
section
set_option maxHeartbeats 4000000
namespace Kx
open PySem PySem.Spec PyProof.Rows L2 RZ
/-! ### the law's parts_fit -/
def spPfi (K : PySem.W.Frag) : Sp := fun vs H Q _ => ∃ (v1 v2 v3 v4 : V) (f : Ser) (N M : Nat), vs = [v1, v2, v3, v4] ∧ Ls K H v1 (toL (N + 1) f) ∧ Ls K H v2 (toL (N + 1) (puS f)) ∧ Ls K H v3 (toL (N + 1) (slS f)) ∧ Ls K H v4 (toL (N + 1) (srS f)) ∧ N ≤ 7 ∧ f 1 ≠ 0 ∧ PaOk f N ∧ PSz f N M ∧ ∀ H', Same H H' → Q (.bl true) H'
abbrev nPfi : List Str := ["_law_f", "_law_s", "_law_u", "_law_h", "_law_still_y", "_law_cc", "_law_p"]
theorem x_L {n : Nat} (h : 1 ≤ n) : xL n = toL (n + 1) xS := by
  show 0 :: stL n = _
  rw [stL_T h]
  exact toT0 rfl
theorem map_L (F : Ser) (h : Rat → Rat) (n : Nat) : (toL n F).map h = toL n (fun k => h (F k)) := by
  unfold toL
  rw [List.map_map]
  rfl
theorem zip_L (f g : Ser) (op : Rat → Rat → Rat) (n : Nat) : (toL n f).zipWith op (toL n g) = toL n (fun k => op (f k) (g k)) := by
  unfold toL
  rw [List.zipWith_map_left, List.zipWith_map_right, List.zipWith_self]
theorem gl_okL {M N : Nat} {p : Ser} (m0 : 0 < M) (m : M < 2 ^ 600) (gp : Gl M 9000 p N) : AllO (toL (N + 1) p) := (allD_toL (L := M) (B := 9000) fun k hk => gp.one (show k ≤ N by omega)).ok (sm600 m m0).2 (by decide)
section
variable {P : Program} {w : World} {K : PySem.W.Frag} {mg : Str → Option Value} {base : Heap} {f o0 : Addr} {fd : FuncData}
/-- two lists are told equal -/
theorem rd_ll {K : PySem.W.Frag} {H : Hp} {x y : V} {p q : List Rat} (lx : Ls K H x p) (ly : Ls K H y q) {Q : PyData → PyData → Prop} (h : Q (datL p) (datL q)) : Dp K H x (datL p) ∧ Dp K H y (datL q) := ⟨lx.dp, ly.dp⟩
theorem scPfi : FnScope nPfi ["_law_f", "_law_s", "_law_u", "_law_h"] (defScope L_parts_fit) := ⟨rfl, rfl, rfl, by decide +kernel, rfl, by decide +kernel, by decide +kernel⟩
theorem ok_pfi (F : Fun K "_law_parts_fit" "_law_parts_fit" L_parts_fit f fd) (mn : mg "len" = none) (ma : mg "all" = none) (UX : Use P w K mg base CX0 1 "_law_x" ["_law_deg"] (spX K) []) (UI : Use P w K mg base CX0 2 "_law_is_fraction" ["_law_p"] (spIfr K) []) (UP : Use P w K mg base CX0 2 "_law_put" ["_law_u", "_law_f"] (spPutL K) []) (US : Use P w K mg base CX0 3 "_law_scaled" ["_law_u", "_law_p"] (spMulsL K) []) (UL : Use P w K mg base CX0 3 "_law_less" ["_law_u", "_law_w"] (spTwoL K (· - ·)) []) : FnOk P w K mg base CX0 4 f fd ["_law_f", "_law_s", "_law_u", "_law_h"] (spPfi K) := by
  refine F.ok scPfi (fun vs H Q E h => ?_) (fun cdv A outer s H vs Q E hr h => ?_)
  · obtain ⟨v1, v2, v3, v4, f, N, M, rfl, _⟩ := h
    rfl
  obtain ⟨v1, v2, v3, v4, f, N, M, rfl, l1, l2, l3, l4, n7, z, pa, sz, q⟩ := h
  have hr1 := hr.mono (show 1 ≤ 3 by decide)
  have hr2 := hr.mono (show 2 ≤ 3 by decide)
  refine ⟨_, C8.pss_cut (ps_par (i := 4) (j := 5) rfl scPfi.nd rfl rfl (by decide) rfl rfl (pa_cons (pe_use UX hr1 rfl pass0 (pa_cons (pe_op op_sub (pe_callB call_len_seq rfl mn PySem.boot_len (pa_cons (pv 0) pa_nil)) pe_int) pa_nil)) (pa_cons (pe_ix ix_list (pv 0) pe_int (fun _ _ => rfl)) pa_nil)) rfl)
    (C8.pss_cut (ps_if (PW.pt (pw_or (pt_not (pt_val (pe_callB (cr_all rfl) rfl ma (by decide +kernel) (pa_cons (pe_lc (own := [("_law_p", 6)]) (g := gName 6) (tt := tYes) rfl scPfi.nd (pi_list (pe_op op_cat (pe_op op_cat (pv 1) (pv 2)) (pv 3))) (blkOk_by (N := nPfi) (sc := defScope L_parts_fit) (by decide +kernel)) (fun _ _ _ _ _ => pg_name (i := 6) scPfi.nd rfl (Or.inl rfl)) (fun _ _ _ _ _ => pts_nil) (fun _ _ _ _ _ => pe_use UI hr2 rfl pass0 (pa_cons (pv 6) pa_nil))) pa_nil)))) (pw_or (pt_cmpR (op_neD hr.units) (pe_ix ix_list (pv 2) pe_int (fun _ _ => rfl)) (pe_tup (pa_cons pe_int (pa_cons pe_int pa_nil))) (nomark _)) (pw_or1 (pt_cmpR (op_neD hr.units) (pe_ix ix_list (pv 1) pe_int (fun _ _ => rfl)) (pv 5) (nomark _)))))) (pss_one (ps_ret pe_bl)) pss_nil)
    (C8.pss_cut (ps_if (PW.pt (pw_or (pt_cmpR (op_neD hr.units) (pe_use UP hr2 rfl pass0 (pa_cons (pv 1) (pa_cons (pv 2) pa_nil))) (pv 0) (nomark _)) (pw_or1 (pt_cmpR (op_neD hr.units) (pe_use UP hr2 rfl pass0 (pa_cons (pv 2) (pa_cons (pv 1) pa_nil))) (pv 0) (nomark _))))) (pss_one (ps_ret pe_bl)) pss_nil)
    (pss_cons (ps_if (pt_cmpR (op_eqD hr.units) (pv 5) (pe_tup (pa_cons pe_int (pa_cons pe_int pa_nil))) (nomark _)) (pss_one (ps_ret (pe_and (pe_cmpR (op_eqD hr.units) (pv 1) (pv 4) (nomark _)) (pe_one (pe_cmpR (op_eqD hr.units) (pv 3) (pv 4) (nomark _)))))) pss_nil)
    (pss_cons (ps_if (pt_cmpR (op_eqD hr.units) (pv 5) (pe_tup (pa_cons (pe_un un_neg pe_int) (pa_cons pe_int pa_nil))) (nomark _)) (pss_one (ps_ret (pe_and (pe_cmpR (op_eqD hr.units) (pe_use UP hr2 rfl pass0 (pa_cons (pv 1) (pa_cons (pv 1) pa_nil))) (pv 4) (nomark _)) (pe_one (pe_cmpR (op_eqD hr.units) (pv 3) (pe_use US hr rfl pass0 (pa_cons (pe_use UL hr rfl pass0 (pa_cons (pv 4) (pa_cons (pv 1) pa_nil))) (pa_cons (pe_tup (pa_cons pe_int (pa_cons pe_int pa_nil))) pa_nil))) (nomark _)))))) pss_nil)
    (pss_one (ps_ret (pe_and (pe_cmpR (op_eqD hr.units) (pv 2) (pv 4) (nomark _)) (pe_and (pe_cmpR (op_eqD hr.units) (pe_ix ix_list (pv 3) pe_int (fun _ _ => rfl)) (pe_tup (pa_cons pe_int (pa_cons pe_int pa_nil))) (nomark _)) (pe_one (pe_cmpR (op_eqD hr.units) (pe_use UP hr2 rfl pass0 (pa_cons (pv 3) (pa_cons (pv 1) pa_nil))) (pe_use US hr rfl pass0 (pa_cons (pv 3) (pa_cons (pv 5) pa_nil))) (nomark _))))))))))), ?_⟩
  have n2 := pa.n2
  have e := pa.e z
  obtain ⟨m0, m, gf, gu, gs, gh, gx⟩ := sz
  have sM := (sm600 m m0).2
  obtain ⟨a1, y1, rfl, h1, m1⟩ := id l1
  obtain ⟨a2, y2, rfl, h2, m2⟩ := id l2
  obtain ⟨a3, y3, rfl, h3, m3⟩ := id l3
  obtain ⟨a4, y4, rfl, h4, m4⟩ := id l4
  have k1 : y1.length = N + 1 := by rw [m1.1, toL_len]
  have k2 : y2.length = N + 1 := by rw [m2.1, toL_len]
  have k3 : y3.length = N + 1 := by rw [m3.1, toL_len]
  have k4 : y4.length = N + 1 := by rw [m4.1, toL_len]
  have one : ∀ {a : Addr} {ys : List V} {g : Ser} {G : Hp}, Nl K G ys (toL (N + 1) g) → ∃ y, ys[1]? = some y ∧ Nq K G y (g 1) := fun {a ys g G} mm => by
    have := toL_get (n := N + 1) (f := g) (i := 1) (by omega)
    obtain ⟨y, ey, ny⟩ := mm.get' (i := 1) (by rw [toL_len]; omega)
    refine ⟨y, ey, ?_⟩
    have er : (toL (N + 1) g)[1]'(by rw [toL_len]; omega) = g 1 := by
      rw [List.getElem?_eq_getElem (by rw [toL_len]; omega)] at this
      exact Option.some.inj this
    rw [er] at ny
    exact ny
  obtain ⟨c1, ec1, nc1⟩ := one (a := a1) m1
  refine ⟨fun σ G => Same H G ∧ ∃ vx, σ = [some (.ref a1), some (.ref a2), some (.ref a3), some (.ref a4), some vx, some c1, none] ∧ Ls K G vx (toL (N + 1) xS), ?_, ?_⟩
  · refine ⟨_, rfl, a1, y1, rfl, .inl (SqL.of h1), _, 1, rfl, rfl, N, by rw [k1]; show [V.int (((N + 1 : Nat) : Int) - 1)] = _; congr 2; omega, by omega, by omega, fun b H1 zs s1 nb hb mb => ?_⟩
    rw [x_L (by omega)] at mb
    refine ⟨_, rfl, a1, y1, 1, c1, rfl, rfl, SqL.of (s1 _ _ h1), at_of (j := 1) rfl ec1, ?_⟩
    exact ⟨_, _, rfl, s1, _, rfl, ⟨b, zs, rfl, hb, mb⟩⟩
  rintro σ G ⟨s, vx, rfl, lx⟩
  obtain ⟨c2, ec2, nc2⟩ := one (a := a2) m2
  obtain ⟨c3, ec3, nc3⟩ := one (a := a3) m3
  obtain ⟨c4, ec4, nc4⟩ := one (a := a4) m4
  refine ⟨fun σ G => Same H G ∧ ∃ vx, σ = [some (.ref a1), some (.ref a2), some (.ref a3), some (.ref a4), some vx, some c1, none] ∧ Ls K G vx (toL (N + 1) xS), ?_, ?_⟩
  · refine ⟨_, rfl, _, rfl, a2, a3, _, _, rfl, rfl, s _ _ h2, s _ _ h3, Nat.le_of_lt (small1000 (by omega)), fun d nd => ?_⟩
    have s1 := new_same nd (HO.lst (y2 ++ y3))
    refine ⟨_, rfl, d, a4, _, _, rfl, rfl, upd_same, (s.trans s1) _ _ h4, Nat.le_of_lt (small1000 (by rw [List.length_append]; omega)), fun l nl => ?_⟩
    have s2 := new_same nl (HO.lst (y2 ++ y3 ++ y4))
    have sA := s.trans (s1.trans s2)
    have hl : upd (upd G d (HO.lst (y2 ++ y3))) l (HO.lst (y2 ++ y3 ++ y4)) l = some (HO.lst (y2 ++ y3 ++ y4)) := upd_same
    have ml : Nl K (upd (upd G d (HO.lst (y2 ++ y3))) l (HO.lst (y2 ++ y3 ++ y4))) (y2 ++ y3 ++ y4) (toL (N + 1) (puS f) ++ toL (N + 1) (slS f) ++ toL (N + 1) (srS f)) := ((m2.app m3).app m4).same sA
    have lx2 := lx.same (s1.trans s2)
    generalize upd (upd G d (HO.lst (y2 ++ y3))) l (HO.lst (y2 ++ y3 ++ y4)) = G2 at sA hl ml lx2
    refine ⟨l, rfl, ⟨_, SqL.of hl⟩, fun Da nD => ?_⟩
    have ll : (y2 ++ y3 ++ y4).length ≤ 24 := by rw [List.length_append, List.length_append]; omega
    refine lc_acc (walk_list (K := K) (a := l) (xs := y2 ++ y3 ++ y4)) (fun i _ y => y = .bl true) (fun i H H' y l h _ _ => h) nD (by omega) (fun H2 s => SqL.of (s _ _ hl)) ?_ ?_
    · rintro i w' H2 H3 k hi s3 ⟨rfl, hz⟩ hk
      obtain ⟨c, ec, nc⟩ := ml.get hz
      have okc : Ok c := by
        rcases List.mem_append.mp (List.mem_of_getElem? ec) with h | h
        · rcases List.mem_append.mp h with h | h
          · exact gl_okL m0 m gs c h
          · exact gl_okL m0 m gu c h
        · exact gl_okL m0 m gh c h
      exact ⟨rfl, _, rfl, w', c, rfl, nc.same s3, okc, fun H4 s4 => hk _ _ s4 rfl⟩
    intro H2 zs s3 hDa hlz hR
    have ez : zs = (List.replicate (y2 ++ y3 ++ y4).length true).map V.bl := by
      apply List.ext_getElem?
      intro i
      rw [List.map_replicate, List.getElem?_replicate]
      by_cases c : i < (y2 ++ y3 ++ y4).length
      · rw [if_pos c]
        have e := List.getElem?_eq_getElem (l := zs) (i := i) (by omega)
        rw [e, hR i _ e]
      · rw [if_neg c, List.getElem?_eq_none (by omega)]
    refine ⟨Da, List.replicate (y2 ++ y3 ++ y4).length true, rfl, SqL.of (by rw [hDa, ez]), ?_⟩
    have eall : (List.replicate (y2 ++ y3 ++ y4).length true).all id = true := by simp
    rw [eall]
    have sB := sA.trans s3
    refine ⟨_, rfl, iteF ?_⟩
    refine ⟨_, rfl, a3, y3, 1, c3, rfl, rfl, SqL.of (sB _ _ h3), at_of (j := 1) rfl ec3, (by show 2 ≤ sizeLine; decide), fun t nt => ?_⟩
    have s4 := new_same nt (HO.tup [.int 1, .int 1])
    have t1 : Nq K (upd H2 t (HO.tup [.int 1, .int 1])) (.ref t) 1 := .at (K := K) upd_same
    generalize upd H2 t (HO.tup [.int 1, .int 1]) = H4 at s4 t1
    have sC := sB.trans s4
    refine ⟨tupQ (slS f 1), tupQ 1, (nc3.same sC).dp, t1.dp, rfl, rfl, _, rfl, ?_⟩
    rw [eqv_num, decide_eq_true e.u1]
    refine iteF ?_
    refine ⟨_, rfl, a2, y2, 1, c2, rfl, rfl, SqL.of (sC _ _ h2), at_of (j := 1) rfl ec2, _, rfl, tupQ (puS f 1), tupQ (f 1), (nc2.same sC).dp, (nc1.same sC).dp, rfl, rfl, _, rfl, ?_⟩
    rw [eqv_num, decide_eq_true e.p1]
    exact iteF ⟨sC, vx, rfl, lx2.same (s3.trans s4)⟩
  clear s lx
  rintro σ G ⟨s, vx, rfl, lx⟩
  refine ⟨fun σ G => Same H G ∧ ∃ vx, σ = [some (.ref a1), some (.ref a2), some (.ref a3), some (.ref a4), some vx, some c1, none] ∧ Ls K G vx (toL (N + 1) xS), ?_, ?_⟩
  · refine ⟨_, rfl, _, rfl, rd_put (E := fun _ _ _ => False) (l2.same s) (l3.same s) e.u0 n7 m0 m gs gu fun b H1 zs s1 nb hb mb => ?_⟩
    rw [e.ps] at mb
    have sB := s.trans s1
    refine ⟨_, rfl, datL _, datL _, mb.dp hb, (l1.same sB).dp, shaped_list _, shaped_list _, _, rfl, ?_⟩
    rw [eqv_list, decide_eq_true rfl]
    refine iteF ⟨_, rfl, _, rfl, rd_put (E := fun _ _ _ => False) (l3.same sB) (l2.same sB) e.p0 n7 m0 m gu gs fun b2 H2 zs2 s2 nb2 hb2 mb2 => ?_⟩
    rw [e.sp] at mb2
    have sC := sB.trans s2
    refine ⟨_, rfl, datL _, datL _, mb2.dp hb2, (l1.same sC).dp, shaped_list _, shaped_list _, _, rfl, ?_⟩
    rw [eqv_list, decide_eq_true rfl]
    exact iteF ⟨sC, vx, rfl, lx.same (s1.trans s2)⟩
  clear s lx
  rintro σ G ⟨s, vx, rfl, lx⟩
  refine ⟨_, rfl, (by show 2 ≤ sizeLine; decide), fun t nt => ?_⟩
  have s4 := new_same nt (HO.tup [.int 1, .int 1])
  have t1 : Nq K (upd G t (HO.tup [.int 1, .int 1])) (.ref t) 1 := .at (K := K) upd_same
  generalize upd G t (HO.tup [.int 1, .int 1]) = G1 at s4 t1
  have sC := s.trans s4
  have lx1 := lx.same s4
  refine ⟨tupQ (f 1), tupQ 1, (nc1.same sC).dp, t1.dp, rfl, rfl, _, rfl, ?_⟩
  rw [eqv_num]
  by_cases a : f 1 = 1
  · rw [decide_eq_true a]
    have e2 : puS f = xS := if_pos a
    have e3 : srS f = xS := if_pos a
    refine iteT ⟨_, rfl, _, rfl, datL _, datL _, (l2.same sC).dp, lx1.dp, shaped_list _, shaped_list _, ?_⟩
    rw [eqv_list, decide_eq_true (by rw [e2])]
    refine ⟨_, rfl, iteT ⟨_, rfl, _, rfl, datL _, datL _, (l4.same sC).dp, lx1.dp, shaped_list _, shaped_list _, ?_⟩⟩
    rw [eqv_list, decide_eq_true (by rw [e3])]
    exact q G1 sC
  rw [decide_eq_false a]
  refine iteF ⟨_, rfl, _, rfl, (by show 2 ≤ sizeLine; decide), fun t2 nt2 => ?_⟩
  have s5 := new_same nt2 (HO.tup [.int (-1), .int 1])
  have t2' : Nq K (upd G1 t2 (HO.tup [.int (-1), .int 1])) (.ref t2) (-1) := .at (K := K) upd_same
  have sD := sC.trans s5
  have lx2 := lx1.same s5
  refine ⟨tupQ (f 1), tupQ (-1), (nc1.same sD).dp, t2'.dp, rfl, rfl, _, rfl, ?_⟩
  rw [eqv_num]
  by_cases b : f 1 = -1
  · rw [decide_eq_true b]
    have e2 : puS f = flP f := by unfold puS; rw [if_neg a, if_pos b]
    have e3 : srS f = flH (flP f) := by unfold srS; rw [if_neg a, if_pos b]
    refine iteT ⟨_, rfl, _, rfl, rd_put (E := fun _ _ _ => False) (l2.same sD) (l2.same sD) e.p0 n7 m0 m gs gs fun b2 H2 zs2 s2 nb2 hb2 mb2 => ?_⟩
    have sE := sD.trans s2
    refine ⟨_, rfl, datL _, datL _, mb2.dp hb2, (lx2.same s2).dp, shaped_list _, shaped_list _, ?_⟩
    rw [eqv_list, decide_eq_true (by rw [e2, fl_pp e.f0 b])]
    refine ⟨_, rfl, iteT ⟨_, rfl, _, rfl, _, rfl, vx, .ref a2, _, _, rfl, lx2.same s2, l2.same sE, by rw [toL_len, toL_len], by rw [toL_len]; omega, gl_okL m0 m gx, gl_okL m0 m gs, fun b3 H3 zs3 s3 nb3 hb3 mb3 => ?_⟩⟩
    rw [zip_L] at mb3
    have o3 : AllO (toL (N + 1) fun k => xS k - puS f k) := (allD_toL (L := M) (B := 9001) fun k hk => (gx.one (show k ≤ N by omega)).sub (gs.one (show k ≤ N by omega)) (by decide) (by decide)).ok sM (by decide)
    refine ⟨(by show 2 ≤ sizeLine; decide), fun t3 nt3 => ?_⟩
    have s6 := new_same nt3 (HO.tup [.int 1, .int 2])
    refine ⟨.ref b3, .ref t3, _, hfq, rfl, ⟨b3, zs3, rfl, s6 _ _ hb3, mb3.same s6⟩, .at (K := K) upd_same, by rw [toL_len]; omega, o3, ok_hfq, fun b4 H4 zs4 s7 nb4 hb4 mb4 => ?_⟩
    rw [map_L] at mb4
    have sF := sE.trans (s3.trans (s6.trans s7))
    refine ⟨datL _, datL _, (l4.same sF).dp, mb4.dp hb4, shaped_list _, shaped_list _, ?_⟩
    rw [eqv_list, decide_eq_true (by rw [e3, e2]; rfl)]
    exact q H4 sF
  · rw [decide_eq_false b]
    have e1 : slS f = xS := by unfold slS; rw [if_neg a, if_neg b]
    refine iteF ⟨_, rfl, _, rfl, datL _, datL _, (l3.same sD).dp, lx2.dp, shaped_list _, shaped_list _, ?_⟩
    rw [eqv_list, decide_eq_true (by rw [e1])]
    refine ⟨_, rfl, iteT ⟨_, rfl, a4, y4, 1, c4, rfl, rfl, SqL.of (sD _ _ h4), at_of (j := 1) rfl ec4, (by show 2 ≤ sizeLine; decide), fun t3 nt3 => ?_⟩⟩
    have s6 := new_same nt3 (HO.tup [.int 1, .int 1])
    have t3' : Nq K (upd (upd G1 t2 (HO.tup [.int (-1), .int 1])) t3 (HO.tup [.int 1, .int 1])) (.ref t3) 1 := .at (K := K) upd_same
    have sE := sD.trans s6
    refine ⟨tupQ (srS f 1), tupQ 1, (nc4.same sE).dp, t3'.dp, rfl, rfl, ?_⟩
    rw [eqv_num, decide_eq_true e.h1]
    refine ⟨_, rfl, iteT ⟨_, rfl, _, rfl, rd_put (E := fun _ _ _ => False) (l4.same sE) (l2.same sE) e.p0 n7 m0 m gh gs fun b2 H2 zs2 s2 nb2 hb2 mb2 => ?_⟩⟩
    have sF := sE.trans s2
    refine ⟨_, rfl, _, rfl, .ref a4, c1, _, f 1, rfl, l4.same sF, nc1.same sF, by rw [toL_len]; omega, gl_okL m0 m gh, (gf.one (show 1 ≤ N by omega)).ok sM (by decide), fun b3 H3 zs3 s3 nb3 hb3 mb3 => ?_⟩
    rw [map_L] at mb3
    refine ⟨datL _, datL _, (mb2.same s3).dp (s3 _ _ hb2), mb3.dp hb3, shaped_list _, shaped_list _, ?_⟩
    have eq' : toL (N + 1) (cmpS (srS f) (puS f)) = toL (N + 1) fun k => srS f k * f 1 := toL_eq fun k hk => by
      rw [e.hp k hk]
      exact Rat.mul_comm _ _
    rw [eqv_list, decide_eq_true eq']
    exact q H3 (sF.trans s3)
end
end Kx
end
section
set_option maxHeartbeats 4000000
namespace Kx
open PySem PySem.Spec PyProof.Rows L2 RZ
/-! ### pure or not, by the law -/
def purS (f : Ser) (N : Nat) : Bool := if f 1 = 1 then decide (toL (N + 1) f = toL (N + 1) xS) else !decide (f 1 = 0) && (!decide (f 1 = -1) || decide (toL (N + 1) (cmpS f f) = toL (N + 1) xS))
theorem kd_one {f : Ser} {N : Nat} (n2 : 2 ≤ N) (f0 : f 0 = 0) (f1 : f 1 = 1) : decide (kindS (toT N f) = "still") = decide (toL (N + 1) f = toL (N + 1) xS) := by
  have e1 : kindS (toT N f) = if ((toT N f).drop 1).all (fun q => decide (q = 0)) = true then ("still" : Str) else ("creep" : Str) := by
    unfold kindS
    rw [lead_T n2 f0, f1, if_neg (by decide), if_pos rfl]
  rw [e1, decide_eq_decide, ← toT0 f0, ← toT0 (show xS 0 = 0 from rfl), ← stL_T (by omega)]
  have e2 : toT N f = 1 :: (toT N f).drop 1 := by
    have l := lead_T n2 f0
    rw [f1] at l
    have h := toT_len N f
    match hh : toT N f with
    | [] => rw [hh] at h; simp at h; omega
    | a :: r =>
      rw [hh] at l
      have : a = 1 := l
      rw [this]
      rfl
  by_cases c : ((toT N f).drop 1).all (fun q => decide (q = 0)) = true
  · rw [if_pos c]
    refine ⟨fun _ => ?_, fun _ => rfl⟩
    congr 1
    rw [e2]
    show _ = 1 :: List.replicate (N - 1) 0
    congr 1
    refine List.eq_replicate_iff.mpr ⟨by rw [List.length_drop, toT_len], fun b hb => of_decide_eq_true (List.all_eq_true.mp c b hb)⟩
  · rw [if_neg c]
    refine ⟨fun h => absurd h (by decide), fun h => absurd ?_ c⟩
    have h' : toT N f = 1 :: List.replicate (N - 1) 0 := List.tail_eq_of_cons_eq h
    rw [h']
    exact List.all_eq_true.mpr fun q hq => decide_eq_true (List.eq_of_mem_replicate hq)
theorem pur_eq {f : Ser} {N : Nat} (n2 : 2 ≤ N) (f0 : f 0 = 0) : purB (toT N f) = purS f N := by
  have kf := kd_flip n2 f0
  have ks := kd_st n2 f0
  unfold purB purS
  by_cases a : f 1 = 1
  · rw [if_neg fun z => absurd (a.symm.trans (kf.mp z)) (by decide), if_pos a, decide_eq_false fun z => (ks.mp z).2.1 a, Bool.or_false]
    exact kd_one n2 f0 a
  rw [if_neg a]
  by_cases b : f 1 = -1
  · rw [if_pos (kf.mpr b), decide_eq_false (show ¬ f 1 = 0 by rw [b]; decide), decide_eq_true b, cmp_T f0 f0, kd_one n2 (ff_0 f0 b) (ff_1 f0 b)]
    rfl
  rw [if_neg fun z => b (kf.mp z), decide_eq_false b]
  have nst : decide (kindS (toT N f) = "still") = false := decide_eq_false fun z => by
    unfold kindS at z
    rw [lead_T n2 f0] at z
    by_cases c : f 1 = 0
    · rw [if_pos c] at z
      split at z <;> exact absurd z (by decide)
    · rw [if_neg c, if_neg a, if_neg b] at z
      exact absurd z (by decide)
  rw [nst]
  by_cases c : f 1 = 0
  · rw [decide_eq_true c, decide_eq_false fun z => (ks.mp z).1 c]
    rfl
  · rw [decide_eq_false c, decide_eq_true (ks.mpr ⟨c, a, b⟩)]
    rfl
def spLpu (K : PySem.W.Frag) : Sp := fun vs H Q _ => ∃ (v : V) (f : Ser) (N M : Nat), vs = [v] ∧ Ls K H v (toL (N + 1) f) ∧ f 0 = 0 ∧ 2 ≤ N ∧ N ≤ 7 ∧ (f 1 = -1 → 0 < M ∧ M < 2 ^ 600 ∧ Gl M 9000 f N) ∧ ∀ H', Same H H' → Q (.bl (purS f N)) H'
/-! ### a parting that stands -/
def PrS (K : PySem.W.Frag) (S PT : Addr) (H : Hp) (v a : V) (f : Ser) (N : Nat) : Prop := ∃ b c d, PtAt PT H v a b c d ∧ StAt K S H a (toT N f) ∧ StAt K S H b (toT N (puS f)) ∧ StAt K S H c (toT N (slS f)) ∧ StAt K S H d (toT N (srS f))
theorem PrS.same {K : PySem.W.Frag} {S PT : Addr} {H H' : Hp} {v a : V} {f : Ser} {N : Nat} (h : PrS K S PT H v a f N) (s : Same H H') : PrS K S PT H' v a f N := by
  obtain ⟨b, c, d, h1, h2, h3, h4, h5⟩ := h
  exact ⟨b, c, d, h1.same s, h2.same s, h3.same s, h4.same s, h5.same s⟩
def spRof (K : PySem.W.Frag) (S : Addr) : Sp := fun vs H Q _ => ∃ (v : V) (qs : List Rat), vs = [v, .int (qs.length : Nat)] ∧ StAt K S H v qs ∧ GivesL K H Q (0 :: qs)
def spRgt (K : PySem.W.Frag) (S PT : Addr) : Sp := fun vs H Q _ => ∃ (v a vf : V) (f : Ser) (N M : Nat), vs = [v, vf] ∧ PrS K S PT H v a f N ∧ Ls K H vf (toL (N + 1) f) ∧ N ≤ 7 ∧ f 1 ≠ 0 ∧ PaOk f N ∧ PSz f N M ∧ ∀ H', Same H H' → Q (.bl true) H'
structure PtI (K : PySem.W.Frag) (PT PA : Addr) : Prop where
  ty : ∀ H a dx fs, H a = some (.ins PT dx fs) → TyX K H (.ref a) (.ref PT)
  kit : PySem.W.kitOne K (.ref PT) (.ref PT) = some true
  kia : PySem.W.kitOne K (.ref PT) (.ref PA) = some true
section
variable {P : Program} {w : World} {K : PySem.W.Frag} {mg : Str → Option Value} {base : Heap} {f C S PT PA CF CO o0 : Addr} {fd : FuncData}
theorem scLpu : FnScope ["_law_f"] ["_law_f"] (defScope L_pure) := ⟨rfl, rfl, rfl, by decide +kernel, rfl, by decide +kernel, by decide +kernel⟩
theorem ok_lpure (F : Fun K "_law_pure" "_law_pure" L_pure f fd) (mn : mg "len" = none) (UX : Use P w K mg base CX0 1 "_law_x" ["_law_deg"] (spX K) []) (UP : Use P w K mg base CX0 2 "_law_put" ["_law_u", "_law_f"] (spPutL K) []) : FnOk P w K mg base CX0 3 f fd ["_law_f"] (spLpu K) := by
  refine F.ok scLpu (fun vs H Q E h => ?_) (fun cdv A outer s H vs Q E hr h => ?_)
  · obtain ⟨v, f, N, M, rfl, _⟩ := h
    rfl
  obtain ⟨v, f, N, M, rfl, lf, f0, n2, n7, gl, q⟩ := h
  have hr1 := hr.mono (show 1 ≤ 2 by decide)
  refine ⟨_, pss_cons (ps_if (pt_cmpR (op_eqD hr.units) (pe_ix ix_list (pv 0) pe_int (fun _ _ => rfl)) (pe_tup (pa_cons pe_int (pa_cons pe_int pa_nil))) (nomark _)) (pss_one (ps_ret (pe_cmpR (op_eqD hr.units) (pv 0) (pe_use UX hr1 rfl pass0 (pa_cons (pe_op op_sub (pe_callB call_len_seq rfl mn PySem.boot_len (pa_cons (pv 0) pa_nil)) pe_int) pa_nil)) (nomark _)))) pss_nil)
    (pss_one (ps_ret (pe_and (pe_cmpR (op_neD hr.units) (pe_ix ix_list (pv 0) pe_int (fun _ _ => rfl)) (pe_tup (pa_cons pe_int (pa_cons pe_int pa_nil))) (nomark _)) (pe_one (pe_or (pe_cmpR (op_neD hr.units) (pe_ix ix_list (pv 0) pe_int (fun _ _ => rfl)) (pe_tup (pa_cons (pe_un un_neg pe_int) (pa_cons pe_int pa_nil))) (nomark _)) (pe_one (pe_cmpR (op_eqD hr.units) (pe_use UP hr rfl pass0 (pa_cons (pv 0) (pa_cons (pv 0) pa_nil))) (pe_use UX hr1 rfl pass0 (pa_cons (pe_op op_sub (pe_callB call_len_seq rfl mn PySem.boot_len (pa_cons (pv 0) pa_nil)) pe_int) pa_nil)) (nomark _)))))))), ?_⟩
  obtain ⟨a, ys, rfl, ha, ma⟩ := id lf
  have ka : ys.length = N + 1 := by rw [ma.1, toL_len]
  obtain ⟨c, ec, nc⟩ := ma.get' (i := 1) (by rw [toL_len]; omega)
  have er : (toL (N + 1) f)[1]'(by rw [toL_len]; omega) = f 1 := by
    have := toL_get (n := N + 1) (f := f) (i := 1) (by omega)
    rw [List.getElem?_eq_getElem (by rw [toL_len]; omega)] at this
    exact Option.some.inj this
  rw [er] at nc
  have lenx : ∀ {G : Hp}, Same H G → ∀ {Q' : VK}, GivesL K G Q' (toL (N + 1) xS) → ∃ x, x = V.ref a ∧ True := fun _ _ _ => ⟨_, rfl, trivial⟩
  unfold purS at q
  refine ⟨_, rfl, a, ys, 1, c, rfl, rfl, SqL.of ha, at_of (j := 1) rfl ec, (by show 2 ≤ sizeLine; decide), fun t nt => ?_⟩
  have s1 := new_same nt (HO.tup [.int 1, .int 1])
  have t1 : Nq K (upd H t (HO.tup [.int 1, .int 1])) (.ref t) 1 := .at (K := K) upd_same
  generalize upd H t (HO.tup [.int 1, .int 1]) = H1 at s1 t1
  refine ⟨tupQ (f 1), tupQ 1, (nc.same s1).dp, t1.dp, rfl, rfl, _, rfl, ?_⟩
  rw [eqv_num]
  by_cases d1 : f 1 = 1
  · rw [decide_eq_true d1]
    rw [if_pos d1] at q
    refine iteT ⟨_, rfl, _, rfl, a, ys, rfl, .inl (SqL.of (s1 _ _ ha)), _, 1, rfl, rfl, N, by rw [ka]; show [V.int (((N + 1 : Nat) : Int) - 1)] = _; congr 2; omega, by omega, by omega, fun b H2 zs s2 nb hb mb => ?_⟩
    rw [x_L (by omega)] at mb
    refine ⟨datL _, datL _, (lf.same (s1.trans s2)).dp, mb.dp hb, shaped_list _, shaped_list _, ?_⟩
    rw [eqv_list]
    exact q H2 (s1.trans s2)
  rw [decide_eq_false d1]
  rw [if_neg d1] at q
  refine iteF ⟨_, rfl, a, ys, 1, c, rfl, rfl, SqL.of (s1 _ _ ha), at_of (j := 1) rfl ec, (by show 2 ≤ sizeLine; decide), fun t2 nt2 => ?_⟩
  have s2 := new_same nt2 (HO.tup [.int 0, .int 1])
  have t2' : Nq K (upd H1 t2 (HO.tup [.int 0, .int 1])) (.ref t2) 0 := .at (K := K) upd_same
  generalize upd H1 t2 (HO.tup [.int 0, .int 1]) = H2 at s2 t2'
  have s12 := s1.trans s2
  refine ⟨tupQ (f 1), tupQ 0, (nc.same s12).dp, t2'.dp, rfl, rfl, ?_⟩
  rw [eqv_num]
  by_cases d0 : f 1 = 0
  · rw [decide_eq_true d0] at q ⊢
    exact ⟨_, rfl, iteF (q H2 s12)⟩
  rw [decide_eq_false d0] at q ⊢
  refine ⟨_, rfl, iteT ⟨_, rfl, a, ys, 1, c, rfl, rfl, SqL.of (s12 _ _ ha), at_of (j := 1) rfl ec, ?_⟩⟩
  refine ⟨_, rfl, (by show 2 ≤ sizeLine; decide), fun t3 nt3 => ?_⟩
  have s3 := new_same nt3 (HO.tup [.int (-1), .int 1])
  have t3' : Nq K (upd H2 t3 (HO.tup [.int (-1), .int 1])) (.ref t3) (-1) := .at (K := K) upd_same
  have s13 := s12.trans s3
  refine ⟨tupQ (f 1), tupQ (-1), (nc.same s13).dp, t3'.dp, rfl, rfl, ?_⟩
  rw [eqv_num]
  by_cases dm : f 1 = -1
  · rw [decide_eq_true dm] at q ⊢
    obtain ⟨m0, m, gf⟩ := gl dm
    refine ⟨_, rfl, iteF ⟨_, rfl, _, rfl, rd_put (E := fun _ _ _ => False) (lf.same s13) (lf.same s13) f0 n7 m0 m gf gf fun b2 H4 zs2 s4 nb2 hb2 mb2 => ?_⟩⟩
    have s14 := s13.trans s4
    refine ⟨_, rfl, a, ys, rfl, .inl (SqL.of (s14 _ _ ha)), _, 1, rfl, rfl, N, by rw [ka]; show [V.int (((N + 1 : Nat) : Int) - 1)] = _; congr 2; omega, by omega, by omega, fun b H5 zs s5 nb hb mb => ?_⟩
    rw [x_L (by omega)] at mb
    refine ⟨datL _, datL _, (mb2.same s5).dp (s5 _ _ hb2), mb.dp hb, shaped_list _, shaped_list _, ?_⟩
    rw [eqv_list]
    exact q H5 (s14.trans s5)
  · rw [decide_eq_false dm] at q ⊢
    exact ⟨_, rfl, iteT (q _ s13)⟩
end
end Kx
end
section
set_option maxHeartbeats 4000000
namespace Kx
open PySem PySem.Spec PyProof.Rows L2 RZ
/-! ### a parting is right -/
def datLL (rows : List (List Rat)) : PyData := .list (rows.map datL)
theorem dpAllL : ∀ {K : PySem.W.Frag} {H : Hp} {xs : List V} {rows : List (List Rat)}, Lsl K H xs rows → DpAll K H xs (rows.map datL)
  | _, _, [], [], _ => .nil
  | _, _, [], _ :: _, h => by cases h.1
  | _, _, _ :: _, [], h => by cases h.1
  | K, H, x :: xs, r :: rows, h => by
    obtain ⟨a, ys, rfl, ha, na⟩ := h.2 0 x r rfl rfl
    exact .cons (na.dp ha) (dpAllL ⟨by have := h.1; simp at this; exact this, fun i y s h1 h2 => h.2 (i + 1) y s (by simpa using h1) (by simpa using h2)⟩)
theorem lay_list : ∀ rows : List (List Rat), PyData.canLayAll0 (rows.map datL) = true ∧ PyData.depthAll (rows.map datL) ≤ 2
  | [] => ⟨rfl, by decide⟩
  | q :: qs => by
    obtain ⟨h1, h2⟩ := lay_list qs
    obtain ⟨g1, g2⟩ := lay_num q
    constructor
    · show (PyData.canLay0 (datL q) && PyData.canLayAll0 (qs.map datL)) = true
      rw [h1, show PyData.canLay0 (datL q) = true from g1]
      rfl
    · show max (PyData.depth (datL q)) (PyData.depthAll (qs.map datL)) ≤ 2
      have : PyData.depth (datL q) = PyData.depthAll (q.map tupQ) + 1 := rfl
      omega
theorem shaped_LL (rows : List (List Rat)) : SeqAt.shaped (datLL rows) = true := by
  obtain ⟨h1, h2⟩ := lay_list rows
  unfold SeqAt.shaped
  rw [Bool.and_eq_true]
  refine ⟨h1, decide_eq_true ?_⟩
  show PyData.depthAll (rows.map datL) + 1 ≤ 64
  omega
theorem u65 {k : Nat} {A : Around} (r : Room (k + 1) A) : A.units + 65 < cLine := by
  have := r.un
  omega
section
variable {P : Program} {w : World} {K : PySem.W.Frag} {mg : Str → Option Value} {base : Heap} {f C S PT PA CF CO o0 : Addr} {fd : FuncData}
theorem scRof : FnScope ["_law_thing", "_law_deg"] ["_law_thing", "_law_deg"] (defScope L_row_of) := ⟨rfl, rfl, rfl, by decide +kernel, rfl, by decide +kernel, by decide +kernel⟩
theorem ok_rof (F : Fun K "_law_row_of" "_law_row_of" L_row_of f fd) (k : StepK P w K mg base C S CF CO) (ks : IsS K S) (mI : mg "isinstance" = none) (mn : mg "len" = none) (UN : MUse P w K mg base CX0 1 S "numbers" ["self"] (spNuS K S) []) (US : Use P w K mg base CX0 5 "_law_same" ["_law_found", "_law_due"] (spLike K 3) []) : FnOk P w K mg base CX0 6 f fd ["_law_thing", "_law_deg"] (spRof K S) := by
  refine F.ok scRof (fun vs H Q E h => ?_) (fun cdv A outer s H vs Q E hr h => ?_)
  · obtain ⟨v, qs, rfl, _⟩ := h
    rfl
  obtain ⟨v, qs, rfl, hX, q⟩ := h
  have hr1 := hr.mono (show 1 ≤ 5 by decide)
  refine ⟨_, pss_cons (ps_if (PW.pt (pw_or (pt_not (pt_val (pe_callB call_isi rfl mI (by decide +kernel) (pa_cons (pv 0) (pa_cons (C8.pe_gc (v := .ref S) rfl ⟨_, k.m, rfl⟩) pa_nil))))) (pw_or1 (pt_not (pt_val (pe_use US hr rfl pass0 (pa_cons (pe_lst (pa_cons (pe_fld (pv 0) rfl) (pa_cons (pe_callB call_len_seq rfl mn PySem.boot_len (pa_cons (pe_mu0 UN (pv 0) hr1 pass0) pa_nil)) pa_nil))) (pa_cons (pe_lst (pa_cons (pv 1) (pa_cons (pv 1) pa_nil))) pa_nil)))))))) (pss_one (ps_ret (pe_lst pa_nil))) pss_nil)
    (pss_one (ps_ret (pe_op op_cat (pe_lst (pa_cons (pe_tup (pa_cons pe_int (pa_cons pe_int pa_nil))) pa_nil)) (pe_mu0 UN (pv 0) hr1 pass0)))), ?_⟩
  obtain ⟨x2, Cx2, dx2, fs2', ex2, hx2, cx2, nx2, lx2⟩ := hX.ord k
  obtain ⟨l2, l24⟩ := hX.le
  obtain ⟨x, dx, b, xs, x0, fv, sv, rfl, hx, hb, nx, hl0, _, _⟩ := id hX
  refine ⟨_, rfl, .ref x, .ref S, .ref S, .ref S, true, rfl, .own S, ks.ty _ _ _ _ hx, ks.kit, _, rfl, iteF ?_⟩
  refine ⟨_, rfl, x2, Cx2, dx2, _, _, ex2, hx2, cx2, nx2, lx2, ?_⟩
  refine ⟨_, rfl, x, dx, _, rfl, hx, rfl, .ref x, qs, rfl, hX, fun d H1 zs s1 nd hd md => ?_⟩
  refine ⟨d, zs, rfl, .inl (SqL.of hd), (by show 2 ≤ sizeLine; decide), fun t nt => ?_⟩
  have s2 := new_same nt (HO.lst [.int (qs.length : Int), .int ((zs.length : Nat) : Int)])
  have lz : zs.length = qs.length := md.1
  refine ⟨_, rfl, _, rfl, (by show 2 ≤ sizeLine; decide), fun t2 nt2 => ?_⟩
  have s3 := new_same nt2 (HO.lst [.int (qs.length : Int), .int (qs.length : Int)])
  refine ⟨_, _, rfl, Lk.lst (n := 2) (s3 _ _ upd_same) upd_same (by show 2 ≤ 60; decide) (.cons (Lk.flat rfl) (.cons ?_ .nil)), fun H4 s4 => ⟨_, rfl, iteF ?_⟩⟩
  · rw [lz]
    exact Lk.flat rfl
  have sA := s1.trans (s2.trans (s3.trans s4))
  refine ⟨(by show 2 ≤ sizeLine; decide), fun t5 nt5 => ⟨(by show 1 ≤ sizeLine; decide), fun l nl => ?_⟩⟩
  have s5 := new_same nt5 (HO.tup [.int 0, .int 1])
  have s6 := new_same nl (HO.lst [V.ref t5])
  have z0 : Nq K _ (.ref t5) 0 := .at (K := K) (s6 _ _ (show upd H4 t5 (HO.tup [.int 0, .int 1]) t5 = some (rT 0) from upd_same))
  have sB := sA.trans (s5.trans s6)
  refine ⟨_, rfl, x, dx, _, rfl, sB _ _ hx, rfl, .ref x, qs, rfl, hX.same sB, fun d2 H6 ws s7 nd2 hd2 md2 => ?_⟩
  refine ⟨l, d2, _, _, rfl, rfl, s7 _ _ upd_same, hd2, Nat.le_of_lt (small1000 (by rw [md2.1]; show 1 + _ ≤ _; omega)), fun e ne => ?_⟩
  have s8 := new_same ne (HO.lst ([V.ref t5] ++ ws))
  refine q e _ _ (sB.trans (s7.trans s8)) ((sB.trans s7).free ne) upd_same (Nl.cons ((z0.same s7).same s8) (md2.same s8))
abbrev nRgt : List Str := ["_law_told", "_law_f", "_law_deg", "_law_found"]
theorem scRgt : FnScope nRgt ["_law_told", "_law_f"] (defScope L_right) := ⟨rfl, rfl, rfl, by decide +kernel, rfl, by decide +kernel, by decide +kernel⟩
theorem ok_rgt (F : Fun K "_law_right" "_law_right" L_right f fd) (kp : PtK P w K mg base PT) (kI : PtI K PT PA) (mPA : mg "Paper" = some (.ref PA)) (mI : mg "isinstance" = none) (mn : mg "len" = none) (UR : Use P w K mg base CX0 6 "_law_row_of" ["_law_thing", "_law_deg"] (spRof K S) []) (UI : Use P w K mg base CX0 6 "_law_is_step" ["_law_told", "_law_f"] (spIst K S) []) (US : Use P w K mg base CX0 5 "_law_same" ["_law_found", "_law_due"] (spLike K 3) [])
    (UW : MUse P w K mg base (L2.CX P w) 9 PT "wrong" ["self"] (spWrg K S PT) []) (UP : Use P w K mg base CX0 4 "_law_parts_fit" ["_law_f", "_law_s", "_law_u", "_law_h"] (spPfi K) []) : FnOk P w K mg base CX0 10 f fd ["_law_told", "_law_f"] (spRgt K S PT) := by
  refine F.ok scRgt (fun vs H Q E h => ?_) (fun cdv A outer s H vs Q E hr h => ?_)
  · obtain ⟨v, a, vf, f, N, M, rfl, _⟩ := h
    rfl
  obtain ⟨v, a, vf, f, N, M, rfl, hP, lf, n7, z, pa, sz, q⟩ := h
  have hr4 := hr.mono (show 4 ≤ 9 by decide)
  have hr5 := hr.mono (show 5 ≤ 9 by decide)
  have hr6 := hr.mono (show 6 ≤ 9 by decide)
  refine ⟨_, C8.pss_cut (ps_if (PW.pt (pw_or (pt_not (pt_val (pe_callB call_isi rfl mI (by decide +kernel) (pa_cons (pv 0) (pa_cons (C8.pe_gc (v := .ref PT) rfl ⟨_, kp.m, rfl⟩) pa_nil))))) (pw_or (pt_not (pt_val (pe_callB call_isi rfl mI (by decide +kernel) (pa_cons (pv 0) (pa_cons (C8.pe_gc (v := .ref PA) rfl ⟨_, mPA, rfl⟩) pa_nil))))) (pw_or1 (pt_not (pt_val (pe_use US hr5 rfl pass0 (pa_cons (pe_fld (pv 0) rfl) (pa_cons pe_str pa_nil))))))))) (pss_one (ps_ret pe_bl)) pss_nil)
    (C8.pss_cut (ps_set (i := 2) scRgt.nd rfl (Or.inl rfl) (pe_op op_sub (pe_callB call_len_seq rfl mn PySem.boot_len (pa_cons (pv 1) pa_nil)) pe_int))
    (C8.pss_cut (ps_set (i := 3) scRgt.nd rfl (Or.inl rfl) (pe_lst (pa_cons (pe_use UR hr6 rfl pass0 (pa_cons (pe_fld (pv 0) rfl) (pa_cons (pv 2) pa_nil))) (pa_cons (pe_use UR hr6 rfl pass0 (pa_cons (pe_fld (pv 0) rfl) (pa_cons (pv 2) pa_nil))) (pa_cons (pe_use UR hr6 rfl pass0 (pa_cons (pe_fld (pv 0) rfl) (pa_cons (pv 2) pa_nil))) pa_nil)))))
    (C8.pss_cut (ps_if (PW.pt (pw_or (pt_cmpR (op_inD (u65 hr)) (pe_lst pa_nil) (pv 3) (by rfl)) (pw_or (pt_not (pt_val (pe_use UI hr6 rfl pass0 (pa_cons (pe_fld (pv 0) rfl) (pa_cons (pv 1) pa_nil))))) (pw_or1 (pt_not (pt_val (pe_use US hr5 rfl pass0 (pa_cons (pe_mu0 (E := fun _ _ _ => False) UW (pv 0) hr passF) (pa_cons pe_non pa_nil))))))))) (pss_one (ps_ret pe_bl)) pss_nil)
    (pss_one (ps_ret (pe_use UP hr4 rfl pass0 (pa_cons (pv 1) (pa_cons (pe_ix ix_list (pv 3) pe_int (fun _ _ => rfl)) (pa_cons (pe_ix ix_list (pv 3) pe_int (fun _ _ => rfl)) (pa_cons (pe_ix ix_list (pv 3) pe_int (fun _ _ => rfl)) pa_nil)))))))))), ?_⟩
  obtain ⟨b, c, d, ⟨x, dx, rfl, hx⟩, hA, hB, hC, hD⟩ := id hP
  have n2 := pa.n2
  have e := pa.e z
  have wo := wr_ok pa z sz
  obtain ⟨av, ys, rfl, hav, mav⟩ := id lf
  have kav : ys.length = N + 1 := by rw [mav.1, toL_len]
  refine ⟨fun σ G => Same H G ∧ σ = [some (.ref x), some (.ref av), none, none], ?_, ?_⟩
  · refine ⟨_, rfl, .ref x, .ref PT, .ref PT, .ref PT, true, rfl, .own PT, kI.ty _ _ _ _ hx, kI.kit, _, rfl, iteF ?_⟩
    refine ⟨_, rfl, .ref x, .ref PA, .ref PT, .ref PA, true, rfl, .own PA, kI.ty _ _ _ _ hx, kI.kia, _, rfl, iteF ?_⟩
    exact ⟨_, rfl, x, PT, dx, _, _, rfl, hx, kp.c, kp.nA _ (by simp [ptN]), rfl, .str "parting", .str "parting", rfl, Lk.flat rfl, fun H1 s1 => ⟨_, rfl, iteF ⟨s1, rfl⟩⟩⟩
  rintro σ G ⟨s, rfl⟩
  refine ⟨fun σ G => Same H G ∧ σ = [some (.ref x), some (.ref av), some (.int (N : Nat)), none], ?_, ?_⟩
  · refine ⟨_, rfl, av, ys, rfl, .inl (SqL.of (s _ _ hav)), _, 1, rfl, rfl, s, ?_⟩
    have e1 : ((ys.length : Nat) : Int) - 1 = ((N : Nat) : Int) := by omega
    show [some (V.ref x), some (V.ref av), some (V.int (((ys.length : Nat) : Int) - 1)), none] = _
    rw [e1]
  clear s
  rintro σ G ⟨s, rfl⟩
  have lN : ∀ F : Ser, [V.ref x, V.int (N : Nat)] = [V.ref x, V.int ((toT N F).length : Nat)] := fun F => by rw [toT_len]
  refine ⟨fun σ G => ∃ fl a1 a2 a3, Same H G ∧ σ = [some (.ref x), some (.ref av), some (.int (N : Nat)), some (.ref fl)] ∧ G fl = some (.lst [a1, a2, a3]) ∧ Ls K G a1 (toL (N + 1) (puS f)) ∧ Ls K G a2 (toL (N + 1) (slS f)) ∧ Ls K G a3 (toL (N + 1) (srS f)), ?_, ?_⟩
  · refine ⟨_, rfl, x, PT, dx, _, _, rfl, s _ _ hx, kp.c, kp.nA _ (by simp [ptN]), rfl, _, rfl, b, toT N (puS f), by rw [toT_len]; rfl, hB.same s, fun a1 H1 z1 s1 n1 h1 m1 => ?_⟩
    have sA := s.trans s1
    refine ⟨_, rfl, x, PT, dx, _, _, rfl, sA _ _ hx, kp.c, kp.nA _ (by simp [ptN]), rfl, _, rfl, c, toT N (slS f), by rw [toT_len]; rfl, hC.same sA, fun a2 H2 z2 s2 n2' h2 m2 => ?_⟩
    have sB := sA.trans s2
    refine ⟨_, rfl, x, PT, dx, _, _, rfl, sB _ _ hx, kp.c, kp.nA _ (by simp [ptN]), rfl, _, rfl, d, toT N (srS f), by rw [toT_len]; rfl, hD.same sB, fun a3 H3 z3 s3 n3 h3 m3 => ?_⟩
    refine ⟨(by show 3 ≤ sizeLine; decide), fun fl nfl => ?_⟩
    have s4 := new_same nfl (HO.lst [.ref a1, .ref a2, .ref a3])
    rw [toT0 e.p0] at m1
    rw [toT0 e.u0] at m2
    rw [toT0 e.h0] at m3
    have l1 : Ls K H1 (.ref a1) (toL (N + 1) (puS f)) := ⟨a1, z1, rfl, h1, m1⟩
    have l2 : Ls K H2 (.ref a2) (toL (N + 1) (slS f)) := ⟨a2, z2, rfl, h2, m2⟩
    have l3 : Ls K H3 (.ref a3) (toL (N + 1) (srS f)) := ⟨a3, z3, rfl, h3, m3⟩
    exact ⟨fl, _, _, _, sB.trans (s3.trans s4), rfl, upd_same, l1.same (s2.trans (s3.trans s4)), l2.same (s3.trans s4), l3.same s4⟩
  clear s
  rintro σ G ⟨fl, a1, a2, a3, s, rfl, hfl, l1, l2, l3⟩
  refine ⟨fun σ G => Same H G ∧ σ = [some (.ref x), some (.ref av), some (.int (N : Nat)), some (.ref fl)] ∧ G fl = some (.lst [a1, a2, a3]) ∧ Ls K G a1 (toL (N + 1) (puS f)) ∧ Ls K G a2 (toL (N + 1) (slS f)) ∧ Ls K G a3 (toL (N + 1) (srS f)), ?_, ?_⟩
  · refine ⟨(by show 0 ≤ sizeLine; decide), fun t nt => ?_⟩
    have s1 := new_same nt (HO.lst [])
    have sA := s.trans s1
    have ht : upd G t (HO.lst []) t = some (HO.lst []) := upd_same
    generalize upd G t (HO.lst []) = G1 at s1 sA ht
    have lsl : Lsl K G1 [a1, a2, a3] [toL (N + 1) (puS f), toL (N + 1) (slS f), toL (N + 1) (srS f)] := ⟨rfl, fun i y r h1 h2 => by
      match i, h1, h2 with
      | 0, h1, h2 =>
        rw [← Option.some.inj (show some a1 = some y from h1), ← Option.some.inj (show some (toL (N + 1) (puS f)) = some r from h2)]
        exact l1.same s1
      | 1, h1, h2 =>
        rw [← Option.some.inj (show some a2 = some y from h1), ← Option.some.inj (show some (toL (N + 1) (slS f)) = some r from h2)]
        exact l2.same s1
      | 2, h1, h2 =>
        rw [← Option.some.inj (show some a3 = some y from h1), ← Option.some.inj (show some (toL (N + 1) (srS f)) = some r from h2)]
        exact l3.same s1
      | n + 3, h1, _ => simp at h1⟩
    have nn : ∀ F : Ser, PyData.eqv (datL (toL (N + 1) F)) (.list []) = false := fun F => by
      have := eqv_list (toL (N + 1) F) []
      rw [show datL [] = PyData.list [] from rfl] at this
      rw [this]
      refine decide_eq_false fun y => ?_
      have l := toL_len (N + 1) F
      rw [y] at l
      cases l
    refine ⟨_, rfl, .list [], _, .lst (SqL.of ht) .nil, .lst (SqL.of (s1 _ _ hfl)) (dpAllL lsl), rfl, shaped_LL _, _, rfl, ?_⟩
    have e0 : (List.map datL [toL (N + 1) (puS f), toL (N + 1) (slS f), toL (N + 1) (srS f)]).any (fun z => PyData.eqv z (.list [])) = false := by
      show (PyData.eqv _ _ || (PyData.eqv _ _ || (PyData.eqv _ _ || false))) = false
      rw [nn, nn, nn]
      rfl
    rw [e0]
    refine iteF ?_
    refine ⟨_, rfl, x, PT, dx, _, _, rfl, sA _ _ hx, kp.c, kp.nA _ (by simp [ptN]), rfl, _, rfl, a, .ref av, toT N f, rfl, hA.same sA, by rw [toT0 e.f0]; exact lf.same sA, fun G2 s2 => ⟨_, rfl, iteF ?_⟩⟩
    have sB := sA.trans s2
    refine ⟨_, rfl, x, dx, _, rfl, sB _ _ hx, rfl, .ref x, a, b, c, d, toT N f, toT N (puS f), toT N (slS f), toT N (srS f), rfl, ⟨x, dx, rfl, sB _ _ hx⟩, hA.same sB, hB.same sB, hC.same sB, hD.same sB, wo, fun G3 s3 => ?_⟩
    refine ⟨.non, .non, rfl, Lk.flat rfl, fun G4 s4 => ⟨_, rfl, iteF ?_⟩⟩
    have s24 := s1.trans (s2.trans (s3.trans s4))
    exact ⟨s.trans s24, rfl, s24 _ _ hfl, l1.same s24, l2.same s24, l3.same s24⟩
  clear s hfl l1 l2 l3
  rintro σ G ⟨s, rfl, hfl, l1, l2, l3⟩
  refine ⟨_, rfl, _, rfl, fl, _, 0, a1, rfl, rfl, SqL.of hfl, rfl, _, rfl, fl, _, 1, a2, rfl, rfl, SqL.of hfl, rfl, _, rfl, fl, _, 2, a3, rfl, rfl, SqL.of hfl, rfl, .ref av, a1, a2, a3, f, N, M, rfl, lf.same s, l1, l2, l3, n7, z, pa, sz, fun G2 s2 => q G2 (s.trans s2)⟩
end
end Kx
end
section
set_option maxHeartbeats 4000000
namespace Kx
open PySem PySem.Spec PyProof.Rows L2 RZ
/-! ### what a deed gives, or its error -/
structure Err1 (P : Program) (w : World) (K : PySem.W.Frag) (mg : Str → Option Value) (base : Heap) (CC : Addr) : Prop where
  e : ErrC P w K mg base "CantTurn" 0 (fs0 "CantTurn") CC
  co : PySem.W.findIn K (.ref CC) "code" = some none
  ex : PySem.W.exmOne K (.ref CC) (.ref CC) = some true
def Flt1 (H : Hp) (CC : Addr) (cls : Value) (d : Option Addr) (Q : VK) : Prop := cls = .ref CC ∧ ∃ (dd : Addr), d = some dd ∧ H dd = some (.xd (fs0 "CantTurn" [])) ∧ ∀ t H', Same H H' → H t = none → H' t = some (.tup [.str "CantTurn"]) → Q (.ref t) H'
theorem takes_len {X : Cx} {W : WX} (tk : Takes X W) : Takes X (fun cls d σ H => σ.length = X.N.length → W cls d σ H) := fun u s' ⟨a, B, sI, pins, σ, H, cls, d, e, I, nb, up, sky, na, os, ag, w⟩ =>
  tk u s' ⟨a, B, sI, pins, σ, H, cls, d, e, I, nb, up, sky, na, os, ag, w I.len⟩
abbrev nTry : List Str := ["_law_ask", "e"]
/-- what try makes of the lambda's reading -/
def TTry (CC : Addr) : (XK → Hp → VK → Prop) → Hp → VK → Prop := fun tl H Q =>
  tl (fun cls d H' => Flt1 H' CC cls d Q) H (fun v H1 => 2 ≤ sizeLine ∧ ∀ t, H1 t = none → Q (.ref t) (upd H1 t (.tup [.str "", v])))
def tryT1 (CC : Addr) : Addr → Value → Option Addr → TS := fun a cls d => tRet (tTup (tCons (tXf a cls d CC "code" (tVar 1)) tNil))
def tryL (CC : Addr) : List Hd3 := [(.ref CC, 1, tryT1 CC)]
section
variable {X : Cx} {q : Str} {g CC : Addr} {cdg : Value}
theorem scTry : FnScope nTry ["_law_ask"] (defScope L_try) := ⟨rfl, rfl, rfl, by decide +kernel, rfl, by decide +kernel, by decide +kernel⟩
theorem try_gives (Z : Err1 X.prog X.w X.K X.mg X.base CC) : LamX.GivesTo X nTry "_law_try" (defScope L_try) g cdg (defBody L_try) "_law_ask" q (TTry CC) := by
  intro f c' s H Q tl act hc h
  let XX := (cxOf C8.CX0 X.prog X.w X.K X.mg X.base nTry "_law_try" (defScope L_try) g cdg X.A X.stack s H C8.E0).nox
  refine ⟨_, pss_one (ps_try_manyAs (X := XX) (l := tryL CC) (tb := fun W D σ H => ∃ Ech : XK, (∀ cls d σ' H', Ech cls d H' → σ'.length = 2 → W cls d σ' H') ∧ σ[0]? = some (some (.ref f)) ∧ H c' = some (LamX.CodeO c' q) ∧
      tl Ech H (fun v H1 => 2 ≤ sizeLine ∧ ∀ t, H1 t = none → D.rt (.ref t) (upd H1 t (.tup [.str "", v]))))
      rfl rfl scTry.nd LamX.takes0 (fun W pn xe tk _ => ?_) ?_), ?_⟩
  · refine ⟨fun pins s' σ H' D I h' => ?_⟩
    obtain ⟨Ech, hW, h1, h2, h3⟩ := h'
    have hp := act (fun cls d σ H => σ.length = 2 → W cls d σ H) pn xe Ech
    have hq : ∀ (j k : Nat) (p1 p2 p3 p4 p5 : Pos), PSs (XX.tr pn xe) [.Return (some (.Tuple [.Constant (.str "") j p3, .Call (.Name "_law_ask" p1) [] [] p2] k p4)) p5] (tRet (tTup (tCons (tC (.str "")) (tCons (fun σZ HZ Q => σZ[0]? = some (some (V.ref f)) ∧ HZ c' = some (LamX.CodeO c' q) ∧ tl Ech HZ Q) tNil)))) :=
      fun j k p1 p2 p3 p4 p5 => pss_one (ps_ret (pe_tup (pa_cons pe_str (pa_cons (hp p1 p2 (takes_len tk) hW) pa_nil))))
    exact (hq _ _ _ _ _ _ _).run pins s' σ H' D I ⟨h1, h2, h3⟩
  · exact .cons rfl rfl ⟨rfl, by decide, .inl Z.e.m⟩ (fun a oe cls d pn hz hf => pss_one (ps_ret (pe_tup (pa_cons (pe_xfP List.mem_cons_self Z.e.T Z.co hz hf (pv 1)) pa_nil)))) .nil
  · refine ⟨fun cls d H' => Flt1 H' CC cls d Q, fun cls d σ' H' hf hl => ?_, rfl, hc, ?_⟩
    · have g1 : ∀ a : Addr, (σ'.set 1 (some (V.ref a)))[1]? = some (some (V.ref a)) := fun a => List.getElem?_set_self (by omega)
      obtain ⟨rfl, dd, rfl, hd, q⟩ := hf
      exact ⟨true, Z.ex, fun _ a na => ⟨_, g1 a, rfl, rfl, dd, _, _, rfl, hd, rfl, (by show 1 ≤ sizeLine; decide), fun t nt => q t _ (new_same nt _) nt upd_same⟩, fun z => Bool.noConfusion z⟩
    · exact h
end
theorem air_ct {H : Hp} {CC : Addr} {Q : VK} (q : ∀ t H', Same H H' → H' t = some (.tup [.str "CantTurn"]) → Q (.ref t) H') : Air H CC (fs0 "CantTurn" []) (fun cls d H' => Flt1 H' CC cls d Q) := fun d H' s n e => ⟨rfl, d, rfl, e, fun t H2 s2 n2 e3 => q t H2 (s.trans s2) e3⟩
theorem tabs_upd {T : List (Addr × Str)} {H : Hp} {l : Addr} {xs : List V} {o : HO} (t : LamX.Tabs T H) (h : H l = some (.lst xs)) : LamX.Tabs T (upd H l o) := fun p hp => by
  obtain ⟨ps, h1, h2⟩ := t p hp
  exact ⟨ps, by rw [upd_ne (fun z => by rw [z, h] at h1; cases h1)]; exact h1, h2.1, fun pos cv hc => by
    obtain ⟨c, e, h3⟩ := h2.2 pos cv hc
    exact ⟨c, e, by rw [upd_ne (fun z => by rw [z, h] at h3; exact absurd h3 (fun y => by cases y))]; exact h3⟩⟩
/-- all sizes of a drawn step -/
theorem dr_sz {c : Rat} {rs : List Rat} {d n : Nat} (lc : LdC c) (c0 : c ≠ 0) (d0 : 0 < d) (d9 : d ≤ 99) (tl : ∀ r ∈ rs, TlQ d r) (n2 : 2 ≤ n) (n7 : n ≤ 7) : PaOk (serS (c :: rs)) n ∧ ∃ M, PSz (serS (c :: rs)) n M := by
  rcases lc with rfl | rfl | rfl | ⟨b, E, l, e0, e21⟩
  · exact absurd rfl c0
  · obtain ⟨h1, h2⟩ := one_sz (f := serS (1 :: rs)) (E := 60 * d) ⟨by omega, by show _ < 8589934592; omega, n2, n7⟩ (gm_cs (Dq.one (show 1 < 2 ^ 1 by decide)) d0 d9 tl) rfl
    exact ⟨h1, _, h2⟩
  · exact flip_sz (f := serS (-1 :: rs)) (D := 60 * d) (by omega) (by show _ < 16384; omega) n2 n7 (gm_cs (Dq.one (show 1 < 2 ^ 1 by decide)).neg d0 d9 tl) rfl
  · exact st_sz l e0 e21 d0 d9 tl n2 n7
/-! ### what the law stands on -/
structure Kit20 (P : Program) (w : World) (K : PySem.W.Frag) (mg : Str → Option Value) (base : Heap) (C S PT PA CF CO CC : Addr) : Prop where
  sk : StepK P w K mg base C S CF CO
  isS : IsS K S
  stc : StcK P w K mg base S
  eqs : OpM P w K mg base CX0 1 S "__eq__" (spEqF K S)
  pk : PtK P w K mg base PT
  draw : Use P w K mg base CX0 1 "_law_draw" ["_law_bag_here", "_law_many_y"] spDraw []
  drn : Use P w K mg base CX0 5 "_law_drawn" ["_law_bag_here"] (spDrn K) []
  lik : Use P w K mg base CX0 5 "_law_same" ["_law_found", "_law_due"] (spLike K 3) []
  pur : Use P w K mg base (L2.CX P w) 9 "is_pure" ["step"] (spPur K S) []
  lpu : Use P w K mg base CX0 3 "_law_pure" ["_law_f"] (spLpu K) []
  prt : Use P w K mg base (L2.CX P w) 10 "parted" ["step"] (spPrt K S PT CC) [["step"]]
  rgt : Use P w K mg base CX0 10 "_law_right" ["_law_told", "_law_f"] (spRgt K S PT) []
  ist : Use P w K mg base CX0 6 "_law_is_step" ["_law_told", "_law_f"] (spIst K S) []
  cut : MUse P w K mg base (L2.CX P w) 8 S "cut" ["self", "order"] (spCutO K S) []
  Z : Err1 P w K mg base CC
  ask : ∃ (g : Addr) (fd : FuncData), Fun K "_law_try" "_law_try" L_try g fd ∧ Binds K fd ["_law_ask"] [] ∧ mg "_law_try" = some (.ref g)
  mn : mg "len" = none
end Kx
end
section
set_option maxHeartbeats 4000000
namespace Kx
open PySem PySem.Spec PyProof.Rows L2 RZ
/-! ### once, and the law -/
def spOnc (T : List (Addr × Str)) : Sp := fun vs H Q _ => ∃ (n : Nat) (B p : Addr), vs = [.ref B] ∧ Bag (n + 230) H B p ∧ LamX.Tabs T H ∧ ∀ H', Bag n H' B p → LamX.Tabs T H' → Q (.bl true) H'
def spLaw (K : PySem.W.Frag) (T : List (Addr × Str)) : Sp := fun vs H Q _ => ∃ (a : Addr) (ns : List Int), vs = [.ref a] ∧ SqL K H a (ns.map V.int) ∧ LamX.Tabs T H ∧ ∀ H', Q (.bl true) H'
abbrev nOnc : List Str := ["_law_bag_here", "_law_f", "_law_deg", "_law_thing", "_law_found", "_law_told", "_law_low_here", "_law_short"]
/-- what stands -/
structure Jo (K : PySem.W.Frag) (S : Addr) (T : List (Addr × Str)) (m : Nat) (B p : Addr) (vf vt : V) (f : Ser) (N : Nat) (G : Hp) : Prop where
  b : Bag m G B p
  t : LamX.Tabs T G
  l : Ls K G vf (toL (N + 1) f)
  x : StAt K S G vt (toT N f)
section
variable {K : PySem.W.Frag} {S PT : Addr} {T : List (Addr × Str)} {n m N : Nat} {B p : Addr} {vf vt v : V} {f : Ser} {G G' : Hp}
theorem Jo.same (j : Jo K S T n B p vf vt f N G) (s : Same G G') : Jo K S T n B p vf vt f N G' := ⟨j.b.same s, j.t.ext s, j.l.same s, j.x.same s⟩
theorem Jo.ext (N2 : 1 ≤ N) (j : Jo K S T n B p vf vt f N G) (x3 : LamX.ExtN G G') (T3 : LamX.Tabs T G') : Jo K S T n B p vf vt f N G' := ⟨j.b.ext x3, T3, j.l.go (by rw [toL_len]; omega) j.b (Go.ext x3), j.x.go j.b (Go.ext x3)⟩
theorem Jo.go (N2 : 1 ≤ N) (j : Jo K S T n B p vf vt f N G) (b : Bag m G' B p) (u : But B G G') : Jo K S T m B p vf vt f N G' := ⟨b, tabs_but j.t j.b u, j.l.go (by rw [toL_len]; omega) j.b (Go.of u), j.x.go j.b (Go.of u)⟩
theorem PrS.go (h : PrS K S PT G v vt f N) (b : Bag n G B p) (u : But B G G') : PrS K S PT G' v vt f N := by
  obtain ⟨b', c, d, ⟨x, dx, e, hx⟩, h2, h3, h4, h5⟩ := h
  exact ⟨b', c, d, ⟨x, dx, e, ins_go hx b (Go.of u)⟩, h2.go b (Go.of u), h3.go b (Go.of u), h4.go b (Go.of u), h5.go b (Go.of u)⟩
end
section
variable {P : Program} {w : World} {K : PySem.W.Frag} {mg : Str → Option Value} {base : Heap} {f c Pt C S PT PA CF CO CC : Addr} {fd : FuncData} {T : List (Addr × Str)}
theorem scOnc : FnScope nOnc ["_law_bag_here"] (defScope L_once) := ⟨rfl, rfl, rfl, by decide +kernel, rfl, by decide +kernel, by decide +kernel⟩
theorem ok_once (F : FunC K "_law_once" "_law_once" L_once f fd c) (U : Kit20 P w K mg base C S PT PA CF CO CC)
    (TB : LamX.TabB base mg c Pt) (hmT : (Pt, ((("_law_once" : Str) ++ ".<locals>.") ++ "<lambda>" : Str)) ∈ T) (hu : ∀ p ∈ T, p.1 = Pt → p.2 = ((("_law_once" : Str) ++ ".<locals>.") ++ "<lambda>" : Str)) : FnOk P w K mg base CX0 13 f fd ["_law_bag_here"] (spOnc T) := by
  refine F.ok scOnc (fun vs H Q E h => ?_) (fun A outer s H vs Q E hr h => ?_)
  · obtain ⟨n, B, p, rfl, _⟩ := h
    rfl
  obtain ⟨n, B, p, rfl, hb, hT, q⟩ := h
  have hr1 := hr.mono (show 1 ≤ 12 by decide)
  have hr3 := hr.mono (show 3 ≤ 12 by decide)
  have hr5 := hr.mono (show 5 ≤ 12 by decide)
  have hr6 := hr.mono (show 6 ≤ 12 by decide)
  have hr7 := hr.mono (show 7 ≤ 12 by decide)
  have hr8 := hr.mono (show 8 ≤ 12 by decide)
  have hr9 := hr.mono (show 9 ≤ 12 by decide)
  have hr10 := hr.mono (show 10 ≤ 12 by decide)
  obtain ⟨fI, fdI, MI, FI, bI⟩ := U.sk.ini
  obtain ⟨gA, fdA, FA, bA, mA⟩ := U.ask
  obtain ⟨oc, od, kV, doc, pm, an, cdv, ct, osl, rfl, lkA, hcdA⟩ := FA.ex
  obtain ⟨sp, sg, sfd, cS, FS, bS⟩ := U.stc.still
  have eqS : ∀ {X : Cx}, True := fun {X} => trivial
  refine ⟨_, (C8.pss_cut (ps_set (i := 1) scOnc.nd rfl (Or.inl rfl) (pe_use U.drn hr5 rfl pass0 (pa_cons (pv 0) pa_nil)))
    (C8.pss_cut (ps_set (i := 2) scOnc.nd rfl (Or.inl rfl) (pe_op op_sub (pe_callB call_len_seq rfl U.mn PySem.boot_len (pa_cons (pv 1) pa_nil)) pe_int))
    (C8.pss_cut (ps_set (i := 3) scOnc.nd rfl (Or.inr rfl) (pe_make (E := fun _ _ _ => False) MI FI hr7 rfl U.sk.m bI .nil passF (pa_cons (pe_slice sl_list (pv 1) (po_some pe_int) po_none) pa_nil)))
    (C8.pss_cut (ps_if (pt_not (pt_val (pe_use U.lik hr5 rfl pass0 (pa_cons (pe_use (E := fun _ _ _ => False) U.pur hr9 rfl passF (pa_cons (pv 3) pa_nil)) (pa_cons (pe_use U.lpu hr3 rfl pass0 (pa_cons (pv 1) pa_nil)) pa_nil))))) (pss_one (ps_ret pe_bl)) pss_nil)
    (C8.pss_cut (ps_if (pt_cmpR (op_eqD hr.units) (pe_ix ix_list (pv 1) pe_int (fun _ _ => rfl)) (pe_tup (pa_cons pe_int (pa_cons pe_int pa_nil))) (nomark _))
      (C8.pss_cut (ps_set (i := 4) scOnc.nd rfl (Or.inl rfl) (pe_lst (pa_cons (LamX.pe_lamcall (k := 10) (t := fun E => tCall (spPrt K S PT CC) [] E (tCons (tVar 3) tNil)) (TT := TTry CC) rfl mA FA.kp lkA hcdA bA scTry rfl (Or.inl rfl) (try_gives U.Z) TB rfl hmT hu hr (LamX.lamS_by (show LamX.lamSB (defScope L_once) _ = true by decide +kernel)) rfl (fun _ _ _ _ _ => rfl) (fun A outer s H E f c' hk => pe_use (E := E) U.prt hk rfl (passes_call (takes_of rfl rfl rfl rfl) (fun _ _ _ _ h => h)) (pa_cons (pv 3) pa_nil))) pa_nil)))
      (pss_cons (ps_expr (pe_bm PySem.F.plainAttrs_list PySem.F.slot_list_append PySem.F.type_list_append mt_append (pv 4) (pa_cons (LamX.pe_lamcall (k := 10) (t := fun E => tCallR 1 (spPrt K S PT CC) E (tCons (tVar 3) tNil)) (TT := TTry CC) rfl mA FA.kp lkA hcdA bA scTry rfl (Or.inl rfl) (try_gives U.Z) TB rfl hmT hu hr (LamX.lamS_by (show LamX.lamSB (defScope L_once) _ = true by decide +kernel)) rfl (fun _ _ _ _ _ => rfl) (fun A outer s H E f c' hk => pe_useR (E := E) (ks := ["step"]) U.prt hk rfl (passes_call (takes_of rfl rfl rfl rfl) (fun _ _ _ _ h => h)) rfl (pk_cons (pv 3) pk_nil) (by simp))) pa_nil)))
      (pss_one (ps_ret (pe_use U.lik hr5 rfl pass0 (pa_cons (pv 4) (pa_cons (pe_op op_rep (pe_lst (pa_cons (pe_tup (pa_cons pe_str pa_nil)) pa_nil)) pe_int) pa_nil))))))) pss_nil)
    (C8.pss_cut (ps_set (i := 5) scOnc.nd rfl (Or.inl rfl) (pe_use (E := fun _ _ _ => False) U.prt hr10 rfl passF (pa_cons (pv 3) pa_nil)))
    (C8.pss_cut (ps_if (PW.pt (pw_or (pt_not (pt_val (pe_use U.rgt hr10 rfl pass0 (pa_cons (pv 5) (pa_cons (pv 1) pa_nil))))) (pw_or1 (pt_not (pt_val (pe_use U.rgt hr10 rfl pass0 (pa_cons (pe_useR (E := fun _ _ _ => False) (ks := ["step"]) U.prt hr10 rfl passF rfl (pk_cons (pv 3) pk_nil) (by simp)) (pa_cons (pv 1) pa_nil)))))))) (pss_one (ps_ret pe_bl)) pss_nil)
    (C8.pss_cut (ps_if (pt_not (pt_val (pe_use U.lik hr5 rfl pass0 (pa_cons (pe_lst (pa_cons (pe_use (E := fun _ _ _ => False) U.pur hr9 rfl passF (pa_cons (pe_fld (pv 5) rfl) pa_nil)) (pa_cons (pe_use (E := fun _ _ _ => False) U.pur hr9 rfl passF (pa_cons (pe_fld (pv 5) rfl) pa_nil)) pa_nil))) (pa_cons (pe_lst (pa_cons pe_bl (pa_cons (pe_cmpR (op_eqO (E := fun _ _ _ => False) U.eqs hr1 pass0) (pe_fld (pv 5) rfl) (pe_static (E := fun _ _ _ => False) (C8.pe_gc (v := .ref S) rfl ⟨_, U.sk.m, rfl⟩) U.stc.rd cS FS hr8 bS passF (pa_cons (pv 2) pa_nil)) (nomark _)) pa_nil))) pa_nil))))) (pss_one (ps_ret pe_bl)) pss_nil)
    (C8.pss_cut (ps_set (i := 6) scOnc.nd rfl (Or.inl rfl) (pe_op op_add pe_int (pe_use U.draw hr1 rfl pass0 (pa_cons (pv 0) (pa_cons (pe_op op_sub (pv 2) pe_int) pa_nil)))))
    (C8.pss_cut (ps_set (i := 7) scOnc.nd rfl (Or.inl rfl) (pe_use (E := fun _ _ _ => False) U.prt hr10 rfl passF (pa_cons (pe_mu (E := fun _ _ _ => False) U.cut (pv 3) hr8 passF (pa_cons (pv 6) pa_nil)) pa_nil)))
    (C8.pss_cut (ps_if (pt_not (pt_val (pe_use U.rgt hr10 rfl pass0 (pa_cons (pv 7) (pa_cons (pe_slice sl_list (pv 1) po_none (po_some (pe_op op_add (pv 6) pe_int))) pa_nil))))) (pss_one (ps_ret pe_bl)) pss_nil)
    (C8.pss_cut (ps_set (i := 4) scOnc.nd rfl (Or.inl rfl) (pe_lst (pa_cons (pe_cmpR (op_eqO (E := fun _ _ _ => False) U.eqs hr1 pass0) (pe_fld (pv 7) rfl) (pe_mu (E := fun _ _ _ => False) U.cut (pe_fld (pv 5) rfl) hr8 passF (pa_cons (pv 6) pa_nil)) (nomark _)) (pa_cons (pe_cmpR (op_eqO (E := fun _ _ _ => False) U.eqs hr1 pass0) (pe_fld (pv 7) rfl) (pe_mu (E := fun _ _ _ => False) U.cut (pe_fld (pv 5) rfl) hr8 passF (pa_cons (pv 6) pa_nil)) (nomark _)) pa_nil))))
    (C8.pss_cut (ps_expr (pe_bm PySem.F.plainAttrs_list PySem.F.slot_list_append PySem.F.type_list_append mt_append (pv 4) (pa_cons (pe_cmpR (op_eqO (E := fun _ _ _ => False) U.eqs hr1 pass0) (pe_fld (pv 7) rfl) (pe_mu (E := fun _ _ _ => False) U.cut (pe_fld (pv 5) rfl) hr8 passF (pa_cons (pv 6) pa_nil)) (nomark _)) pa_nil)))
    (C8.pss_cut (ps_expr (pe_bm PySem.F.plainAttrs_list PySem.F.slot_list_append PySem.F.type_list_append mt_append (pv 4) (pa_cons (pe_or (pe_cmpR (op_eqD hr.units) (pe_ix ix_list (pv 1) pe_int (fun _ _ => rfl)) (pe_tup (pa_cons (pe_un un_neg pe_int) (pa_cons pe_int pa_nil))) (nomark _)) (pe_or (pe_cmpR (op_eqD hr.units) (pe_ix ix_list (pv 1) pe_int (fun _ _ => rfl)) (pe_tup (pa_cons pe_int (pa_cons pe_int pa_nil))) (nomark _)) (pe_one (pe_cmpR (op_eqO (E := fun _ _ _ => False) U.eqs hr1 pass0) (pe_fld (pv 5) rfl) (pv 3) (nomark _))))) pa_nil)))
    (pss_one (ps_ret (pe_and (pe_use U.lik hr5 rfl pass0 (pa_cons (pv 4) (pa_cons (pe_op op_rep (pe_lst (pa_cons pe_bl pa_nil)) pe_int) pa_nil))) (pe_and (pe_use U.rgt hr10 rfl pass0 (pa_cons (pv 5) (pa_cons (pv 1) pa_nil))) (pe_one (pe_use U.ist hr6 rfl pass0 (pa_cons (pv 3) (pa_cons (pv 1) pa_nil)))))))))))))))))))))), ?_⟩
  refine ⟨fun σ G => ∃ (v : V) (c : Rat) (rs : List Rat) (d : Nat), σ = [some (.ref B), some v, none, none, none, none, none, none] ∧ Bag (n + 170) G B p ∧ LamX.Tabs T G ∧ Ls K G v (0 :: c :: rs) ∧ 1 ≤ rs.length ∧ rs.length ≤ 6 ∧ 0 < d ∧ d ≤ 99 ∧ (∀ r ∈ rs, TlQ d r) ∧ LdC c, ?_, ?_⟩
  · refine ⟨_, rfl, n + 170, B, p, rfl, hb, fun H1 v c rs d b1 u1 lv l1 l6 d0 d9 tl lc => ?_⟩
    exact ⟨v, c, rs, d, rfl, b1, tabs_but hT hb u1, lv, l1, l6, d0, d9, tl, lc⟩
  clear hb hT
  rintro σ G ⟨v, c, rs, d, rfl, hb, hT, lv, l1, l6, d0, d9, tl, lc⟩
  obtain ⟨N, hN⟩ : ∃ N, N = rs.length + 1 := ⟨_, rfl⟩
  obtain ⟨f, ef⟩ : ∃ f, f = serS (c :: rs) := ⟨_, rfl⟩
  have n2 : 2 ≤ N := by omega
  have n7 : N ≤ 7 := by omega
  have eL : 0 :: c :: rs = toL (N + 1) f := by
    rw [ef]
    have := toL_ser (0 :: c :: rs)
    rw [show (0 :: c :: rs).length = N + 1 from by rw [hN]; rfl] at this
    exact this.symm
  have eT : c :: rs = toT N f := by
    have := toT_serS (c :: rs)
    rw [show (c :: rs).length = N from by rw [hN]; rfl, ← ef] at this
    exact this.symm
  have f1 : f 1 = c := by rw [ef]; rfl
  have f0 : f 0 = 0 := by rw [ef]; rfl
  have ok : c ≠ 0 → ∀ m, 2 ≤ m → m ≤ 7 → PaOk f m ∧ ∃ M, PSz f m M := fun z m m2 m7 => by rw [ef]; exact dr_sz lc z d0 d9 tl m2 m7
  rw [eL] at lv
  obtain ⟨va, ys, rfl, hva, mva⟩ := id lv
  have kva : ys.length = N + 1 := by rw [mva.1, toL_len]
  have fin : ∀ G', Bag n G' B p → LamX.Tabs T G' → Q (.bl true) G' := q
  refine ⟨fun σ G => σ = [some (.ref B), some (.ref va), some (.int (N : Nat)), none, none, none, none, none] ∧ Bag (n + 170) G B p ∧ LamX.Tabs T G ∧ Ls K G (.ref va) (toL (N + 1) f), ?_, ?_⟩
  · refine ⟨_, rfl, va, ys, rfl, .inl (SqL.of hva), _, 1, rfl, rfl, ?_, hb, hT, lv⟩
    have e1 : ((ys.length : Nat) : Int) - 1 = ((N : Nat) : Int) := by omega
    show [some (V.ref B), some (V.ref va), some (V.int (((ys.length : Nat) : Int) - 1)), none, none, none, none, none] = _
    rw [e1]
  clear hb hT lv hva mva kva
  rintro σ G ⟨rfl, hb, hT, lv⟩
  refine ⟨fun σ G => ∃ vt, σ = [some (.ref B), some (.ref va), some (.int (N : Nat)), some vt, none, none, none, none] ∧ Jo K S T (n + 170) B p (.ref va) vt f N G, ?_, ?_⟩
  · obtain ⟨va', ys, e, hva, mva⟩ := id lv
    obtain rfl := V.ref.inj e
    refine ⟨_, rfl, 1, rfl, va, ys, rfl, SqL.of hva, fun e ne => ?_⟩
    rw [show cutV ys (some 1) none = ys.drop 1 from cut_drop ys 1]
    have s4 := new_same ne (HO.lst (ys.drop 1))
    have md : Nl K G (ys.drop 1) (toT N f) := by
      have := mva.drop 1
      rw [← toT0 f0] at this
      exact this
    refine fun x2 dx2 xn dn en => ?_
    refine step_newF (.inl upd_same) (md.same s4) (by rw [toT_len]; omega) (by rw [toT_len]; omega) xn dn en fun G2 s5 hX => ⟨rfl, _, rfl, ?_⟩
    have s45 := s4.trans s5
    exact ⟨hb.same s45, hT.ext s45, lv.same s45, hX.st⟩
  clear hb hT lv
  rintro σ G ⟨vt, rfl, j⟩
  have kf := kd_flip n2 f0
  refine ⟨fun σ G => σ = [some (.ref B), some (.ref va), some (.int (N : Nat)), some vt, none, none, none, none] ∧ Jo K S T (n + 170) B p (.ref va) vt f N G, ?_, ?_⟩
  · have nz : f 1 = -1 → c ≠ 0 := fun z y => by rw [f1, y] at z; exact absurd z (by decide)
    refine ⟨_, rfl, vt, toT N f, rfl, j.x, fun z => ((ok (nz (kf.mp z)) N n2 n7).1.fl (kf.mp z)).1, fun H1 s1 => ?_⟩
    rw [pur_eq n2 f0]
    have j1 := j.same s1
    have lpu : ∃ M, f 1 = -1 → 0 < M ∧ M < 2 ^ 600 ∧ Gl M 9000 f N := by
      by_cases z : f 1 = -1
      · obtain ⟨M, sz⟩ := (ok (nz z) N n2 n7).2
        exact ⟨M, fun _ => ⟨sz.m0, sz.m, sz.gf⟩⟩
      · exact ⟨0, fun y => absurd y z⟩
    obtain ⟨M, lpu⟩ := lpu
    refine ⟨_, rfl, .ref va, f, N, M, rfl, j1.l, f0, n2, n7, lpu, fun H2 s2 => ?_⟩
    exact ⟨_, _, rfl, Lk.flat rfl, fun H3 s3 => ⟨_, rfl, iteF ⟨rfl, j1.same (s2.trans s3)⟩⟩⟩
  clear j
  rintro σ G ⟨rfl, j⟩
  have one : ∀ {G : Hp}, Ls K G (.ref va) (toL (N + 1) f) → ∃ ys y, G va = some (.lst ys) ∧ ys[1]? = some y ∧ Nq K G y (f 1) := fun {G} l => by
    obtain ⟨a, ys, e, ha, ma⟩ := l
    obtain rfl := V.ref.inj e
    have := toL_get (n := N + 1) (f := f) (i := 1) (by omega)
    obtain ⟨y, ey, ny⟩ := ma.get' (i := 1) (by rw [toL_len]; omega)
    rw [List.getElem?_eq_getElem (by rw [toL_len]; omega)] at this
    rw [Option.some.inj this] at ny
    exact ⟨ys, y, ha, ey, ny⟩
  refine ⟨fun σ G => σ = [some (.ref B), some (.ref va), some (.int (N : Nat)), some vt, none, none, none, none] ∧ Jo K S T (n + 170) B p (.ref va) vt f N G ∧ c ≠ 0, ?_, ?_⟩
  · obtain ⟨ys, y, hys, ey, ny⟩ := one j.l
    refine ⟨_, rfl, va, ys, 1, y, rfl, rfl, SqL.of hys, at_of (j := 1) rfl ey, (by show 2 ≤ sizeLine; decide), fun t nt => ?_⟩
    have s1 := new_same nt (HO.tup [.int 0, .int 1])
    have t1 : Nq K (upd G t (HO.tup [.int 0, .int 1])) (.ref t) 0 := .at (K := K) upd_same
    generalize upd G t (HO.tup [.int 0, .int 1]) = G1 at s1 t1
    refine ⟨tupQ (f 1), tupQ 0, (ny.same s1).dp, t1.dp, rfl, rfl, _, rfl, ?_⟩
    rw [eqv_num]
    by_cases z : c = 0
    · rw [decide_eq_true (f1.trans z)]
      refine iteT ?_
      have j1 := j.same s1
      have z1 : f 1 = 0 := f1.trans z
      have pa : PaOk f N := ⟨n2, f0, fun y => absurd (z1.symm.trans y) (by decide), fun y => absurd z1 y⟩
      refine ⟨fun σ G => ∃ (l t1 : Addr), σ = [some (.ref B), some (.ref va), some (.int (N : Nat)), some vt, some (.ref l), none, none, none] ∧ Jo K S T (n + 170) B p (.ref va) vt f N G ∧ l ≠ B ∧ l ≠ p ∧ G l = some (.lst [.ref t1]) ∧ G t1 = some (.tup [.str "CantTurn"]), ?_, ?_⟩
      · refine ⟨j1.t, fun H3 x3 T3 => ?_⟩
        have j3 := j1.ext (by omega) x3 T3
        refine ⟨_, rfl, vt, f, N, rfl, j3.x, pa, fun _ => air_ct fun t H6 s6 e6 => ?_, fun y => absurd z1 y⟩
        refine ⟨(by show 1 ≤ sizeLine; decide), fun l nl => ?_⟩
        have s7 := new_same nl (HO.lst [V.ref t])
        have b6 := j3.b.same s6
        exact ⟨l, t, rfl, j3.same (s6.trans s7), (b6.at nl).1, (b6.at nl).2, upd_same, s7 _ _ e6⟩
      clear j1 s1 t1 ny hys
      rintro σ G2 ⟨l, t1, rfl, j2, lB, lp, hl, ht1⟩
      refine ⟨_, rfl, .inl ⟨rfl, _, SqL.of hl⟩, j2.t, fun H3 x3 T3 => ?_⟩
      have j3 := j2.ext (by omega) x3 T3
      have hl3 := x3 _ _ hl (fun ps y => by cases y)
      have ht3 := x3 _ _ ht1 (fun ps y => by cases y)
      refine ⟨_, rfl, rfl, vt, f, N, rfl, j3.x, pa, fun _ => air_ct fun t H6 s6 e6 => ?_, fun y => absurd z1 y⟩
      refine ⟨l, [.ref t1], _, rfl, rfl, s6 _ _ hl3, small1000 (by show 1 ≤ 1000; decide), ?_⟩
      have hl6 := s6 _ _ hl3
      have tl : t ≠ l := fun y => by rw [y, hl6] at e6; cases e6
      have tl1 : t1 ≠ l := fun y => by rw [y, hl3] at ht3; cases ht3
      have b7 : Bag n (upd H6 l (.lst ([.ref t1] ++ [.ref t]))) B p := ((j3.b.same s6).upd lB lp).less (by omega)
      have T7 : LamX.Tabs T (upd H6 l (.lst ([.ref t1] ++ [.ref t]))) := tabs_upd (T3.ext s6) hl6
      have hl7 : upd H6 l (.lst ([V.ref t1] ++ [V.ref t])) l = some (.lst [V.ref t1, V.ref t]) := upd_same
      have ht7 : upd H6 l (.lst ([V.ref t1] ++ [V.ref t])) t = some (.tup [.str "CantTurn"]) := by rw [upd_ne tl]; exact e6
      have ht17 : upd H6 l (.lst ([V.ref t1] ++ [V.ref t])) t1 = some (.tup [.str "CantTurn"]) := by rw [upd_ne tl1]; exact s6 _ _ ht3
      change _
      generalize upd H6 l (.lst ([V.ref t1] ++ [V.ref t])) = H7 at b7 T7 hl7 ht7 ht17
      refine ⟨_, rfl, (by show 1 ≤ sizeLine; decide), fun t8 nt8 => ⟨(by show 1 ≤ sizeLine; decide), fun l8 nl8 => ?_⟩⟩
      have s8 := new_same nt8 (HO.tup [.str "CantTurn"])
      have s9 := new_same nl8 (HO.lst [V.ref t8])
      refine ⟨l8, 2, [.ref t8], rfl, rfl, upd_same, by decide, by decide, (by show 1 * _ ≤ sizeLine; decide), fun d9' nd9 => ?_⟩
      have s10 := new_same nd9 (HO.lst [V.ref t8, V.ref t8])
      have sA := s8.trans (s9.trans s10)
      have ct : ∀ {a b : Addr} {X : Hp}, X a = some (.tup [.str "CantTurn"]) → X b = some (.tup [.str "CantTurn"]) → Lk K 1 X (.ref a) (.ref b) := fun {a b X} h1 h2 => .inr ⟨a, b, _, _, rfl, rfl, (by show 1 ≤ 60; decide), .cons (Lk.flat rfl) .nil, .inr ⟨.inl h1, .inl h2⟩⟩
      have h8 : upd H7 t8 (HO.tup [.str "CantTurn"]) t8 = some (.tup [.str "CantTurn"]) := upd_same
      have h88 := (s9.trans s10) _ _ h8
      refine ⟨_, _, rfl, (Lk.lst (n := 1) (sA _ _ hl7) (show _ = some (.lst [V.ref t8, V.ref t8]) from upd_same) (by show 2 ≤ 60; decide) (.cons (ct (sA _ _ ht17) h88) (.cons (ct (sA _ _ ht7) h88) .nil))).succ, fun H9 s11 => ?_⟩
      exact fin H9 (b7.same (sA.trans s11)) (T7.ext (sA.trans s11))
    · rw [decide_eq_false (show ¬ f 1 = 0 by rw [f1]; exact z)]
      exact iteF ⟨rfl, j.same s1, z⟩
  clear j
  rintro σ G ⟨rfl, j, c0⟩
  have z1 : f 1 ≠ 0 := by rw [f1]; exact c0
  obtain ⟨pa, M, sz⟩ := ok c0 N n2 n7
  have e := pa.e z1
  have mkP : ∀ {G1 G2 : Hp} {y b' c' d' v' : V} {f' : Ser} {N' : Nat}, Same G1 G2 → PtAt PT G2 y v' b' c' d' → StAt K S G1 v' (toT N' f') → StAt K S G2 b' (toT N' (puS f')) → StAt K S G2 c' (toT N' (slS f')) → StAt K S G2 d' (toT N' (srS f')) → PrS K S PT G2 y v' f' N' := fun s hp hx h1 h2 h3 => ⟨_, _, _, hp, hx.same s, h1, h2, h3⟩
  refine ⟨fun σ G => ∃ vp, σ = [some (.ref B), some (.ref va), some (.int (N : Nat)), some vt, none, some vp, none, none] ∧ Jo K S T (n + 170) B p (.ref va) vt f N G ∧ PrS K S PT G vp vt f N, ?_, ?_⟩
  · refine ⟨_, rfl, vt, f, N, rfl, j.x, pa, fun y => absurd y z1, fun _ H' y b' c' d' s' hp h1 h2 h3 => ?_⟩
    exact ⟨y, rfl, j.same s', mkP s' hp j.x h1 h2 h3⟩
  clear j
  rintro σ G ⟨vp, rfl, j, hP⟩
  refine ⟨fun σ G => σ = [some (.ref B), some (.ref va), some (.int (N : Nat)), some vt, none, some vp, none, none] ∧ Jo K S T (n + 170) B p (.ref va) vt f N G ∧ PrS K S PT G vp vt f N, ?_, ?_⟩
  · refine ⟨_, rfl, _, rfl, vp, vt, .ref va, f, N, M, rfl, hP, j.l, n7, z1, pa, sz, fun G1 s1 => ⟨_, rfl, iteF ?_⟩⟩
    have j1 := j.same s1
    refine ⟨_, rfl, rfl, vt, f, N, rfl, j1.x, pa, fun y => absurd y z1, fun _ H' y b' c' d' s' hp h1 h2 h3 => ?_⟩
    have j2 := j1.same s'
    exact ⟨_, rfl, y, vt, .ref va, f, N, M, rfl, mkP s' hp j1.x h1 h2 h3, j2.l, n7, z1, pa, sz, fun G3 s3 => ⟨_, rfl, iteF ⟨rfl, j2.same s3, hP.same (s1.trans (s'.trans s3))⟩⟩⟩
  clear j hP
  rintro σ G ⟨rfl, j, hP⟩
  -- the parts are pure
  have pP : purB (toT N (puS f)) = true := by
    rw [pur_eq n2 e.p0]
    unfold purS
    rw [e.p1]
    by_cases a : f 1 = 1
    · rw [if_pos a]
      have e2 : puS f = xS := if_pos a
      rw [e2, decide_eq_true rfl]
    rw [if_neg a, decide_eq_false z1]
    by_cases b : f 1 = -1
    · have e2 : puS f = flP f := by unfold puS; rw [if_neg a, if_pos b]
      rw [e2, fl_pp f0 b, decide_eq_true (show toL (N + 1) xS = toL (N + 1) xS from rfl)]
      simp
    · rw [decide_eq_false b]
      rfl
  have pS : purB (toT N (slS f)) = decide (toT N (slS f) = stL N) := by
    rw [pur_eq n2 e.u0]
    unfold purS
    rw [if_pos e.u1, decide_eq_decide, ← toT0 e.u0, ← toT0 (show xS 0 = 0 from rfl), stL_T (by omega)]
    exact ⟨fun h => List.tail_eq_of_cons_eq h, fun h => by rw [h]⟩
  refine ⟨fun σ G => σ = [some (.ref B), some (.ref va), some (.int (N : Nat)), some vt, none, some vp, none, none] ∧ Jo K S T (n + 170) B p (.ref va) vt f N G ∧ PrS K S PT G vp vt f N, ?_, ?_⟩
  · obtain ⟨b', c', d', ⟨x, dx, rfl, hx⟩, hA, hB, hC, hD⟩ := id hP
    refine ⟨_, rfl, x, PT, dx, _, _, rfl, hx, U.pk.c, U.pk.nA _ (by simp [ptN]), rfl, b', toT N (puS f), rfl, hB, fun _ => gl_mul sz.m0 sz.m sz.gs sz.gs e.p0 e.p0, fun G1 s1 => ?_⟩
    rw [pP]
    refine ⟨_, rfl, x, PT, dx, _, _, rfl, s1 _ _ hx, U.pk.c, U.pk.nA _ (by simp [ptN]), rfl, c', toT N (slS f), rfl, hC.same s1, fun _ => gl_mul sz.m0 sz.m sz.gu sz.gu e.u0 e.u0, fun G2 s2 => ?_⟩
    rw [pS]
    have s12 := s1.trans s2
    refine ⟨(by show 2 ≤ sizeLine; decide), fun l1 nl1 => ?_⟩
    have s3 := new_same nl1 (HO.lst [V.bl true, V.bl (decide (toT N (slS f) = stL N))])
    have h3 : upd G2 l1 (HO.lst [V.bl true, V.bl (decide (toT N (slS f) = stL N))]) l1 = some (.lst [V.bl true, V.bl (decide (toT N (slS f) = stL N))]) := upd_same
    generalize upd G2 l1 (HO.lst [V.bl true, V.bl (decide (toT N (slS f) = stL N))]) = G3 at s3 h3
    have s13 := s12.trans s3
    refine ⟨_, rfl, x, PT, dx, _, _, rfl, s13 _ _ hx, U.pk.c, U.pk.nA _ (by simp [ptN]), rfl, rfl, _, rfl, N, rfl, n2, by omega, fun G4 y s4 hy => ?_⟩
    refine rd_eqS U.isS ((hC.same s13).same s4) hy.st ?_
    refine ⟨(by show 2 ≤ sizeLine; decide), fun l2 nl2 => ?_⟩
    have s5 := new_same nl2 (HO.lst [V.bl true, V.bl (decide (toT N (slS f) = stL N))])
    have sA := s13.trans (s4.trans s5)
    refine ⟨_, _, rfl, Lk.lst (n := 2) ((s4.trans s5) _ _ h3) upd_same (by show 2 ≤ 60; decide) (.cons (Lk.flat rfl) (.cons (Lk.flat rfl) .nil)), fun G6 s6 => ⟨_, rfl, iteF ⟨rfl, j.same (sA.trans s6), hP.same (sA.trans s6)⟩⟩⟩
  clear j hP
  rintro σ G ⟨rfl, j, hP⟩
  refine ⟨fun σ G => ∃ m : Nat, σ = [some (.ref B), some (.ref va), some (.int (N : Nat)), some vt, none, some vp, some (.int (m : Nat)), none] ∧ 2 ≤ m ∧ m ≤ N ∧ Jo K S T (n + 169) B p (.ref va) vt f N G ∧ PrS K S PT G vp vt f N, ?_, ?_⟩
  · refine ⟨_, rfl, _, rfl, _, _, rfl, rfl, n + 169, B, p, _, rfl, by omega, by omega, j.b, fun G1 k b1 u1 k0 k1 => ⟨_, k, rfl, rfl, 2 + k.toNat, ?_, by omega, by omega, j.go (by omega) b1 u1, hP.go j.b u1⟩⟩
    have e1 : (2 : Int) + k = ((2 + k.toNat : Nat) : Int) := by omega
    rw [← e1]
    rfl
  clear j hP
  rintro σ G ⟨m, rfl, m2, mN, j, hP⟩
  obtain ⟨pa2, M2, sz2⟩ := ok c0 m m2 (by omega)
  have e' := pa2.e z1
  have tk : ∀ F : Ser, (toT N F).take m = toT m F := fun F => toT_take F mN
  refine ⟨fun σ G => ∃ vs vc, σ = [some (.ref B), some (.ref va), some (.int (N : Nat)), some vt, none, some vp, some (.int (m : Nat)), some vs] ∧ Jo K S T (n + 169) B p (.ref va) vt f N G ∧ PrS K S PT G vp vt f N ∧ PrS K S PT G vs vc f m, ?_, ?_⟩
  · obtain ⟨x, dx, b, xs, x0, fv, sv, ex, hx, _⟩ := id j.x
    subst ex
    refine ⟨_, rfl, x, dx, _, rfl, hx, rfl, ?_⟩
    refine ⟨_, rfl, .ref x, toT N f, m, rfl, j.x, m2, by rw [toT_len]; exact mN, fun G1 y s1 hy => ?_⟩
    rw [tk f] at hy
    refine ⟨y, f, m, rfl, hy.st, pa2, fun w' => absurd w' z1, fun _ H' y2 b' c' d' s' hp h1 h2 h3 => ?_⟩
    exact ⟨y2, y, rfl, j.same (s1.trans s'), hP.same (s1.trans s'), mkP s' hp hy.st h1 h2 h3⟩
  clear j hP
  rintro σ G ⟨vs, vc, rfl, j, hP, hS⟩
  refine ⟨fun σ G => σ = [some (.ref B), some (.ref va), some (.int (N : Nat)), some vt, none, some vp, some (.int (m : Nat)), some vs] ∧ Jo K S T (n + 169) B p (.ref va) vt f N G ∧ PrS K S PT G vp vt f N ∧ PrS K S PT G vs vc f m, ?_, ?_⟩
  · obtain ⟨a, ys, ea, ha, ma⟩ := id j.l
    obtain rfl := V.ref.inj ea
    refine ⟨_, rfl, _, rfl, _, rfl, _, 1, rfl, rfl, _, rfl, va, ys, rfl, SqL.of ha, fun l nl => ?_⟩
    have em : ((m : Nat) : Int) + 1 = ((m + 1 : Nat) : Int) := by omega
    rw [em, show cutV ys none (some ((m + 1 : Nat) : Int)) = ys.take (m + 1) from cut_take ys (m + 1)]
    have s1 := new_same nl (HO.lst (ys.take (m + 1)))
    have lt : Ls K (upd G l (HO.lst (ys.take (m + 1)))) (.ref l) (toL (m + 1) f) := ⟨l, _, rfl, upd_same, by
      have := (ma.take (m + 1)).same s1
      rw [toL_take f (show m + 1 ≤ N + 1 by omega)] at this
      exact this⟩
    exact ⟨vs, vc, .ref l, f, m, M2, rfl, hS.same s1, lt, by omega, z1, pa2, sz2, fun G2 s2 => ⟨_, rfl, iteF ⟨rfl, j.same (s1.trans s2), hP.same (s1.trans s2), hS.same (s1.trans s2)⟩⟩⟩
  clear j hP hS
  rintro σ Gz ⟨rfl, j, hP, hS⟩
  obtain ⟨b', c', d', ⟨x, dx, rfl, hx⟩, hA, hB, hC, hD⟩ := id hP
  obtain ⟨b2, c2, d2, ⟨x2, dx2, rfl, hx2⟩, hA2, hB2, hC2, hD2⟩ := id hS
  have obj : ∀ {G : Hp} {y : V} {qs : List Rat}, StAt K S G y qs → ∃ (xa dxa : Addr) (fs : List (Str × V)), y = .ref xa ∧ G xa = some (.ins S dxa fs) ∧ fs.lookup ("cut" : Str) = none := fun {G y qs} h => by
    obtain ⟨xa, dxa, b, xs, x0, fv, sv, ex, hx, _⟩ := h
    exact ⟨xa, dxa, _, ex, hx, rfl⟩
  have sel : ∀ {l : Addr} {G : Hp} {o : HO}, Gz l = none → Same Gz G → Same Gz (upd G l o) := fun {l G o} h s a q' ha => by
    rw [upd_ne (fun z => by rw [z, h] at ha; cases ha)]
    exact s _ _ ha
  refine ⟨fun σ G => ∃ l, σ = [some (.ref B), some (.ref va), some (.int (N : Nat)), some vt, some (.ref l), some (.ref x), some (.int (m : Nat)), some (.ref x2)] ∧ Gz l = none ∧ Same Gz G ∧ G l = some (.lst [.bl true, .bl true]), ?_, ?_⟩
  · obtain ⟨xb, dxb, fb, rfl, hxb, lb⟩ := obj hB
    obtain ⟨xc, dxc, fc, rfl, hxc, lc'⟩ := obj hC
    refine ⟨_, rfl, x2, PT, dx2, _, _, rfl, hx2, U.pk.c, U.pk.nA _ (by simp [ptN]), rfl, _, rfl, x, PT, dx, _, _, rfl, hx, U.pk.c, U.pk.nA _ (by simp [ptN]), rfl, ?_⟩
    refine ⟨xb, dxb, _, rfl, hxb, lb, _, rfl, .ref xb, toT N (puS f), m, rfl, hB, m2, by rw [toT_len]; exact mN, fun G1 y s1 hy => ?_⟩
    rw [tk] at hy
    refine rd_eqS U.isS (hB2.same s1) hy.st ?_
    rw [decide_eq_true (show toT m (puS f) = toT m (puS f) from rfl)]
    refine ⟨_, rfl, x2, PT, dx2, _, _, rfl, s1 _ _ hx2, U.pk.c, U.pk.nA _ (by simp [ptN]), rfl, _, rfl, x, PT, dx, _, _, rfl, s1 _ _ hx, U.pk.c, U.pk.nA _ (by simp [ptN]), rfl, ?_⟩
    refine ⟨xc, dxc, _, rfl, s1 _ _ hxc, lc', _, rfl, .ref xc, toT N (slS f), m, rfl, hC.same s1, m2, by rw [toT_len]; exact mN, fun G2 y2 s2 hy2 => ?_⟩
    rw [tk] at hy2
    refine rd_eqS U.isS (hC2.same (s1.trans s2)) hy2.st ?_
    rw [decide_eq_true (show toT m (slS f) = toT m (slS f) from rfl)]
    refine ⟨(by show 2 ≤ sizeLine; decide), fun l nl => ?_⟩
    have s12 := s1.trans s2
    exact ⟨l, rfl, s12.free nl, s12.trans (new_same nl _), upd_same⟩
  rintro σ G ⟨l, rfl, zl, s, hl⟩
  refine ⟨fun σ G => σ = [some (.ref B), some (.ref va), some (.int (N : Nat)), some vt, some (.ref l), some (.ref x), some (.int (m : Nat)), some (.ref x2)] ∧ Same Gz G ∧ G l = some (.lst [.bl true, .bl true, .bl true]), ?_, ?_⟩
  · obtain ⟨xd, dxd, fd', rfl, hxd, ld⟩ := obj hD
    refine ⟨_, rfl, .inl ⟨rfl, _, SqL.of hl⟩, _, rfl, x2, PT, dx2, _, _, rfl, s _ _ hx2, U.pk.c, U.pk.nA _ (by simp [ptN]), rfl, _, rfl, x, PT, dx, _, _, rfl, s _ _ hx, U.pk.c, U.pk.nA _ (by simp [ptN]), rfl, ?_⟩
    refine ⟨xd, dxd, _, rfl, s _ _ hxd, ld, _, rfl, .ref xd, toT N (srS f), m, rfl, hD.same s, m2, by rw [toT_len]; exact mN, fun G1 y s1 hy => ?_⟩
    rw [tk] at hy
    refine rd_eqS U.isS (hD2.same (s.trans s1)) hy.st ?_
    rw [decide_eq_true (show toT m (srS f) = toT m (srS f) from rfl)]
    exact ⟨l, _, _, rfl, rfl, s1 _ _ hl, small1000 (by show 2 ≤ 1000; decide), rfl, sel zl (s.trans s1), upd_same⟩
  clear s hl
  rintro σ G ⟨rfl, s, hl⟩
  refine ⟨fun σ G => σ = [some (.ref B), some (.ref va), some (.int (N : Nat)), some vt, some (.ref l), some (.ref x), some (.int (m : Nat)), some (.ref x2)] ∧ Same Gz G ∧ G l = some (.lst [.bl true, .bl true, .bl true, .bl true]), ?_, ?_⟩
  · have app : ∀ {G2 : Hp}, Same G G2 → ∃ (a : Addr) (xs : List V) (y : V), V.ref l = .ref a ∧ [V.bl true] = [y] ∧ G2 a = some (.lst xs) ∧ xs.length + 1 < 2 ^ 63 ∧ True := fun {G2} s2 => ⟨l, _, _, rfl, rfl, s2 _ _ hl, by decide, trivial⟩
    obtain ⟨ys, y, hys, ey, ny⟩ := one (j.l.same s)
    refine ⟨_, rfl, .inl ⟨rfl, _, SqL.of hl⟩, _, rfl, va, ys, 1, y, rfl, rfl, SqL.of hys, at_of (j := 1) rfl ey, _, rfl, (by show 2 ≤ sizeLine; decide), fun t nt => ?_⟩
    have s1 := new_same nt (HO.tup [.int (-1), .int 1])
    have t1 : Nq K (upd G t (HO.tup [.int (-1), .int 1])) (.ref t) (-1) := .at (K := K) upd_same
    generalize upd G t (HO.tup [.int (-1), .int 1]) = G1 at s1 t1
    refine ⟨tupQ (f 1), tupQ (-1), (ny.same s1).dp, t1.dp, rfl, rfl, ?_⟩
    rw [eqv_num]
    by_cases b : f 1 = -1
    · rw [decide_eq_true b]
      exact ⟨_, rfl, iteT ⟨l, _, _, rfl, rfl, s1 _ _ hl, small1000 (by show 3 ≤ 1000; decide), rfl, sel zl (s.trans s1), upd_same⟩⟩
    rw [decide_eq_false b]
    refine ⟨_, rfl, iteF ⟨_, rfl, va, ys, 1, y, rfl, rfl, SqL.of (s1 _ _ hys), at_of (j := 1) rfl ey, (by show 2 ≤ sizeLine; decide), fun t2 nt2 => ?_⟩⟩
    have s2 := new_same nt2 (HO.tup [.int 1, .int 1])
    have t2' : Nq K (upd G1 t2 (HO.tup [.int 1, .int 1])) (.ref t2) 1 := .at (K := K) upd_same
    generalize upd G1 t2 (HO.tup [.int 1, .int 1]) = G2 at s2 t2'
    have s12 := s1.trans s2
    refine ⟨tupQ (f 1), tupQ 1, (ny.same s12).dp, t2'.dp, rfl, rfl, ?_⟩
    rw [eqv_num]
    by_cases a : f 1 = 1
    · rw [decide_eq_true a]
      exact ⟨_, rfl, iteT ⟨l, _, _, rfl, rfl, s12 _ _ hl, small1000 (by show 3 ≤ 1000; decide), rfl, sel zl (s.trans s12), upd_same⟩⟩
    rw [decide_eq_false a]
    have sB := s.trans s12
    refine ⟨_, rfl, iteF ⟨_, rfl, x, PT, dx, _, _, rfl, sB _ _ hx, U.pk.c, U.pk.nA _ (by simp [ptN]), rfl, _, rfl, ?_⟩⟩
    have e2 : puS f = f := by unfold puS; rw [if_neg a, if_neg b]
    refine rd_eqS U.isS (hB.same sB) (j.x.same sB) ?_
    rw [decide_eq_true (show toT N (puS f) = toT N f by rw [e2])]
    exact ⟨l, _, _, rfl, rfl, s12 _ _ hl, small1000 (by show 3 ≤ 1000; decide), rfl, sel zl sB, upd_same⟩
  clear s hl
  rintro σ G ⟨rfl, s, hl⟩
  refine ⟨_, rfl, (by show 1 ≤ sizeLine; decide), fun l8 nl8 => ?_⟩
  have s8 := new_same nl8 (HO.lst [V.bl true])
  refine ⟨l8, 4, [.bl true], rfl, rfl, upd_same, by decide, by decide, (by show 1 * _ ≤ sizeLine; decide), fun l9 nl9 => ?_⟩
  have s9 := new_same nl9 (HO.lst [V.bl true, V.bl true, V.bl true, V.bl true])
  have sA := s8.trans s9
  refine ⟨_, _, rfl, Lk.lst (n := 2) (sA _ _ hl) (show _ = some (.lst [V.bl true, V.bl true, V.bl true, V.bl true]) from upd_same) (by show 4 ≤ 60; decide) (.cons (Lk.flat rfl) (.cons (Lk.flat rfl) (.cons (Lk.flat rfl) (.cons (Lk.flat rfl) .nil)))), fun G9 s10 => ⟨_, rfl, iteT ?_⟩⟩
  have sB := s.trans (sA.trans s10)
  have j9 := j.same sB
  refine ⟨_, rfl, _, rfl, .ref x, vt, .ref va, f, N, M, rfl, hP.same sB, j9.l, n7, z1, pa, sz, fun G10 s11 => ⟨_, rfl, iteT ?_⟩⟩
  have j10 := j9.same s11
  refine ⟨_, rfl, _, rfl, vt, .ref va, toT N f, rfl, j10.x, by rw [toT0 f0]; exact j10.l, fun G11 s12 => ?_⟩
  exact fin _ ((j10.b.same s12).less (by omega)) (j10.t.ext s12)
abbrev nLaw : List Str := ["_law_script", "_law_bag_here", "_law_turn"]
theorem scLaw : FnScope nLaw ["_law_script"] (defScope L_law) := ⟨rfl, rfl, rfl, by decide +kernel, rfl, by decide +kernel, by decide +kernel⟩
theorem ok_law (F : Fun K "law" "law" L_law f fd) (mr : mg "range" = none) (UB : Use P w K mg base CX0 1 "_law_bag" ["_law_script"] (spBag K) []) (UO : Use P w K mg base CX0 13 "_law_once" ["_law_bag_here"] (spOnc T) []) : FnOk P w K mg base CX0 14 f fd ["_law_script"] (spLaw K T) := by
  refine F.ok scLaw (fun vs H Q E h => ?_) (fun cdv A outer s H vs Q E hr h => ?_)
  · obtain ⟨a, ns, rfl, _⟩ := h
    rfl
  obtain ⟨a0, ns, rfl, ha0, hT, q⟩ := h
  have hr1 := hr.mono (show 1 ≤ 13 by decide)
  refine ⟨_, pss_cons (ps_set (i := 1) scLaw.nd rfl (Or.inl rfl) (pe_use UB hr1 rfl pass0 (pa_cons (pv 0) pa_nil)))
    (pss_cons (ps_for PassesOwn.never rfl (pi_range1 rfl mr (pa_cons pe_int pa_nil)) (pg_name (i := 2) scLaw.nd rfl (Or.inl rfl))
      (pss_one (ps_if (pt_not (pt_val (pe_use UO hr rfl pass0 (pa_cons (pv 1) pa_nil)))) (pss_one (ps_ret pe_bl)) pss_nil)))
    (pss_one (ps_ret pe_bl))), ?_⟩
  refine ⟨_, rfl, a0, ns, rfl, ha0, fun H1 B p s1 nb hb => ?_⟩
  refine ⟨_, rfl, by decide, by decide, for_range (lo := 0) (n := 2) (fun i σ H' => ∃ v2, σ = [some (.ref a0), some (.ref B), v2] ∧ Bag (1000000 - 230 * i) H' B p ∧ LamX.Tabs T H') ⟨none, rfl, hb, hT.ext s1⟩ ?_ ?_⟩
  · rintro i σ H3 hi ⟨v2, rfl, b3, t3⟩
    exact ⟨_, rfl, 1000000 - 230 * (i + 1), B, p, rfl, b3.less (by omega), t3, fun H4 b4 t4 => ⟨_, rfl, iteF ⟨_, rfl, b4, t4⟩⟩⟩
  · rintro σ H3 ⟨v2, rfl, b3, t3⟩
    exact q _
end
end Kx
end
section
set_option maxHeartbeats 4000000
namespace Kx
open PySem PySem.Spec PyProof.Rows L2
theorem kpB_ok {K : PySem.W.Frag} {a : Addr} {x y : Int} (h : kpB K a x y = true) : KP K a x y := by
  unfold kpB at h
  split at h
  · rename_i c d its n sl q
    obtain ⟨h1, h⟩ := He.ba h
    obtain ⟨h2, h3⟩ := He.ba h
    exact ⟨_, its, n, q, congrArg Value.type (of_decide_eq_true h1), rfl, of_decide_eq_true h2, He.relAll_ok h3⟩
  · cases h
theorem owT_ok {K : PySem.W.Frag} {C iA : Addr} {ns : List Str} (h : owT K C iA ns = true) :
    Cls K C ∧ (∀ n ∈ ns, NoAttr K C n) ∧ Mk K C iA ∧ ∀ (H : Hp) a dx fs, H a = some (.ins C dx fs) → TyX K H (.ref a) (.ref C) := by
  unfold owT at h
  obtain ⟨a1, h⟩ := He.ba h
  obtain ⟨a2, h⟩ := He.ba h
  obtain ⟨a3, h⟩ := He.ba h
  obtain ⟨a4, h⟩ := He.ba h
  obtain ⟨a5, h⟩ := He.ba h
  obtain ⟨a6, h⟩ := He.ba h
  obtain ⟨a7, h⟩ := He.ba h
  obtain ⟨a8, h⟩ := He.ba h
  obtain ⟨a9, h⟩ := He.ba h
  obtain ⟨b6, h⟩ := He.ba h
  obtain ⟨b7, h⟩ := He.ba h
  obtain ⟨b8, b9⟩ := He.ba h
  have cls : Cls K C := ⟨a1, a2, a3, He.eqO_ok a4⟩
  exact ⟨cls, fun n hn => He.eqO_ok (List.all_eq_true.mp a5 n hn), ⟨a6, He.eqO_ok a7, a8, a9⟩,
    fun H a dx fs e => .base (.ins e cls (He.eqO_ok b6) (He.eqO_ok b7) (of_decide_eq_true b8) (of_decide_eq_true b9))⟩
theorem rdB_ok {K : PySem.W.Frag} {C : Addr} (h : rdB K C = true) : ClX.CRead K C (.type "type") := by
  unfold rdB at h
  obtain ⟨b4, b5⟩ := He.ba h
  exact ⟨b4, He.eqO_ok b5⟩
theorem stB_ok {K : PySem.W.Frag} {C sA gA : Addr} {m : Str} (h : stB K C sA gA m = true) (hk : PySem.W.keepIn K (.ref gA) = true) : CSta K C (.type "type") m sA gA := by
  unfold stB at h
  obtain ⟨b1, h⟩ := He.ba h
  obtain ⟨b2, b3⟩ := He.ba h
  obtain ⟨w1, w2⟩ := He5.wrapB_ok b1
  rw [of_decide_eq_true b2] at w1 w2
  rw [of_decide_eq_true b3] at w2
  exact ⟨w1, w2, hk⟩
theorem cfnB_ok {K : PySem.W.Frag} {C gA : Addr} {m : Str} (h : cfnB K C gA m = true) (hk : PySem.W.keepIn K (.ref gA) = true) : CFn K C (.type "type") m gA := by
  unfold cfnB at h
  split at h
  · rename_i v e
    exact ⟨by rw [e, of_decide_eq_true h], hk⟩
  · cases h
theorem exB_ok {K : PySem.W.Frag} {C iA : Addr} {mb : List Value} {nw : String} {ns : List Str} (h : exB K C iA mb nw ns = true) (hb : ∃ B iid, ExcBaseFacts B nw iid mb ∧ StoreFacts B mb "object.__setattr__" "object") :
    XC K C ∧ PySem.W.typeIn K (.ref C) = some (.type "type") ∧ PySem.W.findIn K (.ref C) "__init__" = some (some (.ref iA)) ∧ PySem.W.isFn K (.ref iA) = true ∧ ∀ n ∈ ns, PySem.W.findIn K (.ref C) n = some none := by
  unfold exB at h
  obtain ⟨B, iid, FB, SF⟩ := hb
  obtain ⟨a1, h⟩ := He.ba h
  obtain ⟨a2, h⟩ := He.ba h
  obtain ⟨a3, h⟩ := He.ba h
  obtain ⟨a4, h⟩ := He.ba h
  obtain ⟨a5, h⟩ := He.ba h
  obtain ⟨a6, h⟩ := He.ba h
  obtain ⟨a7, h⟩ := He.ba h
  obtain ⟨a8, h⟩ := He.ba h
  obtain ⟨a9, h⟩ := He.ba h
  obtain ⟨b1, h⟩ := He.ba h
  obtain ⟨b2, h⟩ := He.ba h
  obtain ⟨b3, h⟩ := He.ba h
  obtain ⟨b4, h⟩ := He.ba h
  obtain ⟨b5, h⟩ := He.ba h
  obtain ⟨b6, h⟩ := He.ba h
  obtain ⟨b7, b8⟩ := He.ba h
  exact ⟨⟨⟨B, nw, iid, mb, FB, SF, a1, a2⟩, a3, a4, He.eqO_ok a5, He.eqO_ok a6, He.eqO_ok a7, of_decide_eq_true a8, He.eqO_ok a9, He.eqO_ok b1, of_decide_eq_true b2, of_decide_eq_true b3, b4⟩, of_decide_eq_true b5, He.eqO_ok b6, b7, fun n hn => He.eqO_ok (List.all_eq_true.mp b8 n hn)⟩
section
variable {K : PySem.W.Frag}
theorem SaysR.fact (c : SaysR K) (i : Nat) {f : PySem.W.Frag → Bool} (h : faT[i]? = some f := by rfl) : f K = true :=
  List.all_eq_true.mp (He.ba (show ((faT.all fun f => f K) && fnT.all fun d => d.ok K) = true from congrArg (fun z : ObV => z.1) c)).1 f (List.mem_of_getElem? h)
theorem SaysR.def_ (c : SaysR K) (i : Nat) {d : He5.DefA} (h : fnT[i]? = some d) : ∃ fd, L2.FunD K d.name d.qual d.params d.body d.scope (d.dvs K) (d.kws K) (d.at_ K) fd := by
  have c2 := (He.ba (show ((faT.all fun f => f K) && fnT.all fun d => d.ok K) = true from congrArg (fun z : ObV => z.1) c)).2
  have e : fnT.map (fun d => He5.fnA K (d.at_ K)) = fnT.map He5.DefA.val := congrArg (fun z : ObV => z.2) c
  have e2 : (fnT.map fun d => He5.fnA K (d.at_ K))[i]? = (fnT.map He5.DefA.val)[i]? := by rw [e]
  rw [List.getElem?_map, List.getElem?_map, h] at e2
  exact He5.DefA.funD (Option.some.inj e2) (List.all_eq_true.mp c2 d (List.mem_of_getElem? h))
theorem fun_ld (c : SaysR K) (i : Nat) {d : LD} (h : ldT[i]? = some d) : ∃ fd, Fun K d.nm d.nm (top d.ix) d.f fd := by
  obtain ⟨fd, F⟩ := c.def_ (i + 17) (d := ldD d) (by
    show (clT ++ ldT.map ldD)[i + 17]? = _
    rw [List.getElem?_append_right (by show 17 ≤ i + 17; omega)]
    show (ldT.map ldD)[i + 17 - 17]? = _
    rw [Nat.add_sub_cancel, List.getElem?_map, h]
    rfl)
  exact ⟨fd, He5.fun_of F⟩
theorem fun_cl (c : SaysR K) (i : Nat) {q nm : Str} {f : Addr} {st : Stmt} (h : fnT[i]? = some (mtD q nm f st) := by rfl) : ∃ fd, Fun K nm q st f fd := by
  obtain ⟨fd, F⟩ := c.def_ i h
  exact ⟨fd, He5.fun_of F⟩
theorem fun_c {x q : Str} {st : Stmt} {f c : Addr} {fd : FuncData} (F : Fun K x q st f fd) (h : codeB K f c = true) : FunC K x q st f fd c := by
  obtain ⟨oc, od, kV, doc, pm, an, cdv, ct, osl, rfl, lk, hcd⟩ := F.ex
  have e : cdv = .ref c := by
    unfold codeB at h
    rw [lk] at h
    cases cdv <;> first | exact congrArg Value.ref (of_decide_eq_true h) | exact (Bool.false_ne_true h).elim
  subst e
  exact ⟨⟨oc, od, kV, doc, pm, an, ct, osl, rfl, lk, hcd⟩, F.kp⟩
section
variable {h : Heap} {mg : Str → Option Value}
theorem mg_ld (X : K.In h) (G : h.Ns mainGlobals mg) (c : SaysR K) {d : LD} (hd : d ∈ ldT) : mg d.nm = some (.ref d.f) := PySem.W.mg_of X G (He.eqO_ok (List.all_eq_true.mp (c.fact 0) d hd))
theorem mg_free (X : K.In h) (G : h.Ns mainGlobals mg) (c : SaysR K) {x : Str} (hx : x ∈ freeN) : mg x = none := PySem.W.mg_none_of X G (He.eqO_ok (List.all_eq_true.mp (c.fact 1) x hx))
theorem mg_at (X : K.In h) (G : h.Ns mainGlobals mg) {x : Str} {v : Value} (e : He.eqO (PySem.W.nsIn K mainGlobals x) (some (some v)) = true) : mg x = some v := PySem.W.mg_of X G (He.eqO_ok e)
theorem at_ld (X : K.In h) (G : h.Ns mainGlobals mg) (c : SaysR K) {d : LD} (i : Nat) (e : ldT[i]? = some d) : (∃ fd, Fun K d.nm d.nm (top d.ix) d.f fd) ∧ mg d.nm = some (.ref d.f) := ⟨fun_ld c i e, mg_ld X G c (List.mem_of_getElem? e)⟩
end
end
end Kx
end
section
set_option maxHeartbeats 4000000
namespace Kx
open PySem PySem.Spec PyProof.Rows L2
section
variable {P : Program} {w : World} {K : PySem.W.Frag} {mg : Str → Option Value} {h base : Heap} {CX : CXT} {k : Nat} {x : Str} {f : Addr} {fd : FuncData} {ps ks : List Str} {sp : Sp}
theorem use0 (G : FnOk P w K mg base CX k f fd ps sp) (b : Binds K fd ps []) (kp : PySem.W.keepIn K (.ref f) = true) (m : mg x = some (.ref f)) : Use P w K mg base CX k x ps sp [] := ⟨⟨f, fd, G, b, kp, m, (fun _ h => (nomatch h)), (fun _ h => (nomatch h))⟩⟩
theorem useR (G : FnOk P w K mg base CX k f fd ps sp) (b : Binds K fd ps []) (kp : PySem.W.keepIn K (.ref f) = true) (m : mg x = some (.ref f)) (kb : KBn K fd ps 0 ks revB revA) (hl : ¬ (ks.length = 1 ∧ ps.length = 2)) : Use P w K mg base CX k x ps sp [ks] :=
  ⟨⟨f, fd, G, b, kp, m, fun ks' h _ => by rw [List.mem_singleton.mp h]; exact kb, fun ks' h l1 l2 => absurd ⟨by rw [← List.mem_singleton.mp h]; exact l1, l2⟩ hl⟩⟩
theorem useN (G : FnOk P w K mg base CX k f fd ps sp) (b : Binds K fd ps []) (kp : PySem.W.keepIn K (.ref f) = true) (m : mg x = some (.ref f)) (kb : KBn K fd ps 1 ks appB appA) (hl : ks.length ≠ ps.length) : Use P w K mg base CX k x ps sp [ks] :=
  ⟨⟨f, fd, G, b, kp, m, fun ks' h l => absurd (by rw [← List.mem_singleton.mp h]; exact l) hl, fun ks' h _ _ => by rw [List.mem_singleton.mp h]; exact kb⟩⟩
end
def csT : List (Addr × Addr) := [(951, 947)]
theorem c1 : ((951 : Addr), (947 : Addr)) ∈ csT := List.mem_cons_self
abbrev lmN (x : Str) : Str := (x ++ ".<locals>.") ++ "<lambda>"
def tbT : List (Addr × Str) := [(947, lmN "_law_once")]
theorem t1 : ((947 : Addr), lmN "_law_once") ∈ tbT := List.mem_cons_self
theorem memN {α : Type} {p a0 : α} (h : p ∈ [a0]) : p = a0 := by simpa using h
theorem tu1 : ∀ p ∈ tbT, p.1 = 947 → p.2 = lmN "_law_once" := fun p hp e => by
  rcases memN hp with h <;> rw [h] at e ⊢
section
variable {P : Program} {w : World} {K : PySem.W.Frag} {mg : Str → Option Value} {h : Heap}
theorem facts {f : Addr} (X : K.In h) (G : h.Ns mainGlobals mg) (hfa : mg ("law" : Str) = some (.ref f)) (c : SaysR K) :
    ∃ fd : FuncData, (∀ (s : Shared) (v : Value), BindsTo s fd ⟨[v], []⟩ [("_law_script", v)]) ∧ ∀ base : Heap, K.In base → base.Ns mainGlobals mg → (∀ p ∈ csT, LamX.TabB base mg p.1 p.2) → FnOk P w K mg base CX0 14 f fd ["_law_script"] (spLaw K tbT) := by
  have mf : ∀ x ∈ freeN, mg x = none := fun x hx => mg_free X G c hx
  have mn := mf "len" (by decide)
  have mI := mf "isinstance" (by decide)
  have ml := mf "list" (by decide)
  have mt := mf "tuple" (by decide)
  have mi := mf "int" (by decide)
  have mr := mf "range" (by decide)
  have ma := mf "all" (by decide)
  have mz := mf "zip" (by decide)
  have mb := mf "bool" (by decide)
  have ms := mf "str" (by decide)
  have mabs := mf "abs" (by decide)
  have men := mf "enumerate" (by decide)
  have msum := mf "sum" (by decide)
  have mmin := mf "min" (by decide)
  have mG : mg "gcd" = some (.builtin "math.gcd") := mg_at X G (c.fact 2)
  have mLc : mg "lcm" = some (.builtin "math.lcm") := mg_at X G (c.fact 3)
  have mS : mg "Step" = some (.ref stA) := mg_at X G (c.fact 4)
  have mPA : mg "Paper" = some (.ref paA) := mg_at X G (c.fact 5)
  have mPT : mg "Parting" = some (.ref ptA) := mg_at X G (c.fact 6)
  have mZ : mg "ZERO" = some (.ref zeA) := mg_at X G (c.fact 7)
  have mO : mg "ONE" = some (.ref onA) := mg_at X G (c.fact 8)
  have mM : mg "MINUS_ONE" = some (.ref moA) := mg_at X G (c.fact 9)
  have mC : mg "CreepError" = some (.ref ceA) := mg_at X G (c.fact 10)
  have mLO : ∃ u, mg "LOWEST_ORDER" = some u ∧ RelV (.int 2) u := let ⟨t, e⟩ := He.int_ok X G (c.fact 11); ⟨_, e, t, rfl⟩
  have mHO : ∃ u, mg "HIGHEST_ORDER" = some u ∧ RelV (.int 24) u := let ⟨t, e⟩ := He.int_ok X G (c.fact 12); ⟨_, e, t, rfl⟩
  have mMP : ∃ u, mg "MOST_POWER" = some u ∧ RelV (.int 64) u := let ⟨t, e⟩ := He.int_ok X G (c.fact 13); ⟨_, e, t, rfl⟩
  have k0 : KP K zeA 0 1 := kpB_ok (c.fact 14)
  have k1 : KP K onA 1 1 := kpB_ok (c.fact 15)
  have km : KP K moA (-1) 1 := kpB_ok (c.fact 16)
  obtain ⟨dm0, Fm0⟩ := fun_cl c 0
  obtain ⟨dm1, Fm1⟩ := fun_cl c 1
  obtain ⟨dm2, Fm2⟩ := fun_cl c 2
  obtain ⟨dm3, Fm3⟩ := fun_cl c 3
  obtain ⟨dm4, Fm4⟩ := fun_cl c 4
  obtain ⟨dm5, Fm5⟩ := fun_cl c 5
  obtain ⟨dm6, Fm6⟩ := fun_cl c 6
  obtain ⟨dm7, Fm7⟩ := fun_cl c 7
  obtain ⟨dm8, Fm8⟩ := fun_cl c 8
  obtain ⟨dm9, Fm9⟩ := fun_cl c 9
  obtain ⟨dm10, Fm10⟩ := fun_cl c 10
  obtain ⟨dm11, Fm11⟩ := fun_cl c 11
  obtain ⟨dm12, Fm12⟩ := fun_cl c 12
  obtain ⟨dm13, Fm13⟩ := fun_cl c 13
  obtain ⟨dm14, Fm14⟩ := fun_cl c 14
  obtain ⟨dm15, Fm15⟩ := fun_cl c 15
  obtain ⟨dm16, Fm16⟩ := fun_cl c 16
  obtain ⟨clS, nAS, MkS, tyS'⟩ := owT_ok (c.fact 17)
  obtain ⟨clP, nAP, MkP, tyP'⟩ := owT_ok (c.fact 18)
  obtain ⟨x0, ty0, i0, fi0, n0⟩ := exB_ok (c.fact 28) ⟨_, _, F.excBase_ValueError, F.store_ValueError⟩
  obtain ⟨x1, ty1, i1, fi1, n1⟩ := exB_ok (c.fact 29) ⟨_, _, F.excBase_ValueError, F.store_ValueError⟩
  obtain ⟨x2, ty2, i2, fi2, n2⟩ := exB_ok (c.fact 30) ⟨_, _, F.excBase_ValueError, F.store_ValueError⟩
  obtain ⟨x3, ty3, i3, fi3, n3⟩ := exB_ok (c.fact 31) ⟨_, _, F.excBase_ValueError, F.store_ValueError⟩
  obtain ⟨x4, ty4, i4, fi4, n4⟩ := exB_ok (c.fact 32) ⟨_, _, F.excBase_ValueError, F.store_ValueError⟩
  obtain ⟨⟨d_is_whole, F_is_whole⟩, g_is_whole⟩ := at_ld X G c 0 rfl
  obtain ⟨⟨d_is_between, F_is_between⟩, g_is_between⟩ := at_ld X G c 1 rfl
  obtain ⟨⟨d_is_fraction, F_is_fraction⟩, g_is_fraction⟩ := at_ld X G c 2 rfl
  obtain ⟨⟨d_ratio, F_ratio⟩, g_ratio⟩ := at_ld X G c 3 rfl
  obtain ⟨⟨d_difference_of, F_difference_of⟩, g_difference_of⟩ := at_ld X G c 4 rfl
  obtain ⟨⟨d_product_of, F_product_of⟩, g_product_of⟩ := at_ld X G c 5 rfl
  obtain ⟨⟨d_quotient_of, F_quotient_of⟩, g_quotient_of⟩ := at_ld X G c 6 rfl
  obtain ⟨⟨d_is_listing, F_is_listing⟩, g_is_listing⟩ := at_ld X G c 7 rfl
  obtain ⟨⟨d_check_order, F_check_order⟩, g_check_order⟩ := at_ld X G c 8 rfl
  obtain ⟨⟨d_check_orders, F_check_orders⟩, g_check_orders⟩ := at_ld X G c 9 rfl
  obtain ⟨⟨d_check_cut, F_check_cut⟩, g_check_cut⟩ := at_ld X G c 10 rfl
  obtain ⟨⟨d_check_number, F_check_number⟩, g_check_number⟩ := at_ld X G c 11 rfl
  obtain ⟨⟨d_wrong_item, F_wrong_item⟩, g_wrong_item⟩ := at_ld X G c 12 rfl
  obtain ⟨⟨d_check_fractions, F_check_fractions⟩, g_check_fractions⟩ := at_ld X G c 13 rfl
  obtain ⟨⟨d_checked_numbers, F_checked_numbers⟩, g_checked_numbers⟩ := at_ld X G c 14 rfl
  obtain ⟨⟨d_check_slow, F_check_slow⟩, g_check_slow⟩ := at_ld X G c 15 rfl
  obtain ⟨⟨d_check_turnable, F_check_turnable⟩, g_check_turnable⟩ := at_ld X G c 16 rfl
  obtain ⟨⟨d_is_zero, F_is_zero⟩, g_is_zero⟩ := at_ld X G c 17 rfl
  obtain ⟨⟨d_least_place, F_least_place⟩, g_least_place⟩ := at_ld X G c 18 rfl
  obtain ⟨⟨d_differences_of, F_differences_of⟩, g_differences_of⟩ := at_ld X G c 19 rfl
  obtain ⟨⟨d_multiples_of, F_multiples_of⟩, g_multiples_of⟩ := at_ld X G c 20 rfl
  obtain ⟨⟨d_dot, F_dot⟩, g_dot⟩ := at_ld X G c 21 rfl
  obtain ⟨⟨d_mixed, F_mixed⟩, g_mixed⟩ := at_ld X G c 22 rfl
  obtain ⟨⟨d_over_one_lower, F_over_one_lower⟩, g_over_one_lower⟩ := at_ld X G c 23 rfl
  obtain ⟨⟨d_multiplied, F_multiplied⟩, g_multiplied⟩ := at_ld X G c 24 rfl
  obtain ⟨⟨d_still_numbers, F_still_numbers⟩, g_still_numbers⟩ := at_ld X G c 25 rfl
  obtain ⟨⟨d_table_lines, F_table_lines⟩, g_table_lines⟩ := at_ld X G c 26 rfl
  obtain ⟨⟨d_put_behind, F_put_behind⟩, g_put_behind⟩ := at_ld X G c 27 rfl
  obtain ⟨⟨d_solved, F_solved⟩, g_solved⟩ := at_ld X G c 28 rfl
  obtain ⟨⟨d_turned_back, F_turned_back⟩, g_turned_back⟩ := at_ld X G c 29 rfl
  obtain ⟨⟨d_differences, F_differences⟩, g_differences⟩ := at_ld X G c 30 rfl
  obtain ⟨⟨d_binomials, F_binomials⟩, g_binomials⟩ := at_ld X G c 31 rfl
  obtain ⟨⟨d_binomial_power, F_binomial_power⟩, g_binomial_power⟩ := at_ld X G c 32 rfl
  obtain ⟨⟨d_kind_of, F_kind_of⟩, g_kind_of⟩ := at_ld X G c 33 rfl
  obtain ⟨⟨d_first_difference, F_first_difference⟩, g_first_difference⟩ := at_ld X G c 34 rfl
  obtain ⟨⟨d_unequal_sides, F_unequal_sides⟩, g_unequal_sides⟩ := at_ld X G c 35 rfl
  obtain ⟨⟨d_slow_part, F_slow_part⟩, g_slow_part⟩ := at_ld X G c 36 rfl
  obtain ⟨⟨d_flip_straightener, F_flip_straightener⟩, g_flip_straightener⟩ := at_ld X G c 37 rfl
  obtain ⟨⟨d_stretch_straightener, F_stretch_straightener⟩, g_stretch_straightener⟩ := at_ld X G c 38 rfl
  obtain ⟨⟨d_parted, F_parted⟩, g_parted⟩ := at_ld X G c 39 rfl
  obtain ⟨⟨d_is_pure, F_is_pure⟩, g_is_pure⟩ := at_ld X G c 40 rfl
  obtain ⟨⟨d__law_bag, F__law_bag⟩, g__law_bag⟩ := at_ld X G c 41 rfl
  obtain ⟨⟨d__law_draw, F__law_draw⟩, g__law_draw⟩ := at_ld X G c 42 rfl
  obtain ⟨⟨d__law_of, F__law_of⟩, g__law_of⟩ := at_ld X G c 43 rfl
  obtain ⟨⟨d__law_same, F__law_same⟩, g__law_same⟩ := at_ld X G c 44 rfl
  obtain ⟨⟨d__law_low, F__law_low⟩, g__law_low⟩ := at_ld X G c 45 rfl
  obtain ⟨⟨d__law_sub, F__law_sub⟩, g__law_sub⟩ := at_ld X G c 46 rfl
  obtain ⟨⟨d__law_mul, F__law_mul⟩, g__law_mul⟩ := at_ld X G c 47 rfl
  obtain ⟨⟨d__law_less, F__law_less⟩, g__law_less⟩ := at_ld X G c 48 rfl
  obtain ⟨⟨d__law_scaled, F__law_scaled⟩, g__law_scaled⟩ := at_ld X G c 49 rfl
  obtain ⟨⟨d__law_x, F__law_x⟩, g__law_x⟩ := at_ld X G c 50 rfl
  obtain ⟨⟨d__law_whole, F__law_whole⟩, g__law_whole⟩ := at_ld X G c 51 rfl
  obtain ⟨⟨d__law_conv, F__law_conv⟩, g__law_conv⟩ := at_ld X G c 52 rfl
  obtain ⟨⟨d__law_put, F__law_put⟩, g__law_put⟩ := at_ld X G c 53 rfl
  obtain ⟨⟨d__law_num, F__law_num⟩, g__law_num⟩ := at_ld X G c 54 rfl
  obtain ⟨⟨d__law_wide, F__law_wide⟩, g__law_wide⟩ := at_ld X G c 55 rfl
  obtain ⟨⟨d__law_order, F__law_order⟩, g__law_order⟩ := at_ld X G c 56 rfl
  obtain ⟨⟨d__law_step, F__law_step⟩, g__law_step⟩ := at_ld X G c 57 rfl
  obtain ⟨⟨d__law_is_fraction, F__law_is_fraction⟩, g__law_is_fraction⟩ := at_ld X G c 58 rfl
  obtain ⟨⟨d__law_is_step, F__law_is_step⟩, g__law_is_step⟩ := at_ld X G c 59 rfl
  obtain ⟨⟨d__law_scaling, F__law_scaling⟩, g__law_scaling⟩ := at_ld X G c 60 rfl
  obtain ⟨⟨d__law_try, F__law_try⟩, g__law_try⟩ := at_ld X G c 61 rfl
  obtain ⟨⟨d__law_parts_fit, F__law_parts_fit⟩, g__law_parts_fit⟩ := at_ld X G c 62 rfl
  obtain ⟨⟨d__law_row_of, F__law_row_of⟩, g__law_row_of⟩ := at_ld X G c 63 rfl
  obtain ⟨⟨d__law_right, F__law_right⟩, g__law_right⟩ := at_ld X G c 64 rfl
  obtain ⟨⟨d__law_pure, F__law_pure⟩, g__law_pure⟩ := at_ld X G c 65 rfl
  obtain ⟨⟨d__law_drawn, F__law_drawn⟩, g__law_drawn⟩ := at_ld X G c 66 rfl
  obtain ⟨⟨d__law_once, F__law_once⟩, g__law_once⟩ := at_ld X G c 67 rfl
  obtain ⟨⟨d_law, F_law⟩, g_law⟩ := at_ld X G c 68 rfl
  have b_is_whole : Binds K d_is_whole ["value"] [] := F_is_whole.binds fun _ _ _ _ _ _ us hl => match us, hl with | [_], _ => rfl
  have b_is_between : Binds K d_is_between ["value", "low", "high"] [] := F_is_between.binds fun _ _ _ _ _ _ us hl => match us, hl with | [_, _, _], _ => rfl
  have b_is_fraction : Binds K d_is_fraction ["value"] [] := F_is_fraction.binds fun _ _ _ _ _ _ us hl => match us, hl with | [_], _ => rfl
  have b_ratio : Binds K d_ratio ["upper", "lower"] [] := F_ratio.binds fun _ _ _ _ _ _ us hl => match us, hl with | [_, _], _ => rfl
  have b_difference_of : Binds K d_difference_of ["one", "other"] [] := F_difference_of.binds fun _ _ _ _ _ _ us hl => match us, hl with | [_, _], _ => rfl
  have b_product_of : Binds K d_product_of ["one", "other"] [] := F_product_of.binds fun _ _ _ _ _ _ us hl => match us, hl with | [_, _], _ => rfl
  have b_quotient_of : Binds K d_quotient_of ["one", "other"] [] := F_quotient_of.binds fun _ _ _ _ _ _ us hl => match us, hl with | [_, _], _ => rfl
  have b_is_listing : Binds K d_is_listing ["value"] [] := F_is_listing.binds fun _ _ _ _ _ _ us hl => match us, hl with | [_], _ => rfl
  have b_check_order : Binds K d_check_order ["order"] [] := F_check_order.binds fun _ _ _ _ _ _ us hl => match us, hl with | [_], _ => rfl
  have b_check_orders : Binds K d_check_orders ["one", "other"] [] := F_check_orders.binds fun _ _ _ _ _ _ us hl => match us, hl with | [_, _], _ => rfl
  have b_check_cut : Binds K d_check_cut ["have", "wanted"] [] := F_check_cut.binds fun _ _ _ _ _ _ us hl => match us, hl with | [_, _], _ => rfl
  have b_check_number : Binds K d_check_number ["value"] [] := F_check_number.binds fun _ _ _ _ _ _ us hl => match us, hl with | [_], _ => rfl
  have b_wrong_item : Binds K d_wrong_item ["numbers"] [] := F_wrong_item.binds fun _ _ _ _ _ _ us hl => match us, hl with | [_], _ => rfl
  have b_check_fractions : Binds K d_check_fractions ["numbers"] [] := F_check_fractions.binds fun _ _ _ _ _ _ us hl => match us, hl with | [_], _ => rfl
  have b_checked_numbers : Binds K d_checked_numbers ["numbers", "further"] [] := F_checked_numbers.binds fun _ _ _ _ _ _ us hl => match us, hl with | [_, _], _ => rfl
  have b_check_slow : Binds K d_check_slow ["step"] [] := F_check_slow.binds fun _ _ _ _ _ _ us hl => match us, hl with | [_], _ => rfl
  have b_check_turnable : Binds K d_check_turnable ["step"] [] := F_check_turnable.binds fun _ _ _ _ _ _ us hl => match us, hl with | [_], _ => rfl
  have b_is_zero : Binds K d_is_zero ["numbers"] [] := F_is_zero.binds fun _ _ _ _ _ _ us hl => match us, hl with | [_], _ => rfl
  have b_least_place : Binds K d_least_place ["numbers", "first"] [] := F_least_place.binds fun _ _ _ _ _ _ us hl => match us, hl with | [_, _], _ => rfl
  have b_differences_of : Binds K d_differences_of ["one", "other"] [] := F_differences_of.binds fun _ _ _ _ _ _ us hl => match us, hl with | [_, _], _ => rfl
  have b_multiples_of : Binds K d_multiples_of ["numbers", "t"] [] := F_multiples_of.binds fun _ _ _ _ _ _ us hl => match us, hl with | [_, _], _ => rfl
  have b_dot : Binds K d_dot ["ones", "others"] [] := F_dot.binds fun _ _ _ _ _ _ us hl => match us, hl with | [_, _], _ => rfl
  have b_mixed : Binds K d_mixed ["factors", "lists"] [] := F_mixed.binds fun _ _ _ _ _ _ us hl => match us, hl with | [_, _], _ => rfl
  have b_over_one_lower : Binds K d_over_one_lower ["numbers"] [] := F_over_one_lower.binds fun _ _ _ _ _ _ us hl => match us, hl with | [_], _ => rfl
  have b_multiplied : Binds K d_multiplied ["one", "other"] [] := F_multiplied.binds fun _ _ _ _ _ _ us hl => match us, hl with | [_, _], _ => rfl
  have b_still_numbers : Binds K d_still_numbers ["order"] [] := F_still_numbers.binds fun _ _ _ _ _ _ us hl => match us, hl with | [_], _ => rfl
  have b_table_lines : Binds K d_table_lines ["numbers"] [] := F_table_lines.binds fun _ _ _ _ _ _ us hl => match us, hl with | [_], _ => rfl
  have b_put_behind : Binds K d_put_behind ["one", "other"] [] := F_put_behind.binds fun _ _ _ _ _ _ us hl => match us, hl with | [_, _], _ => rfl
  have b_solved : Binds K d_solved ["lines", "wanted"] [] := F_solved.binds fun _ _ _ _ _ _ us hl => match us, hl with | [_, _], _ => rfl
  have b_turned_back : Binds K d_turned_back ["numbers"] [] := F_turned_back.binds fun _ _ _ _ _ _ us hl => match us, hl with | [_], _ => rfl
  have b_differences : Binds K d_differences ["numbers", "lines"] [] := F_differences.binds fun _ _ _ _ _ _ us hl => match us, hl with | [_, _], _ => rfl
  have b_binomials : Binds K d_binomials ["t", "many"] [] := F_binomials.binds fun _ _ _ _ _ _ us hl => match us, hl with | [_, _], _ => rfl
  have b_binomial_power : Binds K d_binomial_power ["found", "t"] [] := F_binomial_power.binds fun _ _ _ _ _ _ us hl => match us, hl with | [_, _], _ => rfl
  have b_kind_of : Binds K d_kind_of ["numbers"] [] := F_kind_of.binds fun _ _ _ _ _ _ us hl => match us, hl with | [_], _ => rfl
  have b_first_difference : Binds K d_first_difference ["one", "other"] [] := F_first_difference.binds fun _ _ _ _ _ _ us hl => match us, hl with | [_, _], _ => rfl
  have b_unequal_sides : Binds K d_unequal_sides ["check", "one", "other"] [] := F_unequal_sides.binds fun _ _ _ _ _ _ us hl => match us, hl with | [_, _, _], _ => rfl
  have b_slow_part : Binds K d_slow_part ["step"] [] := F_slow_part.binds fun _ _ _ _ _ _ us hl => match us, hl with | [_], _ => rfl
  have b_flip_straightener : Binds K d_flip_straightener ["flip"] [] := F_flip_straightener.binds fun _ _ _ _ _ _ us hl => match us, hl with | [_], _ => rfl
  have b_stretch_straightener : Binds K d_stretch_straightener ["stretch"] [] := F_stretch_straightener.binds fun _ _ _ _ _ _ us hl => match us, hl with | [_], _ => rfl
  have b_parted : Binds K d_parted ["step"] [] := F_parted.binds fun _ _ _ _ _ _ us hl => match us, hl with | [_], _ => rfl
  have b_is_pure : Binds K d_is_pure ["step"] [] := F_is_pure.binds fun _ _ _ _ _ _ us hl => match us, hl with | [_], _ => rfl
  have b__law_bag : Binds K d__law_bag ["_law_script"] [] := F__law_bag.binds fun _ _ _ _ _ _ us hl => match us, hl with | [_], _ => rfl
  have b__law_draw : Binds K d__law_draw ["_law_bag_here", "_law_many_y"] [] := F__law_draw.binds fun _ _ _ _ _ _ us hl => match us, hl with | [_, _], _ => rfl
  have b__law_of : Binds K d__law_of ["_law_bag_here", "_law_things"] [] := F__law_of.binds fun _ _ _ _ _ _ us hl => match us, hl with | [_, _], _ => rfl
  have b__law_same : Binds K d__law_same ["_law_found", "_law_due"] [] := F__law_same.binds fun _ _ _ _ _ _ us hl => match us, hl with | [_, _], _ => rfl
  have b__law_low : Binds K d__law_low ["_law_num_here", "_law_den"] [] := F__law_low.binds fun _ _ _ _ _ _ us hl => match us, hl with | [_, _], _ => rfl
  have b__law_sub : Binds K d__law_sub ["_law_p", "_law_q"] [] := F__law_sub.binds fun _ _ _ _ _ _ us hl => match us, hl with | [_, _], _ => rfl
  have b__law_mul : Binds K d__law_mul ["_law_p", "_law_q"] [] := F__law_mul.binds fun _ _ _ _ _ _ us hl => match us, hl with | [_, _], _ => rfl
  have b__law_less : Binds K d__law_less ["_law_u", "_law_w"] [] := F__law_less.binds fun _ _ _ _ _ _ us hl => match us, hl with | [_, _], _ => rfl
  have b__law_scaled : Binds K d__law_scaled ["_law_u", "_law_p"] [] := F__law_scaled.binds fun _ _ _ _ _ _ us hl => match us, hl with | [_, _], _ => rfl
  have b__law_x : Binds K d__law_x ["_law_deg"] [] := F__law_x.binds fun _ _ _ _ _ _ us hl => match us, hl with | [_], _ => rfl
  have b__law_whole : Binds K d__law_whole ["_law_u"] [] := F__law_whole.binds fun _ _ _ _ _ _ us hl => match us, hl with | [_], _ => rfl
  have b__law_conv : Binds K d__law_conv ["_law_xs", "_law_ys"] [] := F__law_conv.binds fun _ _ _ _ _ _ us hl => match us, hl with | [_, _], _ => rfl
  have b__law_put : Binds K d__law_put ["_law_u", "_law_f"] [] := F__law_put.binds fun _ _ _ _ _ _ us hl => match us, hl with | [_, _], _ => rfl
  have b__law_num : Binds K d__law_num ["_law_bag_here"] [] := F__law_num.binds fun _ _ _ _ _ _ us hl => match us, hl with | [_], _ => rfl
  have b__law_wide : Binds K d__law_wide ["_law_bag_here"] [] := F__law_wide.binds fun _ _ _ _ _ _ us hl => match us, hl with | [_], _ => rfl
  have b__law_order : Binds K d__law_order ["_law_bag_here"] [] := F__law_order.binds fun _ _ _ _ _ _ us hl => match us, hl with | [_], _ => rfl
  have b__law_step : Binds K d__law_step ["_law_bag_here", "_law_deg", "_law_cc"] [] := F__law_step.binds fun _ _ _ _ _ _ us hl => match us, hl with | [_, _, _], _ => rfl
  have b__law_is_fraction : Binds K d__law_is_fraction ["_law_p"] [] := F__law_is_fraction.binds fun _ _ _ _ _ _ us hl => match us, hl with | [_], _ => rfl
  have b__law_is_step : Binds K d__law_is_step ["_law_told", "_law_f"] [] := F__law_is_step.binds fun _ _ _ _ _ _ us hl => match us, hl with | [_, _], _ => rfl
  have b__law_scaling : Binds K d__law_scaling ["_law_cc", "_law_deg"] [] := F__law_scaling.binds fun _ _ _ _ _ _ us hl => match us, hl with | [_, _], _ => rfl
  have b__law_try : Binds K d__law_try ["_law_ask"] [] := F__law_try.binds fun _ _ _ _ _ _ us hl => match us, hl with | [_], _ => rfl
  have b__law_parts_fit : Binds K d__law_parts_fit ["_law_f", "_law_s", "_law_u", "_law_h"] [] := F__law_parts_fit.binds fun _ _ _ _ _ _ us hl => match us, hl with | [_, _, _, _], _ => rfl
  have b__law_row_of : Binds K d__law_row_of ["_law_thing", "_law_deg"] [] := F__law_row_of.binds fun _ _ _ _ _ _ us hl => match us, hl with | [_, _], _ => rfl
  have b__law_right : Binds K d__law_right ["_law_told", "_law_f"] [] := F__law_right.binds fun _ _ _ _ _ _ us hl => match us, hl with | [_, _], _ => rfl
  have b__law_pure : Binds K d__law_pure ["_law_f"] [] := F__law_pure.binds fun _ _ _ _ _ _ us hl => match us, hl with | [_], _ => rfl
  have b__law_drawn : Binds K d__law_drawn ["_law_bag_here"] [] := F__law_drawn.binds fun _ _ _ _ _ _ us hl => match us, hl with | [_], _ => rfl
  have b__law_once : Binds K d__law_once ["_law_bag_here"] [] := F__law_once.binds fun _ _ _ _ _ _ us hl => match us, hl with | [_], _ => rfl
  have b_law : Binds K d_law ["_law_script"] [] := F_law.binds fun _ _ _ _ _ _ us hl => match us, hl with | [_], _ => rfl
  have bm0 : Binds K dm0 ["self", "numbers"] [] := Fm0.binds fun _ _ _ _ _ _ us hl => match us, hl with | [_, _], _ => rfl
  have bm1 : Binds K dm1 ["order"] [] := Fm1.binds fun _ _ _ _ _ _ us hl => match us, hl with | [_], _ => rfl
  have bm2 : Binds K dm2 ["lead", "order"] [] := Fm2.binds fun _ _ _ _ _ _ us hl => match us, hl with | [_, _], _ => rfl
  have bm3 : Binds K dm3 ["self"] [] := Fm3.binds fun _ _ _ _ _ _ us hl => match us, hl with | [_], _ => rfl
  have bm4 : Binds K dm4 ["self", "t"] [] := Fm4.binds fun _ _ _ _ _ _ us hl => match us, hl with | [_, _], _ => rfl
  have bm5 : Binds K dm5 ["self", "order"] [] := Fm5.binds fun _ _ _ _ _ _ us hl => match us, hl with | [_, _], _ => rfl
  have bm6 : Binds K dm6 ["self", "other"] [] := Fm6.binds fun _ _ _ _ _ _ us hl => match us, hl with | [_, _], _ => rfl
  have bm7 : Binds K dm7 ["self"] [] := Fm7.binds fun _ _ _ _ _ _ us hl => match us, hl with | [_], _ => rfl
  have bm8 : Binds K dm8 ["self", "other"] [] := Fm8.binds fun _ _ _ _ _ _ us hl => match us, hl with | [_, _], _ => rfl
  have bm9 : Binds K dm9 ["self", "title"] [] := Fm9.binds fun _ _ _ _ _ _ us hl => match us, hl with | [_, _], _ => rfl
  have bm10 : Binds K dm10 ["self", "step", "pure", "slow", "straightener"] [] := Fm10.binds fun _ _ _ _ _ _ us hl => match us, hl with | [_, _, _, _, _], _ => rfl
  have bm11 : Binds K dm11 ["self"] [] := Fm11.binds fun _ _ _ _ _ _ us hl => match us, hl with | [_], _ => rfl
  have bm12 : Binds K dm12 ["self", "one", "other"] [] := Fm12.binds fun _ _ _ _ _ _ us hl => match us, hl with | [_, _, _], _ => rfl
  have bm13 : Binds K dm13 ["self"] [] := Fm13.binds fun _ _ _ _ _ _ us hl => match us, hl with | [_], _ => rfl
  have bm14 : Binds K dm14 ["self", "at"] [] := Fm14.binds fun _ _ _ _ _ _ us hl => match us, hl with | [_, _], _ => rfl
  have bm15 : Binds K dm15 ["self", "value"] [] := Fm15.binds fun _ _ _ _ _ _ us hl => match us, hl with | [_, _], _ => rfl
  have bm16 : Binds K dm16 ["self", "first"] [] := Fm16.binds fun _ _ _ _ _ _ us hl => match us, hl with | [_, _], _ => rfl
  have e : f = 959 := Value.ref.inj (Option.some.inj (hfa.symm.trans g_law))
  subst e
  refine ⟨d_law, fun s v => ?_, fun base _ _ hTB => ?_⟩
  · obtain ⟨oc, od, kV, doc, pm, an, cdv, ct, osl, e, lk, hcd⟩ := F_law.ex
    rw [e]
    exact .of_eq rfl
  have Z0 : ErrC P w K mg base "UnlikeOrders" 2 (fs2 "UnlikeOrders" "one" "other") cuA := ⟨x0, ty0, mg_at X G (c.fact 33), 152, dm12, _, i0, fi0, init_5 Fm12 x0 (n0 _ (by decide)) (n0 _ (by decide)) (n0 _ (by decide)), bm12⟩
  have Z1 : ErrC P w K mg base "CantTurn" 0 (fs0 "CantTurn") ctA := ⟨x1, ty1, mg_at X G (c.fact 34), 209, dm13, _, i1, fi1, init_C Fm13 x1 (n1 _ (by decide)) , bm13⟩
  have Z2 : ErrC P w K mg base "InvalidFraction" 1 (fs1 "InvalidFraction" "at") cfA := ⟨x2, ty2, mg_at X G (c.fact 35), 95, dm14, _, i2, fi2, init_2 Fm14 x2 (n2 _ (by decide)) (n2 _ (by decide)), bm14⟩
  have Z3 : ErrC P w K mg base "InvalidOrder" 1 (fs1 "InvalidOrder" "value") coA := ⟨x3, ty3, mg_at X G (c.fact 36), 114, dm15, _, i3, fi3, init_3 Fm15 x3 (n3 _ (by decide)) (n3 _ (by decide)), bm15⟩
  have Z4 : ErrC P w K mg base "NotSlow" 1 (fs1 "NotSlow" "first") csA := ⟨x4, ty4, mg_at X G (c.fact 37), 228, dm16, _, i4, fi4, init_NotSlow Fm16 x4 (n4 _ (by decide)) (n4 _ (by decide)), bm16⟩
  have Uw : Use P w K mg base CX0 1 "is_whole" ["value"] (spWhole K) [] := use0 (ok_whole F_is_whole mI mi mb) b_is_whole F_is_whole.kp g_is_whole
  have Ub : Use P w K mg base CX0 2 "is_between" ["value", "low", "high"] (spBtw K) [] := use0 (ok_btw F_is_between Uw) b_is_between F_is_between.kp g_is_between
  have Uf : Use P w K mg base CX0 2 "is_fraction" ["value"] (spIsG K) [] := use0 (ok_isg F_is_fraction mI mt mn mG Uw) b_is_fraction F_is_fraction.kp g_is_fraction
  have Ur : Use P w K mg base CX0 1 "ratio" ["upper", "lower"] spLowQ [] := use0 (ok_ratio F_ratio mG) b_ratio F_ratio.kp g_ratio
  have Udf : Use P w K mg base CX0 2 "difference_of" ["one", "other"] (spTwoQ K (· - ·)) [] := use0 (ok_difference F_difference_of Ur) b_difference_of F_difference_of.kp g_difference_of
  have Upr : Use P w K mg base CX0 2 "product_of" ["one", "other"] (spTwoQ K (· * ·)) [] := use0 (ok_product F_product_of Ur) b_product_of F_product_of.kp g_product_of
  have Uqu : Use P w K mg base CX0 2 "quotient_of" ["one", "other"] (spDivQ K) [] := use0 (ok_quotient F_quotient_of Ur) b_quotient_of F_quotient_of.kp g_quotient_of
  have Udl : Use P w K mg base CX0 2 "differences_of" ["one", "other"] (spTwoL K (· - ·)) [] := use0 (ok_differences F_differences_of mz Ur) b_differences_of F_differences_of.kp g_differences_of
  have Uco : Use P w K mg base (L2.CX P w) 3 "check_order" ["order"] (spCo K coA) [] := use0 (ok_corder F_check_order Ub mLO mHO Z3) b_check_order F_check_order.kp g_check_order
  have Ucs : Use P w K mg base (L2.CX P w) 3 "check_orders" ["one", "other"] (spCor K cuA) [] := use0 (ok_corders F_check_orders Z0) b_check_orders F_check_orders.kp g_check_orders
  have Ucc : Use P w K mg base (L2.CX P w) 4 "check_cut" ["have", "wanted"] spCcO [] := use0 (ok_ccutO F_check_cut Uco) b_check_cut F_check_cut.kp g_check_cut
  have Uck : Use P w K mg base CX0 3 "check_number" ["value"] (spCkN K) [] := use0 (ok_cnum F_check_number Uf) b_check_number F_check_number.kp g_check_number
  have Uil : Use P w K mg base CX0 1 "is_listing" ["value"] (spIl K) [] := use0 (ok_listing F_is_listing mI ml mt) b_is_listing F_is_listing.kp g_is_listing
  have Uwi : Use P w K mg base CX0 3 "wrong_item" ["numbers"] (spWi K) [] := use0 (ok_wrong F_wrong_item men Uf) b_wrong_item F_wrong_item.kp g_wrong_item
  have Ucf : Use P w K mg base (L2.CX P w) 4 "check_fractions" ["numbers"] (spCf K cfA) [] := use0 (ok_cfrac F_check_fractions Uwi Z2) b_check_fractions F_check_fractions.kp g_check_fractions
  have Ucn : Use P w K mg base (L2.CX P w) 5 "checked_numbers" ["numbers", "further"] (spCn K cfA coA) [] := use0 (ok_checked F_checked_numbers mn ml Uil Uco Ucf Z2) b_checked_numbers F_checked_numbers.kp g_checked_numbers
  have Uiz : Use P w K mg base CX0 1 "is_zero" ["numbers"] (spIz K) [] := use0 (ok_iszero F_is_zero k0 ma mZ) b_is_zero F_is_zero.kp g_is_zero
  have Ulp : Use P w K mg base CX0 1 "least_place" ["numbers", "first"] (spLp K) [] := use0 (ok_least F_least_place k0 men mZ) b_least_place F_least_place.kp g_least_place
  have Uol : Use P w K mg base CX0 1 "over_one_lower" ["numbers"] (spOol K) [] := use0 (ok_ool F_over_one_lower mLc) b_over_one_lower F_over_one_lower.kp g_over_one_lower
  have Umd : Use P w K mg base CX0 2 "multiplied" ["one", "other"] (spMulL K) [] := use0 (ok_multiplied F_multiplied mn mr msum Uol Ur) b_multiplied F_multiplied.kp g_multiplied
  have Umu : Use P w K mg base CX0 3 "multiples_of" ["numbers", "t"] (spMulsL K) [] := use0 (ok_multiples F_multiples_of Upr) b_multiples_of F_multiples_of.kp g_multiples_of
  have Utb : Use P w K mg base CX0 3 "table_lines" ["numbers"] (spTab K) [] := use0 (ok_tab F_table_lines k0 mZ mn Umd) b_table_lines F_table_lines.kp g_table_lines
  have Udo : Use P w K mg base CX0 2 "dot" ["ones", "others"] (spDot K) [] := use0 (ok_dot F_dot mz mLc Ur) b_dot F_dot.kp g_dot
  have Umx : Use P w K mg base CX0 3 "mixed" ["factors", "lists"] (spMix K) [] := use0 (ok_mixed F_mixed mn mr Udo) b_mixed F_mixed.kp g_mixed
  have Usn : Use P w K mg base CX0 1 "still_numbers" ["order"] (spSn K) [] := use0 (ok_stilln F_still_numbers k1 k0 mZ mO) b_still_numbers F_still_numbers.kp g_still_numbers
  have Upb : Use P w K mg base CX0 4 "put_behind" ["one", "other"] (spPut K) [] := use0 (ok_put F_put_behind Umx Utb) b_put_behind F_put_behind.kp g_put_behind
  have Uso : Use P w K mg base CX0 3 "solved" ["lines", "wanted"] (spSolv K) [] := use0 (ok_solved F_solved men Udo Udf Uqu) b_solved F_solved.kp g_solved
  have Utn : Use P w K mg base CX0 4 "turned_back" ["numbers"] (spTrn K) [] := use0 (ok_turned F_turned_back mn Uso Utb Usn) b_turned_back F_turned_back.kp g_turned_back
  have Uds : Use P w K mg base CX0 4 "differences" ["numbers", "lines"] (spDfs K) [] := use0 (ok_dfs F_differences Uiz Umx Udl) b_differences F_differences.kp g_differences
  have Ubn : Use P w K mg base CX0 3 "binomials" ["t", "many"] (spBns K) [] := use0 (ok_bns F_binomials k1 mO mr Upr Uqu Udf) b_binomials F_binomials.kp g_binomials
  have Ubp : Use P w K mg base CX0 4 "binomial_power" ["found", "t"] (spBpw K) [] := use0 (ok_bpw F_binomial_power mn Umx Ubn) b_binomial_power F_binomial_power.kp g_binomial_power
  have Uko : Use P w K mg base CX0 2 "kind_of" ["numbers"] (spKo K) [] := use0 (ok_kind F_kind_of k1 k0 km mZ mO mM Uiz) b_kind_of F_kind_of.kp g_kind_of
  have sk : StepK P w K mg base ceA stA cfA coA := ⟨clS, nAS, mS, ⟨_, _, MkS, ok_stinitF Fm0 clS nAS mn Ucn Uko Ulp, bm0⟩⟩
  have isS : IsS K stA := ⟨tyS', of_decide_eq_true (c.fact 24)⟩
  have pk : PtK P w K mg base ptA := ⟨clP, nAP, mPT⟩
  have pI : PtI K ptA paA := ⟨tyP', of_decide_eq_true (c.fact 25), of_decide_eq_true (c.fact 26)⟩
  have mt' : ∀ t ∈ mtT, PySem.W.findIn K (.ref t.1) t.2.2 = some (some (.ref t.2.1)) ∧ PySem.W.isFn K (.ref t.2.1) = true := fun t ht => by
    obtain ⟨h1, h2⟩ := He.ba (List.all_eq_true.mp (c.fact 39) t ht)
    exact ⟨He.eqO_ok h1, h2⟩
  have stc : StcK P w K mg base stA := ⟨rdB_ok (c.fact 19), ⟨_, _, _, stB_ok (c.fact 21) Fm1.kp, ok_still Fm1 sk Uco Usn, bm1⟩, ⟨_, _, _, stB_ok (c.fact 22) Fm2.kp, ok_sclO Fm2 sk k0 mZ Uck Uco, bm2⟩⟩
  have cfn : CFn K paA (.type "type") "__init__" 697 := cfnB_ok (c.fact 23) Fm9.kp
  have pm : PtM P w K mg base ptA := ⟨pk, ⟨_, _, MkP, ok_ptinit Fm10 pk mPA (rdB_ok (c.fact 20)) cfn (ok_painit Fm9 pk) bm9, bm10⟩⟩
  have Ucw : Use P w K mg base (L2.CX P w) 3 "check_slow" ["step"] (spCkS K stA csA) [] := use0 (ok_cslow F_check_slow sk k1 mO Z4) b_check_slow F_check_slow.kp g_check_slow
  have Uct : Use P w K mg base (L2.CX P w) 3 "check_turnable" ["step"] (spCkT K stA ctA) [] := use0 (ok_cturn F_check_turnable sk k0 mZ Z1) b_check_turnable F_check_turnable.kp g_check_turnable
  have Mnu : MUse P w K mg base CX0 1 stA "numbers" ["self"] (spNuS K stA) [] := ⟨⟨578, dm3, ⟨(mt' (stA, 578, "numbers") (by simp [mtT])).1, (mt' (stA, 578, "numbers") (by simp [mtT])).2, Fm3.kp⟩, ok_snumbers Fm3 sk ml, bm3, fun ks hk => nomatch hk⟩, clS⟩
  have Osm : OpM P w K mg base (L2.CX P w) 8 stA "__mul__" (spOpS K stA cuA) := ⟨⟨634, dm6, _, (mt' (stA, 634, "__mul__") (by simp [mtT])).1, (mt' (stA, 634, "__mul__") (by simp [mtT])).2, ok_smul Fm6 sk Ucs Upb Mnu, bm6⟩, c.fact 27⟩
  have Oin : OpM P w K mg base (L2.CX P w) 8 stA "__invert__" (spInv K stA) := ⟨⟨641, dm7, _, (mt' (stA, 641, "__invert__") (by simp [mtT])).1, (mt' (stA, 641, "__invert__") (by simp [mtT])).2, ok_invert Fm7 sk Uct Utn, bm7⟩, c.fact 27⟩
  have Oeq : OpM P w K mg base CX0 1 stA "__eq__" (spEqF K stA) := ⟨⟨648, dm8, _, (mt' (stA, 648, "__eq__") (by simp [mtT])).1, (mt' (stA, 648, "__eq__") (by simp [mtT])).2, ok_seqF Fm8 sk isS mI, bm8⟩, c.fact 27⟩
  have Mpw : MUse P w K mg base (L2.CX P w) 8 stA "power" ["self", "t"] (spPwF K stA) [] := ⟨⟨592, dm4, ⟨(mt' (stA, 592, "power") (by simp [mtT])).1, (mt' (stA, 592, "power") (by simp [mtT])).2, Fm4.kp⟩, ok_spower Fm4 sk Ub Uf Ucw Uds Usn Utb Ubp mMP, bm4, fun ks hk => nomatch hk⟩, clS⟩
  have Mcu : MUse P w K mg base (L2.CX P w) 8 stA "cut" ["self", "order"] (spCutO K stA) [] := ⟨⟨606, dm5, ⟨(mt' (stA, 606, "cut") (by simp [mtT])).1, (mt' (stA, 606, "cut") (by simp [mtT])).2, Fm5.kp⟩, ok_cutO Fm5 sk Ucc, bm5, fun ks hk => nomatch hk⟩, clS⟩
  have Ufd : Use P w K mg base (L2.CX P w) 4 "first_difference" ["one", "other"] (spFd K stA cuA) [] := use0 (ok_first F_first_difference sk Ucs Mnu men mz) b_first_difference F_first_difference.kp g_first_difference
  have Uuq : Use P w K mg base (L2.CX P w) 5 "unequal_sides" ["check", "one", "other"] (spUnq K stA) [] := use0 (ok_unq F_unequal_sides Ufd) b_unequal_sides F_unequal_sides.kp g_unequal_sides
  have Mwr : MUse P w K mg base (L2.CX P w) 9 ptA "wrong" ["self"] (spWrg K stA ptA) [] := ⟨⟨739, dm11, ⟨(mt' (ptA, 739, "wrong") (by simp [mtT])).1, (mt' (ptA, 739, "wrong") (by simp [mtT])).2, Fm11.kp⟩, ok_wrg Fm11 pk sk stc k0 k1 mZ mO Osm Uuq, bm11, fun ks hk => nomatch hk⟩, clP⟩
  have Usp : Use P w K mg base (L2.CX P w) 9 "slow_part" ["step"] (spSlp20 K stA) [] := use0 (ok_slp F_slow_part sk stc Osm Mpw) b_slow_part F_slow_part.kp g_slow_part
  have Ufs : Use P w K mg base (L2.CX P w) 8 "flip_straightener" ["flip"] (spFls K stA) [] := use0 (ok_fls F_flip_straightener sk Umu Udl Usn Mnu) b_flip_straightener F_flip_straightener.kp g_flip_straightener
  have Uss : Use P w K mg base (L2.CX P w) 8 "stretch_straightener" ["stretch"] (spSts K stA) [] := use0 (ok_sts F_stretch_straightener sk k1 mO mr Udo Udf Uqu Utb Mnu) b_stretch_straightener F_stretch_straightener.kp g_stretch_straightener
  have Upt : Use P w K mg base (L2.CX P w) 10 "parted" ["step"] (spPrt K stA ptA ctA) [["step"]] := useR (ok_prt F_parted sk stc pm Uct Usp Osm Oin Ufs Uss) b_parted F_parted.kp g_parted (kb_one F_parted (fun _ _ _ _ _ _ _ => rfl)) (by decide)
  have Uip : Use P w K mg base (L2.CX P w) 9 "is_pure" ["step"] (spPur K stA) [] := use0 (ok_pur F_is_pure sk Osm) b_is_pure F_is_pure.kp g_is_pure
  have Ldr : Use P w K mg base CX0 1 "_law_draw" ["_law_bag_here", "_law_many_y"] spDraw [] := use0 (ok_draw F__law_draw mn mi) b__law_draw F__law_draw.kp g__law_draw
  have Lof : Use P w K mg base CX0 2 "_law_of" ["_law_bag_here", "_law_things"] spOfL [] := use0 (ok_ofL F__law_of (ok_draw F__law_draw mn mi) b__law_draw F__law_draw.kp g__law_draw mn) b__law_of F__law_of.kp g__law_of
  have Glo := ok_low (P := P) (w := w) (base := base) F__law_low mabs mi
  have Llo : Use P w K mg base CX0 1 "_law_low" ["_law_num_here", "_law_den"] spLowQ [] := use0 (Glo) b__law_low F__law_low.kp g__law_low
  have Lsb : Use P w K mg base CX0 2 "_law_sub" ["_law_p", "_law_q"] (spTwoQ K (· - ·)) [] := use0 (ok_subQ F__law_sub Glo b__law_low F__law_low.kp g__law_low) b__law_sub F__law_sub.kp g__law_sub
  have Lmu : Use P w K mg base CX0 2 "_law_mul" ["_law_p", "_law_q"] (spTwoQ K (· * ·)) [] := use0 (ok_mulQ F__law_mul Glo b__law_low F__law_low.kp g__law_low) b__law_mul F__law_mul.kp g__law_mul
  have Lle : Use P w K mg base CX0 3 "_law_less" ["_law_u", "_law_w"] (spTwoL K (· - ·)) [] := use0 (ok_lless F__law_less mz Lsb) b__law_less F__law_less.kp g__law_less
  have Lsc : Use P w K mg base CX0 3 "_law_scaled" ["_law_u", "_law_p"] (spMulsL K) [] := use0 (ok_lscaled F__law_scaled Lmu) b__law_scaled F__law_scaled.kp g__law_scaled
  have Lx : Use P w K mg base CX0 1 "_law_x" ["_law_deg"] (spX K) [] := use0 (ok_lx F__law_x) b__law_x F__law_x.kp g__law_x
  have Lwh : Use P w K mg base CX0 1 "_law_whole" ["_law_u"] (spOol K) [] := use0 (ok_lwhole F__law_whole mi) b__law_whole F__law_whole.kp g__law_whole
  have Lcv : Use P w K mg base CX0 1 "_law_conv" ["_law_xs", "_law_ys"] (spConv K) [] := use0 (ok_lconv F__law_conv mn mr) b__law_conv F__law_conv.kp g__law_conv
  have Lpu : Use P w K mg base CX0 2 "_law_put" ["_law_u", "_law_f"] (spPutL K) [] := use0 (ok_lput F__law_put mn Lwh Lcv Llo) b__law_put F__law_put.kp g__law_put
  have Lnu : Use P w K mg base CX0 2 "_law_num" ["_law_bag_here"] (spNum K 3 NumQ) [] := use0 (ok_num F__law_num Ldr Llo) b__law_num F__law_num.kp g__law_num
  have Lwi : Use P w K mg base CX0 2 "_law_wide" ["_law_bag_here"] (spNum K 2 WideQ) [] := use0 (ok_wide F__law_wide Ldr Llo) b__law_wide F__law_wide.kp g__law_wide
  have Lor : Use P w K mg base CX0 3 "_law_order" ["_law_bag_here"] spOrd [] := use0 (ok_order F__law_order Ldr Lof) b__law_order F__law_order.kp g__law_order
  have Lst : Use P w K mg base CX0 3 "_law_step" ["_law_bag_here", "_law_deg", "_law_cc"] (spStp K) [] := use0 (ok_stp F__law_step mr Lnu) b__law_step F__law_step.kp g__law_step
  have Lsg : Use P w K mg base CX0 4 "_law_scaling" ["_law_cc", "_law_deg"] (spScg K) [] := use0 (ok_lscaling F__law_scaling Lx Lsc) b__law_scaling F__law_scaling.kp g__law_scaling
  have Ldn : Use P w K mg base CX0 5 "_law_drawn" ["_law_bag_here"] (spDrn K) [] := use0 (ok_drawn F__law_drawn mmin Lor Lof Lst Ldr Lwi Lsg) b__law_drawn F__law_drawn.kp g__law_drawn
  have L0 : FnOk P w K mg base CX0 2 _ _ _ (spLike K 0) := ok_like F__law_same b__law_same g__law_same (fun n' e => by cases e) mI ml mt mb ms mi mn mz ma
  have L1 : FnOk P w K mg base CX0 3 _ _ _ (spLike K 1) := ok_like F__law_same b__law_same g__law_same (fun n' e => by cases e; exact L0) mI ml mt mb ms mi mn mz ma
  have L2 : FnOk P w K mg base CX0 4 _ _ _ (spLike K 2) := ok_like F__law_same b__law_same g__law_same (fun n' e => by cases e; exact L1) mI ml mt mb ms mi mn mz ma
  have L3 : FnOk P w K mg base CX0 5 _ _ _ (spLike K 3) := ok_like F__law_same b__law_same g__law_same (fun n' e => by cases e; exact L2) mI ml mt mb ms mi mn mz ma
  have Lls : Use P w K mg base CX0 5 "_law_same" ["_law_found", "_law_due"] (spLike K 3) [] := use0 (L3) b__law_same F__law_same.kp g__law_same
  have Lis : Use P w K mg base CX0 6 "_law_is_step" ["_law_told", "_law_f"] (spIst K stA) [] := use0 (ok_isstep F__law_is_step sk mn Mnu Lls) b__law_is_step F__law_is_step.kp g__law_is_step
  have Lif : Use P w K mg base CX0 2 "_law_is_fraction" ["_law_p"] (spIfr K) [] := use0 (ok_ifr F__law_is_fraction mI mt mi mb mn Llo) b__law_is_fraction F__law_is_fraction.kp g__law_is_fraction
  have Lpf : Use P w K mg base CX0 4 "_law_parts_fit" ["_law_f", "_law_s", "_law_u", "_law_h"] (spPfi K) [] := use0 (ok_pfi F__law_parts_fit mn ma Lx Lif Lpu Lsc Lle) b__law_parts_fit F__law_parts_fit.kp g__law_parts_fit
  have Lro : Use P w K mg base CX0 6 "_law_row_of" ["_law_thing", "_law_deg"] (spRof K stA) [] := use0 (ok_rof F__law_row_of sk isS mI mn Mnu Lls) b__law_row_of F__law_row_of.kp g__law_row_of
  have Lri : Use P w K mg base CX0 10 "_law_right" ["_law_told", "_law_f"] (spRgt K stA ptA) [] := use0 (ok_rgt F__law_right pk pI mPA mI mn Lro Lis Lls Mwr Lpf) b__law_right F__law_right.kp g__law_right
  have Lpp : Use P w K mg base CX0 3 "_law_pure" ["_law_f"] (spLpu K) [] := use0 (ok_lpure F__law_pure mn Lx Lpu) b__law_pure F__law_pure.kp g__law_pure
  have ZZ : Err1 P w K mg base ctA := ⟨Z1, n1 _ (by decide), of_decide_eq_true (c.fact 38)⟩
  have kit : Kit20 P w K mg base ceA stA ptA paA cfA coA ctA := { sk := sk, isS := isS, stc := stc, eqs := Oeq, pk := pk, draw := Ldr, drn := Ldn, lik := Lls, pur := Uip, lpu := Lpp, prt := Upt, rgt := Lri, ist := Lis, cut := Mcu, Z := ZZ, ask := ⟨_, _, F__law_try, b__law_try, g__law_try⟩, mn := mn }
  have Lon : Use P w K mg base CX0 13 "_law_once" ["_law_bag_here"] (spOnc tbT) [] := use0 (ok_once (fun_c F__law_once (c.fact 41)) kit (hTB (951, 947) c1) t1 tu1) b__law_once F__law_once.kp g__law_once
  exact ok_law F_law mr (use0 (ok_bag F__law_bag ml mi) b__law_bag F__law_bag.kp g__law_bag) Lon
end
end Kx
end
section
set_option maxHeartbeats 0
namespace Kx
open PySem PySem.Spec PyProof.Rows L2
theorem cs_tab {h : Heap} (hT : ∀ a ∈ tabA, h.get? a = some { cls := .none, data := .fields #[] }) : ∀ p ∈ csT, h.get? p.2 = some { cls := .none, data := .fields #[] } := fun p hp => by
  rcases memN hp with e <;> rw [e]
  · exact hT 947 (List.mem_cons_self)
theorem cs_none {K : PySem.W.Frag} (c : SaysR K) : ∀ p ∈ csT, K.lookup p.2 = none := fun p hp => by
  have n := c.fact 40
  have nn : ∀ a ∈ tabA, K.lookup a = none := fun a ha => Option.isNone_iff_eq_none.mp (List.all_eq_true.mp n a ha)
  rcases memN hp with e <;> rw [e]
  · exact nn 947 (List.mem_cons_self)
theorem cs_code {K : PySem.W.Frag} {h : Heap} (X : K.In h) (c : SaysR K) : ∀ p ∈ csT, PySem.W.CodeHd h p.1 p.2 := fun p hp => by
  rcases memN hp with e <;> rw [e]
  · exact PySem.W.codeHd_of_K X (c.fact 42)
theorem tabs_start {H : Hp} (hH : ∀ p ∈ csT, H p.2 = some (.tbl #[])) : LamX.Tabs tbT H := fun p hp => by
  rcases memN hp with e <;> rw [e]
  · exact LamX.TabS.nil (hH _ c1)
end Kx
open PySem PySem.W PySem.Calls PyProof.Rows
theorem PySem.Challenge.cw_creepclocks_k20_whole_partings_holds : PySem.Challenge.rw_creepclocks_k20_whole_partings.Holds := by
  w_on; o_law
  refine HandSHeadRun.head_imp (r := OpenLaw.row PySem.Challenge.rw_creepclocks_k20_whole_partings) (q := view (OpenLaw.row PySem.Challenge.rw_creepclocks_k20_whole_partings).prog [0, 107]) (H := Kx.hookR) (ob := Kx.ob) (M := 20000) (loose := Kx.names) (d := HandSHeadRun.topDef (OpenLaw.row PySem.Challenge.rw_creepclocks_k20_whole_partings).prog 107) (kwd := []) Kx.ob_eq
    Kx.run (by kernel_rfl) (by kernel_rfl) (by kernel_rfl) (by rfl) (by first | assumption | decide +kernel) (by decide +kernel) ⟨rfl, rfl, rfl, rfl, rfl, by decide +kernel⟩ ?hw ?hc
  case hw => w_witness2
  case hc =>
    refine LamX.walk_ofTsE (l := PySem.Challenge.rw_creepclocks_k20_whole_partings) (n := 63) (k := 14) (x := "_law_script") (CX := fun _ => L2.CX0) rfl (by decide) (by kernel_rfl) ⟨rfl, by decide, by decide⟩ ?F (fun _ _ _ _ _ z => z)
    intro w mg fa h Y G hmg0
    obtain ⟨⟨K, KX, c⟩, hT⟩ := Y
    have hmg : mg ("law" : PySem.Str) = some (.ref fa) := by
      have e : (HandSHeadRun.topDef (OpenLaw.row PySem.Challenge.rw_creepclocks_k20_whole_partings).prog 107).name = ("law" : PySem.Str) := by kernel_rfl
      rw [← e]
      exact hmg0
    obtain ⟨fd, hb, hF⟩ := Kx.facts (P := (PySem.Challenge.rw_creepclocks_k20_whole_partings).prog) (w := w) KX G hmg c
    exact ⟨K, KX, fd, Kx.csT, Kx.spLaw K Kx.tbT, Kx.cs_tab hT, Kx.cs_none c, Kx.cs_code KX c, hb, fun H a ns hl _ hH hS => ⟨a, ns, rfl, hS, Kx.tabs_start hH, fun _ => rfl⟩, hF⟩
end
